import PyProof.Rows.All
import HandS.Words
import HandS.Ends
import HandS.Head0
import HandS.Head1
import HandS.Head2
import HandS.Head3
import HandS.HeadEnd
import HandS.HeadHook1
import HandS.HeadHook2
import HandS.HeadHook3
import HandS.HeadHook4
import HandS.HeadNt
import KE.KStateDown
import Lean
import Wide.All
import OpenK.AllK
import Wide.FinOn
import PyProof.EqAt
import PyProof.EqKinds
import PyProof.TupleCall
import PyProof.ReprNest
import PyProof.ReprDict
import HandS.ForMost
import HandS.Exc
import HandS.Defaults
import HandS.ExcInit
import KE.KExcInit
import KE.KExcIs
import KE.KExcMake
import HandS.IsInst
import HandS.Wide
import HandS.WideBits
import HandS.Walk
import HandS.Flow
import HandS.Codes
import HandS.ExcOwn
import HandS.TryMany
import HandS.WordsExc
import KE.KOpsOwn
import HandS.Property
import HandS.Gcd
import HandS.More
import HandS.Slots
import HandS.SlotsOwn
import HandS.OwnEq
import KE.KCallOwn
import HandS.ClsMeth
import HandS.FStr
import HandS.StrMore
import KE.KIntText
import HandS.MakeKwOnly
import PyProof.StrOps2
import HandS.Style
import PyProof.InstNe
import HandS.ExcField
import HandS.Lambda
import KE.GoesMore
import PyProof.EnumMake
import HandS.Steps
import HandS.RaiseMore
import HandS.Small
import KE.SortData
import KE.SortKeyHeap
import HandS.SortKw
import HandS.TupAny
import HandS.DictComp
import HandS.Star
import HandS.Text
import PyProof.FitsReplace
import HandS.DictEq
import PyProof.StrLawsRepr
import HandS.WordsDict
import HandS.MakeKw
import HandS.EndBits
import PySem.Challenge.RW_keptlast_k16_whole_worked_out
set_option Elab.async false
set_option linter.all false
set_option maxRecDepth 100000
set_option maxHeartbeats 0
namespace Gd
open PySem PySem.Spec L2
/-- built-ins that no text of ours hides -/
def frees : List Str := ["abs", "max", "min", "len", "int", "divmod", "range", "tuple", "isinstance", "repr", "all", "any", "str", "bool", "list", "dict", "sorted", "enumerate", "zip", "sum", "ValueError", "LookupError", "RuntimeError", "ArithmeticError"]
end Gd
namespace KA
open PySem PySem.Spec PyProof.Rows L2 Gd
def top (i : Nat) : Stmt := PySem.Challenge.pw_keptlast_k16_whole_worked_out.main.body.getD i (.Pass ⟨0, 0, 0, 0⟩)
abbrev am (j : Nat) : Stmt := inClass (top 29) j
end KA
namespace KD
open PySem PySem.Spec PyProof.Rows L2 Gd KA
abbrev lo (j : Nat) : Stmt := inClass (top 36) j
abbrev tot (j : Nat) : Stmt := inClass (top 34) j
abbrev pro (j : Nat) : Stmt := inClass (top 35) j
end KD
namespace KB
open PySem PySem.Spec PyProof.Rows L2 Gd KA KD
/-! ### what the head's look says -/
abbrev zz (j : Nat) : Stmt := inClass (top 13) j
abbrev kC (K : W.Frag) : Addr := He.ga K "Amount"
abbrev kT (K : W.Frag) : Addr := He.ga K "Total"
abbrev kP (K : W.Frag) : Addr := He.ga K "Product"
abbrev kL (K : W.Frag) : Addr := He.ga K "Loose"
abbrev kZ (K : W.Frag) : Addr := He.ga K "DividedByZero"
abbrev kZA (K : W.Frag) : Addr := He.ga K "AmountError"
/-- the empty tuple that is a Product's default -/
abbrev kTP : W.Frag → Addr := He.dflAt ("Product", some "__init__") 0
def unaB (K : W.Frag) (C : Addr) (m : Str) : Bool := He.eqO (W.findIn K (.ref C) m) (some (some (.ref (He.ma K C m)))) && W.isFn K (.ref (He.ma K C m))
def binB (K : W.Frag) (C : Addr) (nm : String) (r : Bool) : Bool := W.selfFirst K C && (unaB K C (PySem.dunder nm) && ((match r with
    | true => unaB K C (dunderR nm)
    | false => He.eqO (W.findIn K (.ref C) (dunderR nm)) (some none)) && ((W.findIn K (.type "int") (PySem.dunder nm)).isSome && ((W.findIn K (.type "int") (dunderR nm)).isSome &&
  (decide (W.subIn K (.type "int") (.ref C) = some false) && decide (W.subIn K (.ref C) (.type "int") = some false))))))
def mroB (K : W.Frag) (C : Addr) (bm : List Value) : Bool := match W.clsIn K C with
  | some cd => decide (cd.mro = .ref C :: bm)
  | none => false
def noB (K : W.Frag) (C : Addr) (nm : String) : Bool := He.eqO (W.findIn K (.ref C) (dunderI nm)) (some none) && (He.eqO (W.findIn K (.type "object") (dunderI nm)) (some none) && He.eqO (W.findIn K (.type "int") (dunderI nm)) (some none))
def propB (K : W.Frag) (C : Addr) (m : Str) : Bool := He.eqO (W.findIn K (.ref C) m) (some (some (.ref (He.ma K C m)))) && (He.eqO (W.specialIn K (.ref (He.ma K C m)) "__get__") (some (some (.builtin "property.__get__"))) &&
  (decide (W.takesIn K (.ref (He.ma K C m)) = some true) && (match W.recIn K (He.ma K C m) "property" with
    | some (.ref _ :: _) => true
    | _ => false)))
def statB (K : W.Frag) (C : Addr) (m : Str) : Bool := He5.wrapB K C "staticmethod" "staticmethod.__get__" m && (decide (W.typeIn K (.ref C) = some (.type "type")) && (W.keepIn K (.ref (He5.wf K C "staticmethod" m)) && (W.readsIn K C (.type "type") &&
  He.eqO (W.specialIn K (.ref C) "__getattribute__") (some (some (.builtin "type.__getattribute__"))))))
/-- an own == and no own != -/
def eqcB (K : W.Frag) (C : Addr) : Bool := match K.lookup C with
  | some ⟨.type t, _, .cls cd, sl⟩ => decide (t = "type") && (decide (cd.mro = [.ref C, .type "object"]) && (!cd.hasDel && ((match sl.toList with
      | [_, _, _, _, some (.builtin _), _] => true
      | _ => false) && (He.eqO (W.nsIn K cd.ns "__eq__") (some (some (.ref (He.ma K C "__eq__")))) && (He.eqO (W.nsIn K cd.ns "__ne__") (some none) && (match K.lookup cd.ns with
      | some ⟨_, _, .dict es _, _⟩ => es.toList.all fun e => match e.key with
        | .str _ _ => true
        | _ => false
      | _ => false))))))
  | _ => false
def bmZ : List Value := [.type "ArithmeticError", .type "Exception", .type "BaseException", .type "object"]
def bmV : List Value := [.type "ValueError", .type "Exception", .type "BaseException", .type "object"]
def errB (K : W.Frag) (Z U : Addr) (bm : List Value) (nw : String) (fld : Str) : Bool := mroB K Z (.ref U :: bm) && (W.excInitIn K Z bm nw && (W.excOver K Z bm && (W.keepIn K (.ref Z) && (W.hasDictIn K Z && (decide (W.typeIn K (.ref Z) = some (.type "type")) &&
  (He.eqO (W.findIn K (.ref Z) "__init__") (some (some (.ref (He.ma K Z "__init__")))) && (decide (W.typeIn K (.ref (He.ma K Z "__init__")) = some (.type "function")) &&
  (He.eqO (W.findIn K (.ref Z) "__setattr__") (some (some (.builtin "object.__setattr__"))) && (He.eqO (W.findIn K (.ref Z) "__getattribute__") (some (some (.builtin "BaseException.__getattribute__"))) && (He.eqO (W.findIn K (.ref Z) "__getattr__") (some none) &&
  (He.eqO (W.findIn K (.ref Z) "__class__") (some (some (.builtin "object.__class__"))) && (He.eqO (W.takerIn K Z fld) (some none) && (He.eqO (W.findIn K (.ref Z) fld) (some none) && (decide (W.subIn K (.ref Z) (.type "BaseException") = some true) &&
  decide (W.mroIn K Z (.type "object") = some true)))))))))))))))
def clsB (K : W.Frag) (C : Addr) : Bool := He.eqO (W.findIn K (.ref C) "__class__") (some (some (.builtin "object.__class__"))) && (He.eqO (W.specialIn K (.builtin "object.__class__") "__get__") (some (some (.builtin "getset_descriptor.__get__"))) && (decide (W.takesIn K (.builtin "object.__class__") = some true) &&
  (decide (W.mroIn K C (.type "object") = some true) && (decide (W.kitOne K (.ref C) (.ref C) = some true) && decide (W.kitOne K (.type "int") (.ref C) = some false)))))
def exB (K : W.Frag) : Bool := (["add", "mul"] : List String).all (fun nm => binB K (kC K) nm true && noB K (kC K) nm) && (binB K (kC K) "sub" true && (mroB K (kC K) [.type "object"] && ((["__neg__", "__eq__", "__repr__"] : List String).all (fun m => unaB K (kC K) (Str.ofString m)) &&
  ((["top", "bottom", "sign"] : List String).all (fun m => propB K (kC K) (Str.ofString m)) && (statB K (kC K) "of" && (eqcB K (kC K) && (clsB K (kC K) && (errB K (kZ K) (kZA K) bmZ "ArithmeticError.__new__" "rule" &&
  (decide (W.exmOne K (.ref (kZ K)) (.ref (kZA K)) = some true) && (decide (W.kitOne K (.ref (kZ K)) (.ref (kZ K)) = some true) && He.eqO (W.nsIn K mainGlobals "gcd") (some (some (.builtin "math.gcd")))))))))))))
/-! ### the defs -/
def fn : List He5.DefA := [⟨fun K => He.ga K "is_whole", "is_whole", "is_whole", defArgs (top 18), defBody (top 18), defScope (top 18), [], []⟩,
  ⟨fun K => He.ga K "is_name", "is_name", "is_name", defArgs (top 20), defBody (top 20), defScope (top 20), [], []⟩,
  ⟨fun K => He.ga K "is_list", "is_list", "is_list", defArgs (top 21), defBody (top 21), defScope (top 21), [], []⟩,
  ⟨fun K => He.ga K "wrong_name_at", "wrong_name_at", "wrong_name_at", defArgs (top 22), defBody (top 22), defScope (top 22), [], []⟩,
  ⟨fun K => He.ga K "wrong_choice_at", "wrong_choice_at", "wrong_choice_at", defArgs (top 23), defBody (top 23), defScope (top 23), [], []⟩,
  ⟨fun K => He.ga K "sorted_names", "sorted_names", "sorted_names", defArgs (top 24), defBody (top 24), defScope (top 24), [], []⟩,
  ⟨fun K => He.ga K "is_number", "is_number", "is_number", defArgs (top 30), defBody (top 30), defScope (top 30), [], []⟩,
  ⟨fun K => He.ga K "_check_weights", "_check_weights", "_check_weights", defArgs (top 37), defBody (top 37), defScope (top 37), [], []⟩,
  ⟨fun K => He.ga K "_check_side", "_check_side", "_check_side", defArgs (top 38), defBody (top 38), defScope (top 38), [], []⟩,
  ⟨fun K => He.ga K "_checked_ways", "_checked_ways", "_checked_ways", defArgs (top 39), defBody (top 39), defScope (top 39), [], []⟩,
  ⟨fun K => He.ga K "_check_way", "_check_way", "_check_way", defArgs (top 40), defBody (top 40), defScope (top 40), [], []⟩,
  ⟨fun K => He.ga K "_amounts", "_amounts", "_amounts", defArgs (top 41), defBody (top 41), defScope (top 41), [], []⟩,
  ⟨fun K => He.ga K "_others", "_others", "_others", defArgs (top 42), defBody (top 42), defScope (top 42), [], []⟩,
  ⟨fun K => He.ga K "_multiplied", "_multiplied", "_multiplied", defArgs (top 43), defBody (top 43), defScope (top 43), [], []⟩,
  ⟨fun K => He.ga K "_law_pot", "_law_pot", "_law_pot", defArgs (top 50), defBody (top 50), defScope (top 50), [], []⟩,
  ⟨fun K => He.ga K "_law_draw", "_law_draw", "_law_draw", defArgs (top 51), defBody (top 51), defScope (top 51), [], []⟩,
  ⟨fun K => He.ga K "_law_pick", "_law_pick", "_law_pick", defArgs (top 52), defBody (top 52), defScope (top 52), [], []⟩,
  ⟨fun K => He.ga K "_law_named", "_law_named", "_law_named", defArgs (top 53), defBody (top 53), defScope (top 53), [], []⟩,
  ⟨fun K => He.ga K "_law_some", "_law_some", "_law_some", defArgs (top 54), defBody (top 54), defScope (top 54), [], []⟩,
  ⟨fun K => He.ga K "_law_lowest", "_law_lowest", "_law_lowest", defArgs (top 55), defBody (top 55), defScope (top 55), [], []⟩,
  ⟨fun K => He.ga K "_law_weight", "_law_weight", "_law_weight", defArgs (top 56), defBody (top 56), defScope (top 56), [], []⟩,
  ⟨fun K => He.ga K "_law_fraction", "_law_fraction", "_law_fraction", defArgs (top 57), defBody (top 57), defScope (top 57), [], []⟩,
  ⟨fun K => He.ga K "_law_tie", "_law_tie", "_law_tie", defArgs (top 58), defBody (top 58), defScope (top 58), [], []⟩,
  ⟨fun K => He.ga K "_law_rule", "_law_rule", "_law_rule", defArgs (top 59), defBody (top 59), defScope (top 59), [], []⟩,
  ⟨fun K => He.ga K "_law_part", "_law_part", "_law_part", defArgs (top 60), defBody (top 60), defScope (top 60), [], []⟩,
  ⟨fun K => He.ga K "_law_times", "_law_times", "_law_times", defArgs (top 61), defBody (top 61), defScope (top 61), [], []⟩,
  ⟨fun K => He.ga K "_law_plus", "_law_plus", "_law_plus", defArgs (top 62), defBody (top 62), defScope (top 62), [], []⟩,
  ⟨fun K => He.ga K "_law_over", "_law_over", "_law_over", defArgs (top 63), defBody (top 63), defScope (top 63), [], []⟩,
  ⟨fun K => He.ga K "_law_product", "_law_product", "_law_product", defArgs (top 64), defBody (top 64), defScope (top 64), [], []⟩,
  ⟨fun K => He.ga K "_law_sum", "_law_sum", "_law_sum", defArgs (top 65), defBody (top 65), defScope (top 65), [], []⟩,
  ⟨fun K => He.ga K "_law_is_so", "_law_is_so", "_law_is_so", defArgs (top 66), defBody (top 66), defScope (top 66), [], []⟩,
  ⟨fun K => He.ga K "_law_due", "_law_due", "_law_due", defArgs (top 67), defBody (top 67), defScope (top 67), [], []⟩,
  ⟨fun K => He.ga K "_law_shape", "_law_shape", "_law_shape", defArgs (top 68), defBody (top 68), defScope (top 68), [], []⟩,
  ⟨fun K => He.ga K "_law_passed", "_law_passed", "_law_passed", defArgs (top 69), defBody (top 69), defScope (top 69), [], []⟩,
  ⟨fun K => He.ga K "_law_told", "_law_told", "_law_told", defArgs (top 70), defBody (top 70), defScope (top 70), [], []⟩,
  ⟨fun K => He.ga K "_law_way_right", "_law_way_right", "_law_way_right", defArgs (top 71), defBody (top 71), defScope (top 71), [], []⟩,
  ⟨fun K => He.ga K "_law_tie_right", "_law_tie_right", "_law_tie_right", defArgs (top 72), defBody (top 72), defScope (top 72), [], []⟩,
  ⟨fun K => He.ga K "_law_zero_right", "_law_zero_right", "_law_zero_right", defArgs (top 73), defBody (top 73), defScope (top 73), [], []⟩,
  ⟨fun K => He.ga K "_law_right", "_law_right", "_law_right", defArgs (top 74), defBody (top 74), defScope (top 74), [], []⟩,
  ⟨fun K => He.ga K "law", "law", "law", defArgs (top 75), defBody (top 75), defScope (top 75), [], []⟩,
  ⟨fun K => He.ma K (kC K) "__init__", "__init__", "Amount.__init__", defArgs (am 0), defBody (am 0), defScope (am 0), [.int 1], []⟩,
  ⟨fun K => He5.wf K (kC K) "staticmethod" "of", "of", "Amount.of", defArgs (am 1), defBody (am 1), defScope (am 1), [], []⟩,
  ⟨fun K => He5.wf K (kC K) "property" "top", "top", "Amount.top", defArgs (am 3), defBody (am 3), defScope (am 3), [], []⟩,
  ⟨fun K => He5.wf K (kC K) "property" "bottom", "bottom", "Amount.bottom", defArgs (am 4), defBody (am 4), defScope (am 4), [], []⟩,
  ⟨fun K => He5.wf K (kC K) "property" "sign", "sign", "Amount.sign", defArgs (am 5), defBody (am 5), defScope (am 5), [], []⟩,
  ⟨fun K => He.ma K (kC K) "__add__", "__add__", "Amount.__add__", defArgs (am 6), defBody (am 6), defScope (am 6), [], []⟩,
  ⟨fun K => He.ma K (kC K) "__radd__", "__radd__", "Amount.__radd__", defArgs (am 7), defBody (am 7), defScope (am 7), [], []⟩,
  ⟨fun K => He.ma K (kC K) "__sub__", "__sub__", "Amount.__sub__", defArgs (am 8), defBody (am 8), defScope (am 8), [], []⟩,
  ⟨fun K => He.ma K (kC K) "__mul__", "__mul__", "Amount.__mul__", defArgs (am 10), defBody (am 10), defScope (am 10), [], []⟩,
  ⟨fun K => He.ma K (kC K) "__rmul__", "__rmul__", "Amount.__rmul__", defArgs (am 11), defBody (am 11), defScope (am 11), [], []⟩,
  ⟨fun K => He.ma K (kC K) "over", "over", "Amount.over", defArgs (am 12), defBody (am 12), defScope (am 12), [], []⟩,
  ⟨fun K => He.ma K (kC K) "__neg__", "__neg__", "Amount.__neg__", defArgs (am 18), defBody (am 18), defScope (am 18), [], []⟩,
  ⟨fun K => He.ma K (kC K) "__eq__", "__eq__", "Amount.__eq__", defArgs (am 21), defBody (am 21), defScope (am 21), [], []⟩,
  ⟨fun K => He.ma K (kC K) "__repr__", "__repr__", "Amount.__repr__", defArgs (am 27), defBody (am 27), defScope (am 27), [], []⟩,
  ⟨fun K => He.ma K (kT K) "__init__", "__init__", "Total.__init__", defArgs (tot 0), defBody (tot 0), defScope (tot 0), [.int 0], [("ways", .non)]⟩,
  ⟨fun K => He.ma K (kT K) "is_true", "is_true", "Total.is_true", defArgs (tot 5), defBody (tot 5), defScope (tot 5), [], []⟩,
  ⟨fun K => He.ma K (kT K) "worked_out", "worked_out", "Total.worked_out", defArgs (tot 6), defBody (tot 6), defScope (tot 6), [], []⟩,
  ⟨fun K => He.ma K (kT K) "_sum", "_sum", "Total._sum", defArgs (tot 7), defBody (tot 7), defScope (tot 7), [], []⟩,
  ⟨fun K => He.ma K (kP K) "__init__", "__init__", "Product.__init__", defArgs (pro 0), defBody (pro 0), defScope (pro 0), [.adr kTP, .int 1], [("ways", .non)]⟩,
  ⟨fun K => He.ma K (kP K) "is_true", "is_true", "Product.is_true", defArgs (pro 6), defBody (pro 6), defScope (pro 6), [], []⟩,
  ⟨fun K => He.ma K (kP K) "worked_out", "worked_out", "Product.worked_out", defArgs (pro 7), defBody (pro 7), defScope (pro 7), [], []⟩,
  ⟨fun K => He.ma K (kL K) "__init__", "__init__", "Loose.__init__", defArgs (lo 0), defBody (lo 0), defScope (lo 0), [], [("ways", .non)]⟩,
  ⟨fun K => He.ma K (kL K) "is_true", "is_true", "Loose.is_true", defArgs (lo 3), defBody (lo 3), defScope (lo 3), [], []⟩,
  ⟨fun K => He.ma K (kZ K) "__init__", "__init__", "DividedByZero.__init__", defArgs (zz 0), defBody (zz 0), defScope (zz 0), [], []⟩]
def lawNames : List Str := (["_law_pot", "_law_draw", "_law_pick", "_law_named", "_law_some", "_law_lowest", "_law_weight", "_law_fraction", "_law_tie", "_law_rule", "_law_part", "_law_times", "_law_plus", "_law_over", "_law_product", "_law_sum", "_law_is_so", "_law_due", "_law_shape", "_law_passed", "_law_told", "_law_way_right", "_law_tie_right", "_law_zero_right", "_law_right"] : List String).map Str.ofString
def ownNames : List Str := (["Amount", "Total", "Product", "Loose", "DividedByZero", "AmountError", "is_whole", "is_name", "is_list", "wrong_name_at", "wrong_choice_at", "sorted_names", "_check_weights", "_check_side", "_checked_ways", "is_number", "_check_way", "_amounts", "_others", "_multiplied"] : List String).map Str.ofString
def restNames : List Str := (["_wall", "FormError", "InvalidAmount", "InvalidWeights", "InvalidSide", "InvalidWays", "InvalidNumbers", "InvalidText", "MissingError", "UnknownField", "LETTERS", "NAME_SIGNS", "LONGEST_NAME", "is_count", "DIGITS", "MOST_DIGITS", "MOST_POWER", "_are_digits", "Rule", "_signed_term", "_ways_text", "_readings", "_rule_of", "_weights_of"] : List String).map Str.ofString
def noats : List Str := (["_fields", "_ways", "_weights", "_total", "_factor", "_left", "_right"] : List String).map Str.ofString
def fa : List He.Fa := (ownNames ++ lawNames ++ [("law" : Str)]).map He.Fa.glo ++ (frees.map He.Fa.free ++ ([.int "LONGEST_NAME" 8, .str "LETTERS" "abcdefghijklmnopqrstuvwxyz", .str "NAME_SIGNS" "abcdefghijklmnopqrstuvwxyz0123456789", .cls "Amount", .noat "Amount" "_top", .noat "Amount" "_bottom", .mkr "Amount", .meth "Amount" "over", .cls "Total", .cls "Product", .cls "Loose", .mkr "Total", .mkr "Product", .mkr "Loose", .meth "Total" "is_true", .meth "Total" "worked_out", .meth "Total" "_sum", .meth "Product" "is_true", .meth "Product" "worked_out", .meth "Loose" "is_true"] ++ (noats.map (He.Fa.noat "Total") ++ (noats.map (He.Fa.noat "Product") ++ noats.map (He.Fa.noat "Loose")))))
abbrev R : PySem.W.OpenRow := PySem.W.OpenLaw.row PySem.Challenge.rw_keptlast_k16_whole_worked_out
def loose : List Str := ownNames ++ lawNames ++ restNames
/-! ### the objects that are looked at -/
def kids (g : Addr → Option Obj) (a : Addr) : List Addr := match g a with
  | some ⟨_, _, .cls cd, _⟩ => [cd.ns]
  | some ⟨_, _, .func fd, _⟩ => He.refV fd.code ++ (He.refV fd.defaults ++ He.refV fd.kwdefaults)
  | some ⟨_, _, .dict es _, _⟩ => es.toList.flatMap fun e => He.refV e.val
  | some ⟨.type t, _, .fields vs, _⟩ => if t = "property" ∨ t = "staticmethod" then vs.toList.flatMap He.refV else []
  | some ⟨.type t, _, .seq its _, _⟩ => if t = "tuple" then its.toList.flatMap He.refV else []
  | _ => []
def as1 (g : Addr → Option Obj) : List Addr := kids g mainGlobals
def as2 (g : Addr → Option Obj) : List Addr := (as1 g).flatMap (kids g)
def as3 (g : Addr → Option Obj) : List Addr := (as2 g).flatMap (kids g)
def as4 (g : Addr → Option Obj) : List Addr := (as3 g).flatMap (kids g)
def as5 (g : Addr → Option Obj) : List Addr := (as4 g).flatMap (kids g)
def frK (g : Addr → Option Obj) : W.Frag := He.frT g (mainGlobals :: cStatics :: (as1 g ++ (as2 g ++ (as3 g ++ (as4 g ++ as5 g)))))
def tf : List He.Defn := [("_law_way_right", none), ("_law_zero_right", none)]
def tl5 : List (He.Defn × Str) := [(("_law_way_right", none), "_law_way_right.<locals>.<lambda>"), (("_law_zero_right", none), "_law_zero_right.<locals>.<lambda>")]
abbrev TT5 (K : W.Frag) : List (Addr × Str) := tl5.map fun r => ((He.cT K r.1).2, r.2)
def cf (K : W.Frag) (p : Addr) : Addr := ((tl5.find? fun r => decide ((He.cT K r.1).2 = p)).map fun r => (He.cT K r.1).1).getD 0
def diB (K : W.Frag) : Bool := decide ((tl5.map fun r => (He.cT K r.1).2).Nodup)
abbrev AlK : Type := He.AlD × Bool
def seeK (g : Addr → Option Obj) (K : W.Frag) : AlK := (He5.obsA fa fn K, exB K && (diB K && He.tabsB g tf K))
structure SayK (h : Heap) (K : W.Frag) : Prop where
  a : He5.SaysA fa fn K
  ex : exB K = true
  di : diB K = true
  hd : ∀ r ∈ tf, W.codeHdIn K (He.cT K r).1 (He.cT K r).2 = true
  out : ∀ r ∈ tf, K.lookup (He.cT K r).2 = none
  emp : ∀ r ∈ tf, h.get? (He.cT K r).2 = some { cls := .none, data := .fields #[] }
theorem sayK_of {h : Heap} (e : seeK h.get? (frK h.get?) = (He5.valA fn, true)) : SayK h (frK h.get?) := by
  obtain ⟨h1, h2⟩ := He.ba (congrArg (fun z : AlK => z.2) e)
  obtain ⟨h2, h3⟩ := He.ba h2
  have e1 : He5.SaysA fa fn (frK h.get?) := congrArg (fun z : AlK => z.1) e
  have key : ∀ r ∈ tf, W.codeHdIn (frK h.get?) (He.cT (frK h.get?) r).1 (He.cT (frK h.get?) r).2 = true ∧ (frK h.get?).lookup (He.cT (frK h.get?) r).2 = none ∧ h.get? (He.cT (frK h.get?) r).2 = some { cls := .none, data := .fields #[] } := fun r hr => by
    obtain ⟨h4, h5⟩ := He.ba (List.all_eq_true.mp h3 r hr)
    cases q : h.get? (He.cT (frK h.get?) r).2 with
    | none =>
      rw [q] at h5
      cases h5
    | some o =>
      rw [q] at h5
      exact ⟨h4, He.frT_none q h5, by rw [He.emptyTab_eq h5]⟩
  exact ⟨e1, h1, h2, fun r hr => (key r hr).1, fun r hr => (key r hr).2.1, fun r hr => (key r hr).2.2⟩
def hk : PySem.W.Hook where
  α := AlK
  obs := fun s => seeK s.heap.get? (frK s.heap.get?)
  val := fun w => (He5.valA fn, true)
  says := fun w h => ∃ K : W.Frag, K.In h ∧ SayK h K
  of := fun _ _ e => ⟨_, He.frT_in, sayK_of e⟩
  keeps := fun _ _ _ ⟨K, hK, c⟩ k => ⟨K, W.Frag.In.keeps hK k, ⟨c.a, c.ex, c.di, c.hd, c.out, fun r hr => k _ _ (c.emp r hr)⟩⟩
def ob (s : PySem.W.SharedT) : AlK := seeK (HandSHeadRun.getT s) (frK (HandSHeadRun.getT s))
theorem ob_eq (s : PySem.W.SharedT) : ob s = hk.obs s.abs := by
  have e : HandSHeadRun.getT s = s.abs.heap.get? := funext (HandSHeadRun.getT_eq s)
  show seeK (HandSHeadRun.getT s) (frK (HandSHeadRun.getT s)) = seeK s.abs.heap.get? (frK s.abs.heap.get?)
  rw [e]
theorem run (w : World) : HandSHeadRun.RunEqI R (PySem.W.view R.prog [0, 75]) hk ob 20000 loose w := by
  unfold HandSHeadRun.RunEqI
  kernel_rfl
end KB

set_option Elab.async false
set_option linter.all false
set_option maxRecDepth 100000
set_option maxHeartbeats 4000000
/-! Defs that must know that no repr is under way around them. -/
namespace Gd
open PySem PySem.Spec PyProof.Rows L2

/-- nothing that guards a repr runs around -/
abbrev Bare (A : Around) : Prop := A.guards = some []

/-- a def's promise, kept wherever no repr is under way -/
structure FnG (P : Program) (w : World) (K : PySem.W.Frag) (mg : Str → Option Value) (base : Heap) (CX : CXT) (k : Nat) (f : Addr) (fd : FuncData) (ps : List Str) (sp : Sp) : Prop where
  len : ∀ vs H Q E, sp vs H Q E → vs.length = ps.length
  go : ∀ (A : Around) (outer : List Env) (s : Shared) (H : Hp) (args : Args) (us : List Value) (vs : List V) (Q : VK) (E : XK),
    Bare A → Room k A → Env0 P w K mg base A outer s H → BindsTo s fd args (ps.zip us) → Vals vs us → sp vs H Q E →
    codeAny (model P w) A (.call (.ref f) args) (CR CX outer P w H s Q E) s

theorem FnG.of {P : Program} {w : World} {K : PySem.W.Frag} {mg : Str → Option Value} {base : Heap} {CX : CXT} {k : Nat} {f : Addr} {fd : FuncData} {ps : List Str} {sp : Sp}
    (F : FnOk P w K mg base CX k f fd ps sp) : FnG P w K mg base CX k f fd ps sp :=
  ⟨F.len, fun A outer s H args us vs Q E _ hr e0 hb r h => F.run A outer s H args us vs Q E hr e0 hb r h⟩

section
variable {CX : CXT} {P : Program} {w : World} {K : PySem.W.Frag} {mg : Str → Option Value} {base : Heap} {k : Nat} {f : Addr}

/-- such a def by its body -/
theorem fnG_of {name qual : Str} {params : Arguments} {body : List Stmt} {sc : Scope} {dV kV doc pm cdv ct oc : Value} {an od : Option Addr} {osl : Array (Option Value)} {N ps : List Str} {sp : Sp}
    (at_ : K.lookup f = some ⟨oc, od, .func (PySem.W.fnOf name qual params body sc dV kV doc pm an cdv ct), osl⟩)
    (code : PySem.W.codeIn K cdv qual = true) (S : FnScope N ps sc) (len : ∀ vs H Q E, sp vs H Q E → vs.length = ps.length)
    (walk : ∀ (A : Around) (outer : List Env) (s : Shared) (H : Hp) (vs : List V) (Q : VK) (E : XK),
      Bare (A.deeper (envOfC qual sc s.heap.objs.size f cdv)) → Room k (A.deeper (envOfC qual sc s.heap.objs.size f cdv)) → sp vs H Q E →
      ∃ t, PSs (cxOf CX P w K mg base N qual sc f cdv A outer s H E) body t ∧ t { nx := fun _ H' => Q .non H', rt := Q } (start N vs) H) :
    FnG P w K mg base CX (k + 1) f (PySem.W.fnOf name qual params body sc dV kV doc pm an cdv ct) ps sp := by
  refine ⟨len, fun A outer s H args us vs Q E hg room e0 bd rv want => ?_⟩
  have nvs := len _ _ _ _ want
  have inK : K.In s.heap := e0.mod.kin.keeps (fun b o z => (e0.bs b o z).1)
  have noLim : s.heap.NoLimit := e0.mod.nolimit.keeps (fun b o z => (e0.bs b o z).1)
  have kinds : ∀ y ∈ ps.zip us, sc.names.lookup y.1 = some .local ∨
      (sc.names.lookup y.1 = some .cell ∧ ((cellsFrom (s.heap.objs.size + 1) sc.names []).lookup y.1).isSome = true) := by
    rintro ⟨n, v⟩ hy
    cases S.par n (List.of_mem_zip hy).1 with
    | inl z => exact .inl z
    | inr z => exact .inr ⟨z, PySem.W.cellsFrom_some _ _ _ (.inl z)⟩
  refine codeAny_call_function room.depth (inK _ _ at_) rfl S.co S.gen rfl (PySem.W.codeRec_of inK code) (bd _ _ _ _ ?_)
  refine wpAny_newFunctionEnv_cells S.kind kinds (fun env ee s1 ic => ?_)
  subst ee
  refine ⟨noLim.keeps ic.toInCall.keep, codeAny_func ?_⟩
  obtain ⟨t, der, rd⟩ := walk A outer s H vs Q E hg (room.deeper _) want
  have J : Inv (cxOf CX P w K mg base N qual sc f cdv A outer s H E) [] (start N vs) H s1 := inv_start S room.hd e0 nvs rv ic
  refine wpAny_mono (der.run [] s1 (start N vs) H _ J rd) (fun fl s2 hs => ?_) (fun e s2 hs => hs)
  cases fl with
  | ret u =>
    obtain ⟨v, σ2, H2, J2, rv2, q⟩ := hs
    exact ⟨v, H2, J2.os, J2.bare, J2.base, J2.hok, rv2, q⟩
  | next =>
    obtain ⟨σ2, H2, J2, q⟩ := hs
    exact ⟨V.non, H2, J2.os, J2.bare, J2.base, J2.hok, rfl, q⟩
  | brk =>
    obtain ⟨_, _, _, q⟩ := hs
    exact q.elim
  | cont =>
    obtain ⟨_, _, _, q⟩ := hs
    exact q.elim
end

section
variable {P : Program} {w : World} {K : PySem.W.Frag} {mg : Str → Option Value} {base : Heap}
theorem okG {x qual : Str} {st : Stmt} {f : Addr} {fd : FuncData} {N ps : List Str} {k : Nat} {sp : Sp} (F : Fun K x qual st f fd) (S : FnScope N ps (defScope st)) (len : ∀ vs H Q E, sp vs H Q E → vs.length = ps.length)
    (walk : ∀ (cdv : Value) (A : Around) (outer : List Env) (s : Shared) (H : Hp) (vs : List V) (Q : VK) (E : XK), Bare (A.deeper (envOfC qual (defScope st) s.heap.objs.size f cdv)) →
      Room k (A.deeper (envOfC qual (defScope st) s.heap.objs.size f cdv)) → sp vs H Q E →
      ∃ t, PSs (cxOf CX0 P w K mg base N qual (defScope st) f cdv A outer s H E).nox (defBody st) t ∧ t { nx := fun _ H' => Q .non H', rt := Q } (start N vs) H) :
    FnG P w K mg base CX0 (k + 1) f fd ps sp := by
  obtain ⟨oc, od, kV, doc, pm, an, cdv, ct, osl, rfl, at_, code⟩ := F.ex
  refine fnG_of at_ code S len (fun A outer s H vs Q E hg hr want => ?_)
  obtain ⟨t, h, q⟩ := walk cdv A outer s H vs Q E hg hr want
  exact ⟨t, h.nox, q⟩
end

section
variable {X : Cx} {CX : CXT} {k : Nat} {f : Addr} {fd : FuncData} {ps : List Str} {sp : Sp} {dvs : List V} {ds : List Value} {E : XK} {x : Str} {p pos : Pos} {e : Expr} {es : List Expr} {t : TA}
theorem runG {pins : List (Addr × Obj)} {σ : L2.St} {H : Hp} {s : Shared} {Q : VK} {us : List Value} {vs : List V} (hG : Bare X.A) (F : FnG X.prog X.w X.K X.mg X.base CX k f fd ps sp) (hr : Room k X.A) (hb : Binds X.K fd ps ds) (hd : Vals dvs ds)
    (hx : Passes CX X E) (I : Inv X pins σ H s) (r : Vals vs us) (want : sp (vs ++ dvs) H Q E) : wpAny (model X.prog X.w) X.A (call (.ref f) us) (EP X pins σ Q) X.xe s := by
  have all : Vals (vs ++ dvs) (us ++ ds) := r.append hd
  have nl : (us ++ ds).length = ps.length := by
    rw [← all.length]
    exact F.len _ _ _ _ want
  refine wpAny_call (codeAny_mono (F.go X.A X.stack s H ⟨us, []⟩ (us ++ ds) (vs ++ dvs) Q E hG hr I.env0 (hb s us I.kIn nl) all want) (fun res s2 z => ?_))
  cases res with
  | error er => exact hx pins σ H s er s2 I z
  | ok fl =>
    cases fl with
    | ret u => exact I.after z
    | next => exact z.elim
    | brk => exact z.elim
    | cont => exact z.elim
/-- f(e, ..), f a def that wants no repr around -/
theorem pe_callG (hG : Bare X.A) (F : FnG X.prog X.w X.K X.mg X.base CX k f fd ps sp) (hr : Room k X.A) (hg : Gl X x) (hm : X.mg x = some (.ref f)) (hk : PySem.W.keepIn X.K (.ref f) = true) (hb : Binds X.K fd ps ds) (hd : Vals dvs ds)
    (hx : Passes CX X E) (ha : PA X (e :: es) t) (hdb : (x == ("__debug__" : Str)) = false := by decide)
    (he : starEach (e :: es) X.env = (false, eval e X.env) :: starEach es X.env := by rfl) (hpl : (backTo pos (starEach es X.env)).any (·.1) = false := by rfl) :
    PE X (.Call (.Name x p) (e :: es) [] pos) (tCall sp dvs E t) := by
  refine ⟨fun pins s σ H Q I want => wpAny_Call_Name_kw (ld_glob I hg hm ?_ hdb)⟩
  refine PySem.W.callWith_K (h₀ := X.base) I.ok.mod.kin hk (thn (ha.run pos pins s σ H _ I want) fun us s1 ⟨vs, H1, I1, r, q⟩ => ⟨I1.kIn, ?_⟩) he hpl
  exact runG hG F hr hb hd hx I1 r q
end

/-! ### the end of a law -/
theorem lawG {P : Program} {w : World} {K : PySem.W.Frag} {mg mb : Str → Option Value} {k : Nat} {fa a : Addr} {fd : FuncData} {x : Str} {sp : Sp} {s₁ : Shared} {vs : List Value} {ns : List Int}
    (inK : K.In s₁.heap) (hmg : s₁.heap.Ns mainGlobals mg) (hmb : s₁.heap.Ns builtinsNs mb) (hbt : ∀ x : Str, x ≠ "__name__" → mb x = bootBuiltins x) (lim : s₁.heap.NoLimit) (hgen : s₁.gens = #[])
    (hobj : s₁.heap.get? a = some { cls := .type "list", data := .seq vs.toArray }) (hints : IntsAre vs ns) (hlen : ns.length ≤ sizeLine) (room : Room k callerA)
    (F : ∀ base : Heap, K.In base → base.Ns mainGlobals mg → FnG P w K mg base CX0 k fa fd [x] sp) (hbd : ∀ (s : Shared) (u : Value), BindsTo s fd ⟨[u], []⟩ [(x, u)])
    (hsp : ∀ H : Hp, Only H → SqL K H a (ns.map V.int) → sp [.ref a] H (fun v _ => v = .bl true) fun _ _ _ => False) :
    codeAny (model P w) callerA (.call (.ref fa) ⟨[.ref a], []⟩) (fun r s' => r = .ok (.ret (.bool true)) ∧ OldK s₁.heap s'.heap ∧ s'.os = s₁.os ∧ AllBare s'.gens) s₁ := by
  have key : ∀ T : Params → True, True := fun _ => trivial
  -- what the layer's own end proves for defs that run anywhere, at a def that answers at once: its shape is used for ours
  have rv := vals_ints hints
  have nvs := hints.length
  have core : ∀ H : Hp, Only H → SqL K H a (ns.map V.int) → HOk P w H s₁.heap → (∀ b, H b ≠ none → b = a) → (H a ≠ none → K.lookup a = none) →
      codeAny (model P w) callerA (.call (.ref fa) ⟨[.ref a], []⟩) (fun r s' => r = .ok (.ret (.bool true)) ∧ OldK s₁.heap s'.heap ∧ s'.os = s₁.os ∧ AllBare s'.gens) s₁ := by
    intro H only sq hok onlyA notK
    have free_of : ∀ {b : Addr} {o : Obj} {es : Array DictEntry} {ep : Nat}, s₁.heap.get? b = some o → o.data = .dict es ep → H b = none := by
      intro b o es ep e d
      cases q : H b with
      | none => rfl
      | some u =>
        have eb : b = a := onlyA b (by rw [q]; simp)
        rw [eb, hobj] at e
        cases e
        cases (show Data.seq vs.toArray _ = Data.dict es ep from d)
    have ns_of : ∀ {b : Addr} {m : Str → Option Value}, s₁.heap.Ns b m → (hidT s₁.heap H).Ns b m := by
      rintro b m ⟨o, es, ep, e, d, r⟩
      exact ⟨o, es, ep, hidT_get e (free_of e d), d, r⟩
    have inB : K.In (hidT s₁.heap H) := by
      intro b o e
      refine hidT_get (inK b o e) ?_
      cases q : H b with
      | none => rfl
      | some u =>
        have eb : b = a := onlyA b (by rw [q]; simp)
        subst eb
        have z := notK (by rw [q]; simp)
        rw [z] at e
        exact nomatch e
    obtain ⟨mc, l1, l2⟩ := lim
    have md : Mod K mg (hidT s₁.heap H) := ⟨inB, ns_of hmg, ⟨mb, ns_of hmb, hbt⟩, ⟨mc, ns_of l1, l2⟩⟩
    have nil : ∀ b : Addr, b ∉ ([] : List Addr) := fun b z => nomatch z
    have e0 : Env0 P w K mg (hidT s₁.heap H) callerA [] s₁ H :=
      ⟨rfl, md, fun b o e => of_hidT e, Nat.le_of_eq (hidT_size _ _), trivial, fun b hb => absurd (show b ∈ ([] : List Addr) from hb) (nil b), hok, .of_eq hgen⟩
    refine codeAny_mono ((F _ inB (ns_of hmg)).go callerA [] s₁ H ⟨[.ref a], []⟩ [.ref a] [.ref a] _ _ rfl room e0 (hbd s₁ (.ref a)) (.cons rfl .nil) (hsp H only sq)) (fun r s2 z => ?_)
    cases r with
    | error er => exact z.elim
    | ok fl =>
      cases fl with
      | next => exact z.elim
      | brk => exact z.elim
      | cont => exact z.elim
      | ret u =>
        obtain ⟨v, H2, os, bare, un, hok2, rr, q⟩ := z
        have ev : v = .bl true := q
        subst ev
        obtain rfl : u = Value.bool true := rr
        refine ⟨rfl, OldK.of_keep (fun b o e => ?_), os, bare⟩
        cases q2 : H b with
        | none => exact un.keep b o e q2 (nil b) (nil b)
        | some u =>
          cases only b with
          | inl z => rw [q2] at z; cases z
          | inr z =>
            obtain ⟨ob, xs, z⟩ := z
            obtain ⟨e1, _⟩ := hok b _ z
            obtain ⟨e2, _⟩ := hok2 b _ (un.frzs b ob _ z)
            rw [e] at e1
            cases e1
            exact e2
  cases hk : K.lookup a with
  | some o =>
    have e := inK a o hk
    rw [hobj] at e
    cases e
    exact core (fun _ => none) (fun _ => .inl rfl) (.inr ⟨_, vs.toArray, _, hk, rfl, rfl, rfl, by rw [List.size_toArray, nvs]; exact hlen, by simpa using rv⟩)
      (fun b u z => nomatch (show (none : Option HO) = some u from z)) (fun b z => absurd rfl z) (fun z => absurd rfl z)
  | none =>
    refine core (fun b => if b = a then some (.frz { cls := .type "list", data := .seq vs.toArray } (.lst (ns.map V.int))) else none) (fun b => ?_) (.inl (.inr ⟨_, if_pos rfl⟩)) (fun b u z => ?_) (fun b z => ?_) (fun _ => hk)
    · rcases Decidable.em (b = a) with hb | hb
      · exact .inr ⟨_, _, if_pos hb⟩
      · exact .inl (if_neg hb)
    · rcases Decidable.em (b = a) with hb | hb
      · have z2 := (if_pos hb).symm.trans z
        cases z2
        subst hb
        exact ⟨hobj, by rw [List.length_map]; exact hlen, vs, _, rv, hobj⟩
      · have z2 := (if_neg hb).symm.trans z
        cases z2
    · rcases Decidable.em (b = a) with hb | hb
      · exact hb
      · exact absurd (if_neg hb) z
/-- a law over a head by facts -/
theorem walkG {l : PySem.W.OpenLaw} {n k : Nat} {q : Program} {loose : List Str} {XP : (Str → Option Value) → Heap → Prop} {YP : World → Heap → Prop} {d : DefRec} {x : Str}
    (hn : l.most = some n) (hn2 : n ≤ sizeLine) (hdf : d.params.defaults = []) (room : Room k callerA)
    (F : ∀ (w : World) (mg : Str → Option Value) (fa : Addr) (h : Heap), YP w h → h.Ns mainGlobals mg → mg d.name = some (.ref fa) →
      ∃ (K : PySem.W.Frag) (fd : FuncData) (sp : Sp), K.In h ∧ (∀ (s : Shared) (u : Value), BindsTo s fd ⟨[u], []⟩ [(x, u)]) ∧
        (∀ (H : Hp) (a : Addr) (ns : List Int), ns.length ≤ n → Only H → SqL K H a (ns.map V.int) → sp [.ref a] H (fun v _ => v = .bl true) fun _ _ _ => False) ∧
        ∀ base : Heap, K.In base → base.Ns mainGlobals mg → FnG l.prog w K mg base CX0 k fa fd [x] sp) :
    PySem.W.WalkO q loose XP YP l.row.toRowW d [] (fun f vs => PySem.call f vs) := by
  refine Att.attach_call hn hdf (fun w s₀ s₁ mg mb fa o pm cd doc a vs ns G Y ho hd hcd hmg hobj hints hlen hg => ?_)
  obtain ⟨K, fd, sp, inK, hbd, hsp, hF⟩ := F w mg fa _ Y G.T.g hmg
  exact lawG inK G.T.g G.T.b G.T.builtins G.T.nolimit hg hobj hints (Nat.le_trans hlen hn2) room hF hbd (fun H only sq => hsp H a ns hlen only sq)
end Gd

set_option Elab.async false
set_option linter.all false
set_option maxRecDepth 100000
set_option maxHeartbeats 4000000
/-! repr of data at any depth. -/
namespace Gd
open PySem PySem.Spec PyProof.Rows L2

/-- the repr of a key -/
inductive KeyT : Key → Str → Prop
  | int (i : Int) (h : i.natAbs.log2 < 1920) : KeyT (.inl i) (toString i)
  | str (x : Str) (h : (reprText x).length ≤ sizeLine) : KeyT (.inr x) (reprText x)
/-- x is data of depth d at the addresses as, its repr is t -/
inductive Rp (H : Hp) : List Addr → Nat → V → Str → Prop
  | non {as d} : Rp H as d .non "None"
  | bl {as d} (b : Bool) : Rp H as d (.bl b) (if b then "True" else "False")
  | int {as d} (i : Int) (h : i.natAbs.log2 < 1920) : Rp H as d (.int i) (toString i)
  | str {as d} (x : Str) (h : (reprText x).length ≤ sizeLine) : Rp H as d (.str x) (reprText x)
  | lst {as as0 d a xs ts} (h : H a = some (.lst xs)) (na : a ∉ as0) (sub : ∀ b ∈ a :: as0, b ∈ as) (nl : ts.length = xs.length)
      (it : ∀ (i : Nat) (x : V) (t : Str), xs[i]? = some x → ts[i]? = some t → Rp H as0 d x t) : Rp H as (d + 1) (.ref a) (listText ts)
  | tup {as as0 d a xs ts} (h : H a = some (.tup xs)) (na : a ∉ as0) (sub : ∀ b ∈ a :: as0, b ∈ as) (nl : ts.length = xs.length)
      (it : ∀ (i : Nat) (x : V) (t : Str), xs[i]? = some x → ts[i]? = some t → Rp H as0 d x t) : Rp H as (d + 1) (.ref a) (tupleText ts)
  | dic {as as0 d a} {kvs : List (Key × V)} {ps : List (Str × Str)} (h : H a = some (.dK kvs)) (na : a ∉ as0) (sub : ∀ b ∈ a :: as0, b ∈ as) (nl : ps.length = kvs.length)
      (ke : ∀ (i : Nat) (q : Key × V) (p : Str × Str), kvs[i]? = some q → ps[i]? = some p → KeyT q.1 p.1)
      (it : ∀ (i : Nat) (q : Key × V) (p : Str × Str), kvs[i]? = some q → ps[i]? = some p → Rp H as0 d q.2 p.2) : Rp H as (d + 1) (.ref a) (dictText (ps.map fun p => p.1 ++ ": " ++ p.2))

theorem Rp.more {H : Hp} {as as' : List Addr} {d : Nat} {x : V} {t : Str} (r : Rp H as d x t) (h : ∀ b ∈ as, b ∈ as') : Rp H as' d x t := by
  cases r with
  | non => exact .non
  | bl b => exact .bl b
  | int i z => exact .int i z
  | str y z => exact .str y z
  | lst a na sub nl it => exact .lst a na (fun b hb => h b (sub b hb)) nl it
  | tup a na sub nl it => exact .tup a na (fun b hb => h b (sub b hb)) nl it
  | dic a na sub nl ke it => exact .dic a na (fun b hb => h b (sub b hb)) nl ke it
theorem Rp.deep {H : Hp} {as : List Addr} {d : Nat} {x : V} {t : Str} (r : Rp H as d x t) : ∀ d', d ≤ d' → Rp H as d' x t := by
  induction r with
  | non => exact fun _ _ => .non
  | bl b => exact fun _ _ => .bl b
  | int i z => exact fun _ _ => .int i z
  | str y z => exact fun _ _ => .str y z
  | lst a na sub nl it ih =>
    intro d' hd
    obtain ⟨e, rfl⟩ : ∃ e, d' = e + 1 := ⟨d' - 1, by omega⟩
    exact .lst a na sub nl fun i x t h1 h2 => ih i x t h1 h2 e (by omega)
  | tup a na sub nl it ih =>
    intro d' hd
    obtain ⟨e, rfl⟩ : ∃ e, d' = e + 1 := ⟨d' - 1, by omega⟩
    exact .tup a na sub nl fun i x t h1 h2 => ih i x t h1 h2 e (by omega)
  | dic a na sub nl ke it ih =>
    intro d' hd
    obtain ⟨e, rfl⟩ : ∃ e, d' = e + 1 := ⟨d' - 1, by omega⟩
    exact .dic a na sub nl ke fun i q p h1 h2 => ih i q p h1 h2 e (by omega)
/-- what it hangs on stands -/
theorem Rp.keep {H H' : Hp} {as : List Addr} {d : Nat} {x : V} {t : Str} (r : Rp H as d x t) : (∀ b ∈ as, ∀ o, H b = some o → H' b = some o) → Rp H' as d x t := by
  induction r with
  | non => exact fun _ => .non
  | bl b => exact fun _ => .bl b
  | int i z => exact fun _ => .int i z
  | str y z => exact fun _ => .str y z
  | lst a na sub nl it ih => exact fun k => .lst (k _ (sub _ List.mem_cons_self) _ a) na sub nl fun i x t h1 h2 => ih i x t h1 h2 fun b hb => k b (sub b (List.mem_cons_of_mem _ hb))
  | tup a na sub nl it ih => exact fun k => .tup (k _ (sub _ List.mem_cons_self) _ a) na sub nl fun i x t h1 h2 => ih i x t h1 h2 fun b hb => k b (sub b (List.mem_cons_of_mem _ hb))
  | dic a na sub nl ke it ih => exact fun k => .dic (k _ (sub _ List.mem_cons_self) _ a) na sub nl ke fun i q p h1 h2 => ih i q p h1 h2 fun b hb => k b (sub b (List.mem_cons_of_mem _ hb))

section
variable {P : Program} {w : World} {H : Hp} {h : Heap}
theorem keyT_repr {k : Key} {t : Str} {v : Value} (hk : KeyT k t) (e : keyIs k v = true) {as : List Addr} {d : Nat} : ReprK P w as h d v t := by
  cases hk with
  | int i z =>
    obtain ⟨tk, rfl⟩ := Value.isInt_shape (k := i) (v := v) e
    exact .of_is (.int tk z) _ _ _
  | str x z =>
    obtain ⟨tk, rfl⟩ := Value.isStrOf_shape (x := x) (v := v) e
    exact .of_is (.str x tk z) _ _ _
theorem kv_pairs : ∀ {kvs : List (Key × V)} {vs : List (Key × Value)} {es : List DictEntry}, KV kvs vs → Pairs (mixKind P w) es vs →
    es.length = kvs.length ∧ ∀ (i : Nat) (e : DictEntry), es[i]? = some e → ∃ q, kvs[i]? = some q ∧ keyIs q.1 e.key = true ∧ RelV q.2 e.val
  | _, _, _, .nil, .nil => ⟨rfl, fun i e z => nomatch (show none = some e by simpa using z)⟩
  | _, _, _, .cons (a := a) (b := b) r k, .cons (e := e0) hk hv pr => by
    obtain ⟨h1, h2⟩ := kv_pairs k pr
    refine ⟨by simp [h1], fun i e z => ?_⟩
    cases i with
    | zero =>
      have z' : e0 = e := by simpa using z
      subst z'
      refine ⟨a, rfl, ?_, ?_⟩
      · rw [r.1]; exact hk
      · rw [hv]; exact r.2
    | succ i => exact h2 i e (by simpa using z)
theorem Rp.repr (hok : HOk P w H h) {as : List Addr} {d : Nat} {x : V} {t : Str} (r : Rp H as d x t) : ∀ u, RelV x u → ReprK P w as h d u t := by
  induction r with
  | non =>
    rintro u rfl
    exact .of_is .none _ _ _
  | bl b =>
    rintro u rfl
    exact .of_is (.bool b) _ _ _
  | int i z =>
    rintro u ⟨tk, rfl⟩
    exact .of_is (.int tk z) _ _ _
  | str y z =>
    rintro u ⟨tk, rfl⟩
    exact .of_is (.str y tk z) _ _ _
  | @lst as as0 d a xs ts ha na sub nl it ih =>
    intro u ru
    obtain rfl : u = Value.ref a := ru
    obtain ⟨_, its, n, rv, ho⟩ := (show ObjOk P w H h a (.lst xs) from hok a _ ha)
    have nits := rv.length
    cases its with
    | nil =>
      have e1 : ts = [] := List.length_eq_zero_iff.mp (by rw [nl]; simpa using nits)
      subst e1
      exact (ReprK.listEmpty (d := d + 1) ho rfl rfl).more fun b hb => hb
    | cons y l =>
      refine (ReprK.list (as := as0) (d := d) ho rfl rfl na (by rw [nl, nits]; simp) fun i z hz => ?_).more sub
      have hz' : (y :: l)[i]? = some z := by simpa using hz
      have hi : i < xs.length := by
        rw [nits]
        exact (List.getElem?_eq_some_iff.mp hz').1
      obtain ⟨u2, hu2, r2⟩ := rv.get (List.getElem?_eq_getElem hi)
      rw [hz'] at hu2
      cases hu2
      refine ⟨ts[i]'(by omega), List.getElem?_eq_getElem _, ih i _ _ (List.getElem?_eq_getElem hi) (List.getElem?_eq_getElem _) z r2⟩
  | @tup as as0 d a xs ts ha na sub nl it ih =>
    intro u ru
    obtain rfl : u = Value.ref a := ru
    obtain ⟨_, its, rv, o, ho, hc, n, hd⟩ := (show ObjOk P w H h a (.tup xs) from hok a _ ha)
    refine (ReprK.tuple (as := as0) (d := d) ho hc hd na ?_).more sub
    have all : ∀ (xs : List V) (its : List Value) (ts : List Str), Vals xs its → ts.length = xs.length → (∀ (i : Nat) (x : V) (t : Str), xs[i]? = some x → ts[i]? = some t → ∀ u, RelV x u → ReprK P w as0 h d u t) → ReprAllK P w as0 h d its ts := by
      intro xs its ts rv
      induction rv generalizing ts with
      | nil =>
        intro e _
        have e1 : ts = [] := List.length_eq_zero_iff.mp (by simpa using e)
        subst e1
        exact .nil
      | cons r1 _ ihh =>
        intro e k
        cases ts with
        | nil => simp at e
        | cons t ts =>
          exact .cons (k 0 _ _ rfl rfl _ r1) (ihh ts (by simpa using e) fun i x t h1 h2 => k (i + 1) x t (by simpa using h1) (by simpa using h2))
    simpa using all xs its ts rv nl ih
  | @dic as as0 d a kvs ps ha na sub nl ke it ih =>
    intro u ru
    obtain rfl : u = Value.ref a := ru
    obtain ⟨_, hsys, vs, kv, o, es, ep, ho, hx, hd, _, pr, _⟩ := (show ObjOk P w H h a (.dK kvs) from hok a _ ha)
    refine (ReprK.dict (as := as0) (d := d) ho hx.1 hd hsys na ?_).more sub
    obtain ⟨n1, n2⟩ := kv_pairs kv pr
    have all : ∀ (l : List DictEntry) (qs : List (Str × Str)), qs.length = l.length → (∀ (i : Nat) (e : DictEntry) (p : Str × Str), l[i]? = some e → qs[i]? = some p → ReprK P w as0 h d e.key p.1 ∧ ReprK P w as0 h d e.val p.2) →
        ReprEntriesK P w as0 h d l (qs.map fun p => p.1 ++ ": " ++ p.2) := by
      intro l
      induction l with
      | nil =>
        intro qs e _
        have e1 : qs = [] := List.length_eq_zero_iff.mp (by simpa using e)
        subst e1
        exact .nil
      | cons e l ihh =>
        intro qs n k
        cases qs with
        | nil => simp at n
        | cons q qs =>
          obtain ⟨k1, k2⟩ := k 0 e q rfl rfl
          exact .cons k1 k2 (ihh qs (by simpa using n) fun i e p h1 h2 => k (i + 1) e p (by simpa using h1) (by simpa using h2))
    refine all es.toList ps (by rw [nl, n1]) fun i e p h1 h2 => ?_
    obtain ⟨q, hq, hk, hv⟩ := n2 i e h1
    exact ⟨keyT_repr (ke i q p hq h2) hk, ih i q p hq h2 _ hv⟩
end

section
variable {prog : Program} {w : World} {A : Around} {E : Value → Shared → Prop} {s : Shared}
/-- repr(v), by the type's own method -/
theorem repr_slot {T id : String} {v : Value} {Q : Value → Shared → Prop} (hT : s.TypeIs v T) (slot : SlotG T (Str.ofString "__repr__") id) (hu : A.units + 1 < cLine)
    (hc : wpAny (model prog w) A.in1 (call (.builtin id) [v]) (fun r s' => (∃ x u, r = .str x u) ∧ Q r s') E s) : wpAny (model prog w) A (call (.builtin "repr") [v]) Q E s := by
  refine Calls.call_function_entry F.kind_repr F.plain_repr F.entry_repr (F.args_repr1 _) ?_
  unfold Builtin.«repr»
  refine wpAny_bind (m := oneArg "repr" _) (wpAny_pure ?_)
  refine wpAny_bind (wpAny_cRoomFor (by show A.units + 1 < cLine; exact hu) ?_)
  refine wpAny_bind (wpAny_specialOf (name := Str.ofString "__repr__") hT slot.lookup ?_)
  refine wpAny_bind (m := callSpecialIfBound? v (Str.ofString "__repr__")) (wpAny_callSpecialIfBound?_slotG (name := Str.ofString "__repr__") hT slot (wpAny_mono hc (fun r s' hr => ?_) fun _ _ y => y))
  obtain ⟨⟨x, u, rfl⟩, q⟩ := hr
  refine wpAny_bind (wpAny_isInstance (T := "str") (b := true) rfl isSubtype_str_str ?_)
  exact wpAny_pure ⟨_, rfl, q⟩
end

/-- repr(x), x data -/
def rRepr : List V → Hp → VK → Prop := fun vs H Q => ∃ (x : V) (as : List Addr) (d : Nat) (t : Str), vs = [x] ∧ Rp H as d x t ∧ d ≤ 40 ∧ t.length ≤ sizeLine ∧ Q (.str t) H
theorem call_repr {X : Cx} {k : Nat} (hG : Bare X.A) (hr : Room k X.A) : CallR X (.builtin "repr") rRepr := by
  intro pins s σ H vs us Q I r want
  obtain ⟨x, as, d, t, rfl, rp, hd, hz, q⟩ := want
  obtain ⟨u, rfl, ru⟩ := vals1 r
  have hu := hr.units
  have fin : ∀ h' u2 tk, (∀ b o, s.heap.get? b = some o → h'.get? b = some o) → EP X pins σ Q (.str t u2) { s with heap := h', toks := tk } := fun h' u2 tk k => ⟨.str t, H, I.kept k, ⟨u2, rfl⟩, q⟩
  cases rp with
  | non =>
    cases ru
    exact PySem.P.repr_of_none (fin s.heap _ _ fun _ _ e => e)
  | bl b =>
    cases ru
    exact PySem.P.repr_of_bool (fin s.heap _ _ fun _ _ e => e)
  | int i z =>
    obtain ⟨tk, rfl⟩ := ru
    exact PySem.P.repr_of_int z (fin s.heap _ _ fun _ _ e => e)
  | str y z =>
    obtain ⟨tk, rfl⟩ := ru
    exact PySem.P.repr_of_str (fin s.heap _ _ fun _ _ e => e) z
  | @lst _ as0 d a xs ts ha na sub nl it =>
    obtain rfl : u = Value.ref a := ru
    obtain ⟨_, its, n, rv, ho⟩ := (show ObjOk X.prog X.w H s.heap a (.lst xs) from I.hok a _ ha)
    have nits := rv.length
    refine repr_slot ⟨_, ho, rfl⟩ F.slot_list_repr.toG (by omega) ?_
    cases its with
    | nil =>
      have e1 : ts = [] := List.length_eq_zero_iff.mp (by rw [nl]; simpa using nits)
      subst e1
      exact PySem.call_list_repr_empty ⟨_, ho, rfl⟩ ho rfl ⟨⟨_, _, rfl⟩, fin s.heap _ _ fun _ _ e => e⟩
    | cons y l =>
      refine PySem.call_list_reprK (g := []) (as := as0) (d := d) (h₀ := s.heap) ho rfl rfl na (by rw [nl, nits]; simp) (fun i z hz => ?_) hG (fun b _ => Clear.nil b) (by show X.A.units + 1 + (d + 1) < cLine; omega) (fun _ _ e => e)
        (fun h' u2 tk k => ⟨⟨_, _, rfl⟩, fin h' u2 tk k⟩) hz
      have hz' : (y :: l)[i]? = some z := by simpa using hz
      have hi : i < xs.length := by
        rw [nits]
        exact (List.getElem?_eq_some_iff.mp hz').1
      obtain ⟨u2, hu2, r2⟩ := rv.get (List.getElem?_eq_getElem hi)
      rw [hz'] at hu2
      cases hu2
      exact ⟨ts[i]'(by omega), List.getElem?_eq_getElem _, (it i _ _ (List.getElem?_eq_getElem hi) (List.getElem?_eq_getElem _)).repr I.hok z r2⟩
  | @tup _ as0 d a xs ts ha na sub nl it =>
    obtain rfl : u = Value.ref a := ru
    have rk := (Rp.tup ha na sub nl it).repr I.hok (.ref a) rfl
    obtain ⟨_, its, rv, o, ho, hc, n, hdt⟩ := (show ObjOk X.prog X.w H s.heap a (.tup xs) from I.hok a _ ha)
    refine repr_slot ⟨_, ho, hc⟩ F.slot_tuple_repr (by omega) ?_
    refine PySem.call_tuple_reprK (g := []) (as := as0) (d := d) (h₀ := s.heap) ho hc hdt na ?_ hG (fun b _ => Clear.nil b) (by show X.A.units + 1 + (d + 1) < cLine; omega) (fun _ _ e => e)
        (fun h' u2 tk k => ⟨⟨_, _, rfl⟩, fin h' u2 tk k⟩) hz
    have all : ∀ (xs : List V) (its : List Value) (ts : List Str), Vals xs its → ts.length = xs.length → (∀ (i : Nat) (x : V) (t : Str), xs[i]? = some x → ts[i]? = some t → ∀ u, RelV x u → ReprK X.prog X.w as0 s.heap d u t) → ReprAllK X.prog X.w as0 s.heap d its ts := by
      intro xs its ts rv
      induction rv generalizing ts with
      | nil =>
        intro e _
        have e1 : ts = [] := List.length_eq_zero_iff.mp (by simpa using e)
        subst e1
        exact .nil
      | cons r1 _ ihh =>
        intro e k
        cases ts with
        | nil => simp at e
        | cons t ts =>
          exact .cons (k 0 _ _ rfl rfl _ r1) (ihh ts (by simpa using e) fun i x t h1 h2 => k (i + 1) x t (by simpa using h1) (by simpa using h2))
    simpa using all xs its ts rv nl fun i x t h1 h2 => (it i x t h1 h2).repr I.hok
  | @dic _ as0 d a kvs ps ha na sub nl ke it =>
    obtain rfl : u = Value.ref a := ru
    obtain ⟨_, hsys, vs, kv, o, es, ep, ho, hx, hdt, _, pr, _⟩ := (show ObjOk X.prog X.w H s.heap a (.dK kvs) from I.hok a _ ha)
    refine repr_slot ⟨_, ho, hx.1⟩ F.slot_dict_repr (by omega) ?_
    refine PySem.call_dict_reprK (g := []) (as := as0) (d := d) (h₀ := s.heap) ho hx.1 hdt hsys na ?_ hG (fun b _ => Clear.nil b) (by show X.A.units + 1 + (d + 1) < cLine; omega) (fun _ _ e => e)
        (fun h' u2 tk k => ⟨⟨_, _, rfl⟩, fin h' u2 tk k⟩) hz
    obtain ⟨n1, n2⟩ := kv_pairs kv pr
    have all : ∀ (l : List DictEntry) (qs : List (Str × Str)), qs.length = l.length → (∀ (i : Nat) (e : DictEntry) (p : Str × Str), l[i]? = some e → qs[i]? = some p → ReprK X.prog X.w as0 s.heap d e.key p.1 ∧ ReprK X.prog X.w as0 s.heap d e.val p.2) →
        ReprEntriesK X.prog X.w as0 s.heap d l (qs.map fun p => p.1 ++ ": " ++ p.2) := by
      intro l
      induction l with
      | nil =>
        intro qs e _
        have e1 : qs = [] := List.length_eq_zero_iff.mp (by simpa using e)
        subst e1
        exact .nil
      | cons e l ihh =>
        intro qs n k
        cases qs with
        | nil => simp at n
        | cons q qs =>
          obtain ⟨k1, k2⟩ := k 0 e q rfl rfl
          exact .cons k1 k2 (ihh qs (by simpa using n) fun i e p h1 h2 => k (i + 1) e p (by simpa using h1) (by simpa using h2))
    refine all es.toList ps (by rw [nl, n1]) fun i e p h1 h2 => ?_
    obtain ⟨q, hq, hk, hv⟩ := n2 i e h1
    exact ⟨keyT_repr (ke i q p hq h2) hk, (it i q p hq h2).repr I.hok _ hv⟩
end Gd

set_option Elab.async false
set_option linter.all false
set_option maxRecDepth 100000
set_option maxHeartbeats 4000000
/-! Own exceptions made with keywords, over any of the built-in bases. -/
namespace Ge
open PySem
open PySem.Builtin PySem.Builtin.ObjectAttr PySem.HandSPX
section
variable {M : Model} {A : Around} {E : Value → Shared → Prop} {h : Heap} {g : Array GenState} {d : Drawn} {t : Nat} {os : OsState}
variable {nm q : Str} {C N : Addr} {bs bm bmB : List Value} {hdct : Bool} {sn : List Str} {sub : List Value} {ab : Bool} {col : Option Bool} {dd : Option Addr} {k0 k1 k2 k3 k5 : Option Value} {B newId initId : String}
theorem chk_new (F : ExcBaseFacts B newId initId bmB) (hT : ∀ X : String, bm.contains (.type X) = bmB.contains (.type X)) {rest : List Value} {kw : List (Str × Value)} {Q : Unit → Shared → Prop}
    (hC : h.get? C = some (excClassObj nm q C N bs bm hdct sn sub ab col dd k0 k1 k2 k3 k5 newId)) (hq : Q () ⟨h, g, d, t, os⟩) : wpAny M A (checkBuiltinCall newId ⟨.ref C :: rest, kw⟩) Q E ⟨h, g, d, t, os⟩ := by
  have has : (Value.ref C :: bm).contains (.type B) = true := by (rw [List.contains_cons, hT, F.hasB]; exact Bool.or_true _)
  have star := F.noStar
  simp only [checkBuiltinCall, F.newKind, F.newSplit, F.newRow, Bind.checkArgs, Bind.check]
  repeat (first | refine wpAny_loadPart_at hC ?_ | (refine wpAny_isSubtype_exc hC ?_; rw [has]) | refine wpAny_staticBase_exc hC ?_ | refine wpAny_madeBy_exc hC ?_ | simp only [bne_self_eq_false, Bool.false_eq_true, if_false] | wp_step)
  all_goals exact hq
end

section
variable {prog : Program} {w : World} {A : Around} {E : Value → Shared → Prop} {R : Result → Shared → Prop} {h : Heap} {g : Array GenState} {d : Drawn} {t : Nat} {os : OsState}
variable {nm q : Str} {C N : Addr} {bs bm bmB : List Value} {hdct : Bool} {sn : List Str} {sub : List Value} {ab : Bool} {col : Option Bool} {dd : Option Addr} {k0 k1 k2 k3 k5 : Option Value} {B newId initId : String}
/-- what lies behind a class's __new__ -/
abbrev newHeap (h : Heap) (C : Addr) (rest : List Value) : Heap := (h.push (W.kdv_tup rest)).push (excO C h.objs.size)
theorem new_any (F : ExcBaseFacts B newId initId bmB) (hT : ∀ X : String, bm.contains (.type X) = bmB.contains (.type X)) {rest : List Value} {kw : List (Str × Value)}
    (hC : h.get? C = some (excClassObj nm q C N bs bm hdct sn sub ab col dd k0 k1 k2 k3 k5 newId)) (hz : rest.length ≤ sizeLine) (hq : R (.ok (.ret (.ref (h.objs.size + 1)))) ⟨newHeap h C rest, g, d, t, os⟩) :
    codeAny (model prog w) A (.builtin newId ⟨.ref C :: rest, kw⟩) R ⟨h, g, d, t, os⟩ := by
  have ends := F.ends
  have isB : (Value.ref C :: bm).contains (.type B) = true := by (rw [List.contains_cons, hT, F.hasB]; exact Bool.or_true _)
  have noA : (Value.ref C :: bm).contains (.type "AttributeError") = false := by (rw [List.contains_cons, hT, F.noAttr]; exact rfl)
  have noN : (Value.ref C :: bm).contains (.type "NameError") = false := by (rw [List.contains_cons, hT, F.noName]; exact rfl)
  refine codeAny_builtinAt F.entry ?_
  (unfold Builtin.«BaseException.__new__»; refine wpAt_bind ?_)
  show wpAt _ _ _ (stack >>= _) _ _ _
  (refine wpAt_bind (wpAt_stack fun p below => wpAt_of_wpAny ?_); wp_walk; refine wpAt_of_wpAny ?_; rw [F.owner])
  repeat (first | with_reducible refine wpAny_madeHere_exc F.canon hC ?_ | with_reducible refine wpAny_loadPart_at hC ?_ | (with_reducible refine wpAny_isSubtype_exc hC ?_; first | rw [isB] | rw [noA] | rw [noN]) | wp_step)
  show R _ _
  rw [Heap.size_push]
  exact hq
theorem type_call_any (F : ExcBaseFacts B newId initId bmB) (hT : ∀ X : String, bm.contains (.type X) = bmB.contains (.type X)) {rest : List Value} {kw : List (Str × Value)} {fI : Addr} {Q : Fin → Shared → Prop}
    (hC : h.get? C = some (excClassObj nm q C N bs bm hdct sn sub ab col dd k0 k1 k2 k3 k5 newId)) (hi : W.Looks (model prog w) h (typeLookup (.ref C) "__init__") (some (.ref fI)))
    (hb : ∀ self, W.Looks (model prog w) h (bindSpecial (.ref fI) self) (.ref fI, [self])) (hz : rest.length ≤ sizeLine)
    (hq : codeAny (model prog w) A (.call (.ref fI) ⟨.ref (h.objs.size + 1) :: rest, kw⟩)
      (fun r s' => match r with | .ok (.ret v) => v = .none ∧ Q (.done (.ret (.ref (h.objs.size + 1)))) s' | .ok _ => False | .error e => E e s') ⟨newHeap h C rest, g, d, t, os⟩) :
    wpAny (model prog w) A (Builtin.«type.__call__» ⟨.ref C :: rest, kw⟩) Q E ⟨h, g, d, t, os⟩ := by
  repeat (first | with_reducible refine wpAny_loadPart_at hC ?_ | with_reducible refine wpAny_madeBy_exc hC ?_ | wp_step)
  refine codeAny_call_builtin_code (Code.quiet_builtin _ F.quiet) (chk_new F hT hC (new_any F hT hC hz ?_))
  show wpAny _ _ _ _ _ _
  have k : ∀ b o, h.get? b = some o → (newHeap h C rest).get? b = some o := fun b o z => Heap.get?_push_of_some _ (Heap.get?_push_of_some _ z)
  have c1 := k _ _ hC
  have x1 : (newHeap h C rest).get? (h.objs.size + 1) = some (excO C h.objs.size) := by (show ((h.push (W.kdv_tup rest)).push (excO C h.objs.size)).get? (h.objs.size + 1) = _; heap_get)
  have self : (Value.ref C :: bm).contains (.ref C) = true := by simp only [List.contains_cons, beq_self_eq_true, Bool.true_or]
  have i1 := hi.keeps k
  have b1 := (hb (.ref (h.objs.size + 1))).keeps k
  unfold isInstance
  repeat (first | with_reducible refine wpAny_loadPart_at x1 ?_ | (with_reducible refine wpAny_isSubtype_exc c1 ?_; rw [self]) | wp_step)
  show wpAny _ _ (typeLookup (.ref C) _) _ _ _
  refine i1.at (wpAny_holding (wpAny_bind (b1.at ?_)))
  refine wpAny_bind (wpAny_call (codeAny_mono hq fun r s' z => ?_))
  cases r with
  | error e => exact z
  | ok fl =>
    cases fl with
    | ret v =>
      obtain ⟨rfl, z⟩ := z
      first
        | exact wpAny_pure (wpAny_pure z)
        | (wp_walk; exact z)
    | next => exact z.elim
    | brk => exact z.elim
    | cont => exact z.elim
theorem call_any (F : ExcBaseFacts B newId initId bmB) (hT : ∀ X : String, bm.contains (.type X) = bmB.contains (.type X)) {rest : List Value} {kw : List (Str × Value)} {fI : Addr}
    (hC : h.get? C = some (excClassObj nm q C N bs bm hdct sn sub ab col dd k0 k1 k2 k3 k5 newId)) (hi : W.Looks (model prog w) h (typeLookup (.ref C) "__init__") (some (.ref fI)))
    (hb : ∀ self, W.Looks (model prog w) h (bindSpecial (.ref fI) self) (.ref fI, [self])) (hz : rest.length ≤ sizeLine)
    (hq : codeAny (model prog w) (A.under (.builtin "type.__call__" ⟨.ref C :: rest, kw⟩)) (.call (.ref fI) ⟨.ref (h.objs.size + 1) :: rest, kw⟩) (W.InitBack (h.objs.size + 1) R) ⟨newHeap h C rest, g, d, t, os⟩) :
    codeAny (model prog w) A (.call (.ref C) ⟨rest, kw⟩) R ⟨h, g, d, t, os⟩ := by
  have f1 := tc_lookup
  have f2 := tc_bind (.ref C)
  have isT : (⟨h, g, d, t, os⟩ : Shared).TypeIs (.ref C) "type" := ⟨_, hC, rfl⟩
  refine codeAny_of_tree ?_
  show wpAny _ _ (callAny (.ref C) _) _ _ _
  repeat (any_goals (first | assumption | with_reducible refine wpAny_loadPart_at hC ?_ | wp_step))
  refine ⟨rfl, codeAny_call_builtin_at (Code.quiet_builtin _ (by decide +kernel)) entry_typeCall (wpAny_check_type_call_sub hC (type_call_any F hT hC hi hb hz ?_))⟩
  refine codeAny_mono hq fun r s' z => ?_
  cases r with
  | error e => exact z
  | ok fl => cases fl <;> exact z
end
end Ge

set_option Elab.async false
set_option linter.all false
set_option maxRecDepth 100000
set_option maxHeartbeats 4000000
/-! An own error class whose __init__ stores its parameters: made, held, read. -/
namespace Ge
open PySem PySem.Spec L2
open PySem.Builtin PySem.Builtin.ObjectAttr PySem.HandSPX

/-- what the written part says of such a class at C, its __init__ at fI, its fields fs -/
structure EC (K : W.Frag) (C fI : Addr) (B newId initId : String) (bmB : List Value) (fs : List Str) : Prop where
  base : ExcBaseFacts B newId initId bmB
  sto : StoreFacts B bmB "object.__setattr__" "object"
  init : W.excInitIn K C bmB newId = true
  over : W.excOver K C bmB = true
  keep : W.keepIn K (.ref C) = true
  iC : W.findIn K (.ref C) "__init__" = some (some (.ref fI))
  tI : W.typeIn K (.ref fI) = some (.type "function")
  sa : W.findIn K (.ref C) "__setattr__" = some (some (.builtin "object.__setattr__"))
  hd : W.hasDictIn K C = true
  tak : ∀ f ∈ fs, W.takerIn K C f = some none

section
variable {prog : Program} {w : World} {A : Around} {E : Value → Shared → Prop} {R : Result → Shared → Prop} {hp : Heap} {g : Array GenState} {d : Drawn} {t : Nat} {os : OsState}
variable {K : W.Frag} {C fI : Addr} {B newId initId : String} {bmB : List Value} {fs : List Str} {name : Str} {v : Value}
/-- x.name = v, the first one -/
theorem put_new (T : EC K C fI B newId initId bmB fs) {tk : Tok} {x : Addr} {fv : Array Value} (X : K.In hp) (hx : hp.get? x = some { cls := .ref C, data := .fields fv }) (ht : name ∈ fs)
    (hq : ∀ h' tk' dx, (∀ b o, b ≠ x → hp.get? b = some o → h'.get? b = some o) → hp.objs.size ≤ dx → dx ≠ x → h'.get? x = some { cls := .ref C, dict := some dx, data := .fields fv } →
      h'.Ns1 dx (fun y => if y = name then some v else none) → R (.ok (.ret .none)) ⟨h', g, d, tk', os⟩) :
    codeAny (model prog w) A (.call (.builtin "object.__setattr__") ⟨[.ref x, .str name tk, v], []⟩) R ⟨hp, g, d, t, os⟩ := by
  obtain ⟨cd, hc, hdct⟩ := W.any_some T.hd
  have xs : x ≠ hp.objs.size := Nat.ne_of_lt (Heap.lt_size hx)
  have cls : W.Looks (model prog w) hp (classData C) cd := W.looks_clsIn X hc
  refine W.osa_openX (od := none) T.sto X ⟨hx, rfl, rfl, trivial⟩ T.over (T.tak _ ht) (fun b => ?_)
  show wpAny _ _ (storeInOwnDict (.ref x) (.ref C) (.str name tk) name v b) _ _ _
  obtain ⟨nm, bs, mro, ns, qn, has, sn, sb, ab, col, del⟩ := cd
  (dsimp only at hdct; subst hdct)
  (unfold storeInOwnDict ownDictForStores)
  repeat (first | with_reducible refine store_in_new ?_ ?_ | with_reducible refine wpAny_loadPart_at hx ?_ | with_reducible refine cls.at ?_ | wp_step)
  · exact ⟨_, #[], _, (Heap.get?_update_ne _ _ _ _ xs.symm).trans (Heap.get?_push_at rfl rfl), rfl, fun e he => absurd he (by simp), fun _ => rfl⟩
  · intro h' tk' hn' hs
    have hx1 : (hp.push { cls := .type "dict", data := .dict #[] }).get? x = some { cls := .ref C, data := .fields fv } := Heap.get?_push_of_some _ hx
    refine hq h' tk' hp.objs.size (fun b o hb ho => ?_) (Nat.le_refl _) xs.symm ((hs.2 x xs).trans (Heap.get?_update_self _ hx1 rfl)) hn'
    exact (hs.2 b (Nat.ne_of_lt (Heap.lt_size ho))).trans ((Heap.get?_update_ne _ _ _ _ hb).trans (Heap.get?_push_of_some _ ho))
/-- .. a further one -/
theorem put_old (T : EC K C fI B newId initId bmB fs) {tk : Tok} {x dx : Addr} {fv : Array Value} {m0 : Str → Option Value} {nl : List Str} (X : K.In hp) (hx : hp.get? x = some { cls := .ref C, dict := some dx, data := .fields fv }) (hn : hp.Ns1 dx m0)
    (hw : Within m0 nl) (hz : nl.length ≤ 1000) (ht : name ∈ fs)
    (hq : ∀ h' tk', (∀ b o, b ≠ dx → hp.get? b = some o → h'.get? b = some o) → h'.Ns1 dx (fun y => if y = name then some v else m0 y) → R (.ok (.ret .none)) ⟨h', g, d, tk', os⟩) :
    codeAny (model prog w) A (.call (.builtin "object.__setattr__") ⟨[.ref x, .str name tk, v], []⟩) R ⟨hp, g, d, t, os⟩ := by
  obtain ⟨cd, hc, hdct⟩ := W.any_some T.hd
  obtain ⟨oD, esD, epD, hoD, hdD, _⟩ := hn.count hw
  have cls : W.Looks (model prog w) hp (classData C) cd := W.looks_clsIn X hc
  refine W.osa_openX (od := some oD) T.sto X ⟨hx, rfl, rfl, hoD⟩ T.over (T.tak _ ht) (fun b => ?_)
  show wpAny _ _ (storeInOwnDict (.ref x) (.ref C) (.str name tk) name v b) _ _ _
  obtain ⟨nm, bs, mro, ns, qn, has, sn, sb, ab, col, del⟩ := cd
  (dsimp only at hdct; subst hdct)
  (unfold storeInOwnDict ownDictForStores)
  repeat (first | with_reducible refine OEX.store_in_old hn hw hz ?_ | with_reducible refine wpAny_loadPart_at hx ?_ | with_reducible refine cls.at ?_ | wp_step)
  intro h' tk' hn' hs
  exact hq h' tk' (fun b o hb ho => (hs.2 b hb).trans ho) hn'
end

/-- a made error: e, its dict d with the fields m -/
structure Made (h h' : Heap) (e C d : Addr) (m : Str → Option Value) : Prop where
  keep : ∀ b o, h.get? b = some o → h'.get? b = some o
  new : h.objs.size ≤ e
  obj : ∃ t1 : Addr, h'.get? e = some { cls := .ref C, dict := some d, data := .fields #[.ref t1, .none, .none, .none, .bool false, .none] }
  dbig : h.objs.size ≤ d
  dne : d ≠ e
  ns : h'.Ns1 d m
def iBody1 (f : Str) (q1 q2 q3 q4 : Pos) : List Stmt := [.Assign [.Attribute (.Name "self" q1) f q2] (.Name f q3) q4]
def iBody2 (f f2 : Str) (q1 q2 q3 q4 r1 r2 r3 r4 : Pos) : List Stmt := [.Assign [.Attribute (.Name "self" q1) f q2] (.Name f q3) q4, .Assign [.Attribute (.Name "self" r1) f2 r2] (.Name f2 r3) r4]
def iScope (names : List Str) : Scope := { kind := .function, names := names.map fun n => (n, .local), isGenerator := false, isCoroutine := false, more := [] }
section
variable {prog : Program} {w : World} {A : Around} {E : Value → Shared → Prop} {R : Result → Shared → Prop} {s : Shared}
variable {K : W.Frag} {C fI : Addr} {B newId initId : String} {bmB : List Value} {fs : List Str}
variable {qual : Str} {params : Arguments} {oc dV kV doc pm cdv ct : Value} {an od : Option Addr} {osl : Array (Option Value)}
/-- a local read -/
theorem ld {M : Model} {s : Shared} {nm : Str} {sc : Scope} {L a : Addr} {cd : Value} {m : Str → Option Value} {x : Str} {pos : Pos} {v : Value} {Q : Value → Shared → Prop} {A : Around} {E : Value → Shared → Prop} (hn : s.heap.Ns L m) (hv : m x = some v) (h : Q v s)
    (hk : sc.kind = .function) (hl : (PyProof.Rows.envOfC nm sc L a cd).kindOf x = some .local) (hd : (x == ("__debug__" : Str)) = false) : wpAny M A (eval (.Name x pos) (PyProof.Rows.envOfC nm sc L a cd)) Q E s :=
  wpAny_Name (wpAny_loadName_local hk hl hn hv h) hd
theorem init1 (T : EC K C fI B newId initId bmB fs) {f : Str} {q1 q2 q3 q4 : Pos} {x t0 : Addr} {v : Value} {args : Args} (X : K.In s.heap) (lim : s.heap.NoLimit) (hx : s.heap.get? x = some (excO C t0)) (room : A.depth < recursionLimit)
    (at_ : K.lookup fI = some ⟨oc, od, .func (W.fnOf "__init__" qual params (iBody1 f q1 q2 q3 q4) (iScope ["self", f]) dV kV doc pm an cdv ct), osl⟩) (code : W.codeIn K cdv qual = true)
    (bd : BindsTo s (W.fnOf "__init__" qual params (iBody1 f q1 q2 q3 q4) (iScope ["self", f]) dV kV doc pm an cdv ct) args [("self", .ref x), (f, v)])
    (ht : f ∈ fs) (h1 : ("self" == f) = false) (h2 : (f == ("__debug__" : Str)) = false) (h3 : (f == ("self" : Str)) = false)
    (hq : ∀ h' tk dx, (∀ b o, b ≠ x → s.heap.get? b = some o → h'.get? b = some o) → h'.get? x = some { cls := .ref C, dict := some dx, data := .fields #[.ref t0, .none, .none, .none, .bool false, .none] } → s.heap.objs.size ≤ dx → dx ≠ x →
      h'.Ns1 dx (fun y => if y = f then some v else none) → R (.ok (.ret .none)) { s with heap := h', toks := tk }) :
    codeAny (model prog w) A (.call (.ref fI) args) R s := by
  have e1 : ("self" : Str) ≠ f := by simpa using h1
  have look : ∀ y : Str, (y = "self" ∨ y = f) → (iScope ["self", f]).names.lookup y = some .local := by
    intro y hy
    rcases hy with rfl | rfl
    · simp [iScope, List.lookup]
    · simp [iScope, List.lookup, h3]
  refine Att.call_fn (binds := [("self", .ref x), (f, v)]) X lim at_ code room bd (by simp [look]) (fun s₁ IC => ?_) rfl rfl rfl
  obtain ⟨hh, tk1, rfl⟩ := IC.toInCall.same
  have k : ∀ b o, s.heap.get? b = some o → hh.get? b = some o := IC.toInCall.keep
  have hn := IC.toInCall.ns
  have X1 : K.In hh := X.keeps k
  have x1 := k _ _ hx
  have k1 : (PyProof.Rows.envOfC qual (iScope ["self", f]) s.heap.objs.size fI cdv).kindOf "self" = some .local := look _ (.inl rfl)
  have k2 : (PyProof.Rows.envOfC qual (iScope ["self", f]) s.heap.objs.size fI cdv).kindOf f = some .local := look _ (.inr rfl)
  have m1 : bindL (PyProof.Rows.envOfC qual (iScope ["self", f]) s.heap.objs.size fI cdv).kindOf [("self", .ref x), (f, v)] (fun _ => none) "self" = some (.ref x) := by
    simp [bindL, k1, k2, e1]
  have m2 : bindL (PyProof.Rows.envOfC qual (iScope ["self", f]) s.heap.objs.size fI cdv).kindOf [("self", .ref x), (f, v)] (fun _ => none) f = some v := by
    simp [bindL, k1, k2]
  have z : s.heap.objs.size < hh.objs.size := hn.lt
  show wpAny _ _ (execs [.Assign [.Attribute (.Name "self" q1) f q2] (.Name f q3) q4] _) _ _ _
  refine wpAny_execs_cons (plainObj_wpAny_Assign_Attribute ?_)
  refine ld (v := v) hn m2 (ld (v := .ref x) hn m1 ?_ rfl k1 (by decide)) rfl k2 h2
  refine W.set_plain X1 (ox := excO C t0) (od := none) ⟨x1, rfl, rfl, trivial⟩ T.sa (put_new T X1 x1 ht (fun h3 tk3 dx k3 dn dne hx3 hn3 => ?_))
  show wpAny _ _ (execs [] _) _ _ _
  exact wpAny_execs_nil (hq h3 tk3 dx (fun b o hb e => k3 b o hb (k b o e)) hx3 (Nat.le_of_lt (Nat.lt_of_lt_of_le z dn)) dne hn3)
theorem init2 (T : EC K C fI B newId initId bmB fs) {f f2 : Str} {q1 q2 q3 q4 r1 r2 r3 r4 : Pos} {x t0 : Addr} {v v2 : Value} {args : Args} (X : K.In s.heap) (lim : s.heap.NoLimit) (hx : s.heap.get? x = some (excO C t0)) (room : A.depth < recursionLimit)
    (hnx : K.lookup x = none) (at_ : K.lookup fI = some ⟨oc, od, .func (W.fnOf "__init__" qual params (iBody2 f f2 q1 q2 q3 q4 r1 r2 r3 r4) (iScope ["self", f, f2]) dV kV doc pm an cdv ct), osl⟩) (code : W.codeIn K cdv qual = true)
    (bd : BindsTo s (W.fnOf "__init__" qual params (iBody2 f f2 q1 q2 q3 q4 r1 r2 r3 r4) (iScope ["self", f, f2]) dV kV doc pm an cdv ct) args [("self", .ref x), (f, v), (f2, v2)])
    (ht : f ∈ fs) (ht2 : f2 ∈ fs) (h1 : ("self" == f) = false) (h2 : (f == ("__debug__" : Str)) = false) (h3 : (f == ("self" : Str)) = false) (h4 : ("self" == f2) = false) (h5 : (f2 == ("__debug__" : Str)) = false) (h6 : (f2 == ("self" : Str)) = false) (h7 : (f2 == f) = false)
    (hq : ∀ h' tk dx, (∀ b o, b ≠ x → s.heap.get? b = some o → h'.get? b = some o) → h'.get? x = some { cls := .ref C, dict := some dx, data := .fields #[.ref t0, .none, .none, .none, .bool false, .none] } → s.heap.objs.size ≤ dx → dx ≠ x →
      h'.Ns1 dx (fun y => if y = f2 then some v2 else if y = f then some v else none) → R (.ok (.ret .none)) { s with heap := h', toks := tk }) :
    codeAny (model prog w) A (.call (.ref fI) args) R s := by
  have e1 : ("self" : Str) ≠ f := by simpa using h1
  have e4 : ("self" : Str) ≠ f2 := by simpa using h4
  have e7 : f2 ≠ f := by simpa using h7
  have look : ∀ y : Str, (y = "self" ∨ y = f ∨ y = f2) → (iScope ["self", f, f2]).names.lookup y = some .local := by
    intro y hy
    rcases hy with rfl | rfl | rfl
    · simp [iScope, List.lookup]
    · simp [iScope, List.lookup, h3]
    · simp [iScope, List.lookup, h6, h7]
  refine Att.call_fn (binds := [("self", .ref x), (f, v), (f2, v2)]) X lim at_ code room bd (by simp [look]) (fun s₁ IC => ?_) rfl rfl rfl
  obtain ⟨hh, tk1, rfl⟩ := IC.toInCall.same
  have k : ∀ b o, s.heap.get? b = some o → hh.get? b = some o := IC.toInCall.keep
  have hn := IC.toInCall.ns
  have X1 : K.In hh := X.keeps k
  have x1 := k _ _ hx
  have k1 : (PyProof.Rows.envOfC qual (iScope ["self", f, f2]) s.heap.objs.size fI cdv).kindOf "self" = some .local := look _ (.inl rfl)
  have k2 : (PyProof.Rows.envOfC qual (iScope ["self", f, f2]) s.heap.objs.size fI cdv).kindOf f = some .local := look _ (.inr (.inl rfl))
  have k3 : (PyProof.Rows.envOfC qual (iScope ["self", f, f2]) s.heap.objs.size fI cdv).kindOf f2 = some .local := look _ (.inr (.inr rfl))
  have m1 : bindL (PyProof.Rows.envOfC qual (iScope ["self", f, f2]) s.heap.objs.size fI cdv).kindOf [("self", .ref x), (f, v), (f2, v2)] (fun _ => none) "self" = some (.ref x) := by
    simp [bindL, k1, k2, k3, e1, e4]
  have m2 : bindL (PyProof.Rows.envOfC qual (iScope ["self", f, f2]) s.heap.objs.size fI cdv).kindOf [("self", .ref x), (f, v), (f2, v2)] (fun _ => none) f = some v := by
    simp [bindL, k1, k2, k3, Ne.symm e7]
  have m3 : bindL (PyProof.Rows.envOfC qual (iScope ["self", f, f2]) s.heap.objs.size fI cdv).kindOf [("self", .ref x), (f, v), (f2, v2)] (fun _ => none) f2 = some v2 := by
    simp [bindL, k1, k2, k3]
  have z : s.heap.objs.size < hh.objs.size := hn.lt
  have xL : x ≠ s.heap.objs.size := Nat.ne_of_lt (Heap.lt_size hx)
  show wpAny _ _ (execs [.Assign [.Attribute (.Name "self" q1) f q2] (.Name f q3) q4, .Assign [.Attribute (.Name "self" r1) f2 r2] (.Name f2 r3) r4] _) _ _ _
  refine wpAny_execs_cons (plainObj_wpAny_Assign_Attribute ?_)
  refine ld (v := v) hn m2 (ld (v := .ref x) hn m1 ?_ rfl k1 (by decide)) rfl k2 h2
  refine W.set_plain X1 (ox := excO C t0) (od := none) ⟨x1, rfl, rfl, trivial⟩ T.sa (put_new T X1 x1 ht (fun hA tkA dx kA dn dne hxA hnA => ?_))
  obtain ⟨oD, esD, epD, hoD, hdD, _⟩ := hnA.count (Within.cons f v Within.nil)
  have hnL : hA.Ns s.heap.objs.size _ := hn.at fun o q => kA _ o xL.symm q
  have XA : K.In hA := fun b o q => kA b o (fun e => by rw [e, hnx] at q; cases q) (X1 b o q)
  refine wpAny_execs_cons (plainObj_wpAny_Assign_Attribute ?_)
  refine ld (v := v2) hnL m3 (ld (v := .ref x) hnL m1 ?_ rfl k1 (by decide)) rfl k3 h5
  refine W.set_plain XA (ox := { cls := .ref C, dict := some dx, data := .fields #[.ref t0, .none, .none, .none, .bool false, .none] }) (od := some oD) ⟨hxA, rfl, rfl, hoD⟩ T.sa
    (put_old T XA hxA hnA (Within.cons f v Within.nil) (by simp) ht2 (fun hB tkB kB hnB => ?_))
  show wpAny _ _ (execs [] _) _ _ _
  refine wpAny_execs_nil (hq hB tkB dx (fun b o hb e => kB b o ?_ (kA b o hb (k b o e))) (kB x _ (Ne.symm dne) hxA) (Nat.le_of_lt (Nat.lt_of_lt_of_le z dn)) dne hnB)
  exact Nat.ne_of_lt (Nat.lt_of_lt_of_le (Heap.lt_size (k b o e)) dn)
/-- C(..), from what its __init__ does -/
theorem made_by (T : EC K C fI B newId initId bmB fs) {us : List Value} {kw : List (Str × Value)} {m : Str → Option Value} (X : K.In s.heap) (hz : us.length ≤ sizeLine) (room : A.depth + 1 < recursionLimit)
    (hi : ∀ (A' : Around) (s' : Shared) (x t0 : Addr) (R' : Result → Shared → Prop), (∀ b o, s.heap.get? b = some o → s'.heap.get? b = some o) → s'.heap.get? x = some (excO C t0) → K.lookup x = none → A'.depth < recursionLimit →
      (∀ h' tk dx, (∀ b o, b ≠ x → s'.heap.get? b = some o → h'.get? b = some o) → h'.get? x = some { cls := .ref C, dict := some dx, data := .fields #[.ref t0, .none, .none, .none, .bool false, .none] } → s'.heap.objs.size ≤ dx → dx ≠ x →
        h'.Ns1 dx m → R' (.ok (.ret .none)) { s' with heap := h', toks := tk }) → codeAny (model prog w) A' (.call (.ref fI) ⟨.ref x :: us, kw⟩) R' s')
    (hq : ∀ h' tk e d, Made s.heap h' e C d m → R (.ok (.ret (.ref e))) { s with heap := h', toks := tk }) :
    codeAny (model prog w) A (.call (.ref C) ⟨us, kw⟩) R s := by
  obtain ⟨nm, N, qn, bs, bm, hdct, sn, sub, ab, col, dd, k0, k1, k2, k3, k5, hC, hT⟩ := W.excInit_of X T.init
  obtain ⟨hp, g, dr, tk, os⟩ := s
  have k : ∀ b o, hp.get? b = some o → (newHeap hp C us).get? b = some o := fun b o e => Heap.get?_push_of_some _ (Heap.get?_push_of_some _ e)
  have x1 : (newHeap hp C us).get? (hp.objs.size + 1) = some (excO C hp.objs.size) := by (show ((hp.push (W.kdv_tup us)).push (excO C hp.objs.size)).get? (hp.objs.size + 1) = _; heap_get)
  have nx : K.lookup (hp.objs.size + 1) = none := by
    cases e : K.lookup (hp.objs.size + 1) with
    | none => rfl
    | some o => exact absurd (Nat.lt_of_succ_lt (Heap.lt_size (X _ _ e))) (Nat.lt_irrefl _)
  refine call_any T.base hT hC (W.looks_findIn X T.iC) (fun self => W.bind_fn X self T.tI) hz ?_
  refine hi _ ⟨newHeap hp C us, g, dr, tk, os⟩ (hp.objs.size + 1) hp.objs.size _ k x1 nx (by rw [make_depth]; exact room) (fun h' tk' dx k' hx dn dne hns => ?_)
  have z : hp.objs.size + 1 + 1 ≤ dx := by
    have q : (newHeap hp C us).objs.size ≤ dx := dn
    rw [Heap.size_push, Heap.size_push] at q
    exact q
  exact ⟨rfl, hq h' tk' (hp.objs.size + 1) dx ⟨fun b o e => k' b o (Nat.ne_of_lt (Nat.lt_succ_of_lt (Heap.lt_size e))) (k b o e), Nat.le_succ _, ⟨_, hx⟩, (by show hp.objs.size ≤ dx; omega), dne, hns⟩⟩
end

section
variable {X : Cx} {pins : List (Addr × Obj)} {σ : L2.St} {H : Hp} {s : Shared} {C : Addr}
theorem relO_one {v : V} {u : Value} (r : RelV v u) (f y : Str) : RelO (List.lookup y [(f, v)]) (if y = f then some u else none) := relO_put (fs := []) (mA := fun _ => none) r (fun _ => trivial) y
theorem relO_two {v v2 : V} {u u2 : Value} (r : RelV v u) (r2 : RelV v2 u2) (f f2 y : Str) : RelO (List.lookup y [(f2, v2), (f, v)]) (if y = f2 then some u2 else if y = f then some u else none) :=
  relO_put (fs := [(f, v)]) (mA := fun y => if y = f then some u else none) r2 (fun g => relO_one r f g) y
/-- a made error, tracked -/
theorem Inv.err (I : Inv X pins σ H s) {h' : Heap} {tk : Nat} {e d : Addr} {m : Str → Option Value} {fs : List (Str × V)} (M : Made s.heap h' e C d m) (r : ∀ y, RelO (fs.lookup y) (m y)) :
    H e = none ∧ H d = none ∧ Inv X pins σ (upd (upd H d (exd d fs)) e (exo e C (some d))) { s with heap := h', toks := tk } := by
  have ne := I.hok.fresh M.new
  have nd := I.hok.fresh M.dbig
  have be : ∀ {b : Addr} {o : Obj}, s.heap.get? b = some o → b ≠ e := fun q => Nat.ne_of_lt (Nat.lt_of_lt_of_le (Heap.lt_size q) M.new)
  have bd : ∀ {b : Addr} {o : Obj}, s.heap.get? b = some o → b ≠ d := fun q => Nat.ne_of_lt (Nat.lt_of_lt_of_le (Heap.lt_size q) M.dbig)
  have keepH : ∀ {b : Addr} {o : HO}, H b = some o → upd (upd H d (exd d fs)) e (exo e C (some d)) b = some o := fun q => by
    rw [upd_ne (ne_of_none q ne), upd_ne (ne_of_none q nd)]
    exact q
  refine ⟨ne, nd, I.un (t' := tk) { keep := fun b o q _ _ _ => M.keep b o q, slot := fun b o q _ _ _ => ⟨o.slots, M.keep b o q⟩, free := fun b o q n _ => ?_, there := fun b o q _ => ⟨o, M.keep b o q⟩, tups := fun b xs q => keepH q, frzs := fun b o u q => keepH q, tbls := fun b ps q => ⟨#[], by rw [keepH q]; simp⟩ } (fun b o q => ?_)⟩
  · rw [upd_ne (be q), upd_ne (bd q)]
    exact n
  · by_cases hb : b = e
    · subst hb
      rw [upd_same] at q
      cases q
      obtain ⟨t1, ht⟩ := M.obj
      exact exo_ok ht
    · rw [upd_ne hb] at q
      by_cases hd : b = d
      · subst hd
        rw [upd_same] at q
        cases q
        exact exd_ok M.ns r
      · rw [upd_ne hd] at q
        exact (I.hok b o q).stay (fun c v _ z => M.keep c v z) (fun c z => keepH z) fun c xs z => keepH z
end
end Ge

set_option Elab.async false
set_option linter.all false
set_option maxRecDepth 100000
set_option maxHeartbeats 4000000
/-! Rules: an own error made, its field read, isinstance of it. -/
namespace Ge
open PySem PySem.Spec L2 PySem.HandSPX

/-- an error class of one parameter | of two | without an own __init__: what its call makes -/
structure E1 (K : W.Frag) (C : Addr) (f : Str) : Prop where
  keep : W.keepIn K (.ref C) = true
  does : ∀ {prog : Program} {w : World} {A : Around} {R : Result → Shared → Prop} {s : Shared} {us : List Value} {kw : List (Str × Value)} {v : Value}, (us = [v] ∧ kw = []) ∨ (us = [] ∧ kw = [(f, v)]) → K.In s.heap → s.heap.NoLimit → A.depth + 1 < recursionLimit →
    (∀ h' tk e d, Made s.heap h' e C d (fun y => if y = f then some v else none) → R (.ok (.ret (.ref e))) { s with heap := h', toks := tk }) → codeAny (model prog w) A (.call (.ref C) ⟨us, kw⟩) R s
structure E2 (K : W.Frag) (C : Addr) (f f2 : Str) : Prop where
  keep : W.keepIn K (.ref C) = true
  does : ∀ {prog : Program} {w : World} {A : Around} {R : Result → Shared → Prop} {s : Shared} {us : List Value} {kw : List (Str × Value)} {v v2 : Value}, (us = [v, v2] ∧ kw = []) ∨ (us = [] ∧ kw = [(f2, v2), (f, v)]) → K.In s.heap → s.heap.NoLimit → A.depth + 1 < recursionLimit →
    (∀ h' tk e d, Made s.heap h' e C d (fun y => if y = f2 then some v2 else if y = f then some v else none) → R (.ok (.ret (.ref e))) { s with heap := h', toks := tk }) → codeAny (model prog w) A (.call (.ref C) ⟨us, kw⟩) R s
structure E0c (K : W.Frag) (C : Addr) : Prop where
  keep : W.keepIn K (.ref C) = true
  does : ∀ {prog : Program} {w : World} {A : Around} {E : Value → Shared → Prop} {Q : Value → Shared → Prop} {s : Shared}, K.In s.heap →
    (∀ h' e t, (∀ b o, s.heap.get? b = some o → h'.get? b = some o) → s.heap.objs.size ≤ e → h'.get? e = some (W.excObj C t none .none) → Q (.ref e) { s with heap := h' }) → wpAny (model prog w) A (call (.ref C) []) Q E s

section
variable {X : Cx} {C : Addr} {x f f2 : Str} {e e2 : Expr} {es : List Expr} {kws : List Keyword} {te te2 : TE} {ta tk : TA} {p pos kp kp2 : Pos} {k : Nat} {pins : List (Addr × Obj)} {σ : L2.St} {H : Hp} {s : Shared} {Q : VK}
/-- the heap with a new error at e, its dict at d -/
abbrev withErr (H : Hp) (C e d : Addr) (fs : List (Str × V)) : Hp := upd (upd H d (exd d fs)) e (exo e C (some d))
def tMk1 (C : Addr) (f : Str) (ta : TA) : TE := fun σ H Q => ta σ H fun vs H1 => ∃ v, vs = [v] ∧ ∀ e d, H1 e = none → H1 d = none → d ≠ e → Q (.ref e) (withErr H1 C e d [(f, v)])
def tMk2 (C : Addr) (f f2 : Str) (ta : TA) : TE := fun σ H Q => ta σ H fun vs H1 => ∃ v v2, vs = [v, v2] ∧ ∀ e d, H1 e = none → H1 d = none → d ≠ e → Q (.ref e) (withErr H1 C e d [(f2, v2), (f, v)])
def tMk2k (C : Addr) (f f2 : Str) (ta : TA) : TE := fun σ H Q => ta σ H fun vs H1 => ∃ v v2, vs = [v2, v] ∧ ∀ e d, H1 e = none → H1 d = none → d ≠ e → Q (.ref e) (withErr H1 C e d [(f2, v2), (f, v)])
def tMk0 (C : Addr) : TE := fun _ H Q => ∀ e, H e = none → Q (.ref e) (upd H e (exo e C none))
theorem run1 (T : E1 X.K C f) (hr : Room k X.A) (I : Inv X pins σ H s) {us : List Value} {kw : List (Str × Value)} {v : V} {u : Value} (ru : RelV v u) (h : (us = [u] ∧ kw = []) ∨ (us = [] ∧ kw = [(f, u)]))
    (q : ∀ e d, H e = none → H d = none → d ≠ e → Q (.ref e) (withErr H C e d [(f, v)])) : wpAny (model X.prog X.w) X.A (call (.ref C) us kw) (EP X pins σ Q) X.xe s := by
  refine wpAny_call (T.does h I.kIn I.nolimit (by have := hr.dp; omega) (fun h' tk e d M => ?_))
  obtain ⟨ne, nd, J⟩ := Inv.err (tk := tk) I M (relO_one ru f)
  exact ⟨.ref e, _, J, rfl, q e d ne nd M.dne⟩
theorem run2 (T : E2 X.K C f f2) (hr : Room k X.A) (I : Inv X pins σ H s) {us : List Value} {kw : List (Str × Value)} {v v2 : V} {u u2 : Value} (ru : RelV v u) (ru2 : RelV v2 u2) (h : (us = [u, u2] ∧ kw = []) ∨ (us = [] ∧ kw = [(f2, u2), (f, u)]))
    (q : ∀ e d, H e = none → H d = none → d ≠ e → Q (.ref e) (withErr H C e d [(f2, v2), (f, v)])) : wpAny (model X.prog X.w) X.A (call (.ref C) us kw) (EP X pins σ Q) X.xe s := by
  refine wpAny_call (T.does h I.kIn I.nolimit (by have := hr.dp; omega) (fun h' tk e d M => ?_))
  obtain ⟨ne, nd, J⟩ := Inv.err (tk := tk) I M (relO_two ru ru2 f f2)
  exact ⟨.ref e, _, J, rfl, q e d ne nd M.dne⟩
/-- X(e) | X(e, e2) | X() -/
theorem pe_mk1 (T : E1 X.K C f) (hr : Room k X.A) (hg : Gl X x) (hm : X.mg x = some (.ref C)) (ha : PA X (e :: es) ta) (hdb : (x == ("__debug__" : Str)) = false := by decide)
    (hs : starEach (e :: es) X.env = (false, eval e X.env) :: starEach es X.env := by rfl) (hpl : (backTo pos (starEach es X.env)).any (·.1) = false := by rfl) : PE X (.Call (.Name x p) (e :: es) [] pos) (tMk1 C f ta) := by
  refine ⟨fun pins s σ H Q I h => wpAny_Call_Name_kw (ld_glob I hg hm ?_ hdb)⟩
  refine PySem.W.callWith_K (h₀ := X.base) I.ok.mod.kin T.keep (thn (ha.run pos pins s σ H _ I h) fun us s1 ⟨vs, H1, I1, r, v, ev, q⟩ => ⟨I1.kIn, ?_⟩) hs hpl
  subst ev
  obtain ⟨u, rfl, ru⟩ := vals1 r
  exact run1 T hr I1 ru (.inl ⟨rfl, rfl⟩) q
theorem pe_mk2 (T : E2 X.K C f f2) (hr : Room k X.A) (hg : Gl X x) (hm : X.mg x = some (.ref C)) (ha : PA X (e :: es) ta) (hdb : (x == ("__debug__" : Str)) = false := by decide)
    (hs : starEach (e :: es) X.env = (false, eval e X.env) :: starEach es X.env := by rfl) (hpl : (backTo pos (starEach es X.env)).any (·.1) = false := by rfl) : PE X (.Call (.Name x p) (e :: es) [] pos) (tMk2 C f f2 ta) := by
  refine ⟨fun pins s σ H Q I h => wpAny_Call_Name_kw (ld_glob I hg hm ?_ hdb)⟩
  refine PySem.W.callWith_K (h₀ := X.base) I.ok.mod.kin T.keep (thn (ha.run pos pins s σ H _ I h) fun us s1 ⟨vs, H1, I1, r, v, v2, ev, q⟩ => ⟨I1.kIn, ?_⟩) hs hpl
  subst ev
  obtain ⟨u, u2, rfl, ru, ru2⟩ := vals2 r
  exact run2 T hr I1 ru ru2 (.inl ⟨rfl, rfl⟩) q
theorem pe_mk0 (T : E0c X.K C) (hg : Gl X x) (hm : X.mg x = some (.ref C)) (hdb : (x == ("__debug__" : Str)) = false := by decide) : PE X (.Call (.Name x p) [] [] pos) (tMk0 C) := by
  refine ⟨fun pins s σ H Q I h => wpAny_Call_Name_kw (ld_glob I hg hm ?_ hdb)⟩
  refine PySem.W.callWith_K0 I.kIn T.keep ?_
  refine T.does I.kIn (fun h' e t kp new he => ?_)
  obtain ⟨hp, g, dr, tk, os⟩ := s
  exact ⟨.ref e, _, I.laid (t' := tk) kp new (exo_ok he), rfl, h e (I.hok.fresh new)⟩
/-- X(f = e) | X(f2 = e2, f = e) -/
theorem pe_mk1k (T : E1 X.K C f) (hr : Room k X.A) (hg : Gl X x) (hm : X.mg x = some (.ref C)) (hk : PK X kws tk) (hall : (backToKw pos (keywordEach kws X.env)).all (·.1.isSome) = true := by rfl) (hks : (backToKw pos (keywordEach kws X.env)).filterMap (·.1) = [f] := by rfl)
    (hdb : (x == ("__debug__" : Str)) = false := by decide) (hpl : ((backTo pos (starEach [] X.env)).any (·.1) || (backToKw pos (keywordEach kws X.env)).any (·.1.isNone)) = false := by rfl) : PE X (.Call (.Name x p) [] kws pos) (tMk1 C f tk) := by
  refine ⟨fun pins s σ H Q I h => wpAny_Call_Name_kw (ld_glob I hg hm ?_ hdb)⟩
  refine PySem.W.callWith_KW0 (h₀ := X.base) I.ok.mod.kin T.keep hall (thn (hk.run pos pins s σ H _ I h) fun us s1 ⟨vs, H1, I1, r, v, ev, q⟩ => ⟨I1.kIn, ?_⟩) hpl
  subst ev
  obtain ⟨u, rfl, ru⟩ := vals1 r
  rw [hks]
  exact run1 T hr I1 ru (.inr ⟨rfl, rfl⟩) q
theorem pe_mk2k (T : E2 X.K C f f2) (hr : Room k X.A) (hg : Gl X x) (hm : X.mg x = some (.ref C)) (hk : PK X kws tk) (hall : (backToKw pos (keywordEach kws X.env)).all (·.1.isSome) = true := by rfl) (hks : (backToKw pos (keywordEach kws X.env)).filterMap (·.1) = [f2, f] := by rfl)
    (hdb : (x == ("__debug__" : Str)) = false := by decide) (hpl : ((backTo pos (starEach [] X.env)).any (·.1) || (backToKw pos (keywordEach kws X.env)).any (·.1.isNone)) = false := by rfl) : PE X (.Call (.Name x p) [] kws pos) (tMk2k C f f2 tk) := by
  refine ⟨fun pins s σ H Q I h => wpAny_Call_Name_kw (ld_glob I hg hm ?_ hdb)⟩
  refine PySem.W.callWith_KW0 (h₀ := X.base) I.ok.mod.kin T.keep hall (thn (hk.run pos pins s σ H _ I h) fun us s1 ⟨vs, H1, I1, r, v, v2, ev, q⟩ => ⟨I1.kIn, ?_⟩) hpl
  subst ev
  obtain ⟨u2, u, rfl, ru2, ru⟩ := vals2 r
  rw [hks]
  exact run2 T hr I1 ru ru2 (.inr ⟨rfl, rfl⟩) q
end

/-- what a class says, so that its errors are read and asked rightly -/
structure EA (K : W.Frag) (C : Addr) : Prop where
  ga : W.findIn K (.ref C) "__getattribute__" = some (some (.builtin "BaseException.__getattribute__"))
  gg : W.findIn K (.ref C) "__getattr__" = some none
  exC : W.subIn K (.ref C) (.type "BaseException") = some true
  hd : W.hasDictIn K C = true
  cl : W.findIn K (.ref C) "__class__" = some (some (.builtin "object.__class__"))
  ob : W.mroIn K C (.type "object") = some true
  gt : W.specialIn K (.builtin "object.__class__") "__get__" = some (some (.builtin "getset_descriptor.__get__"))
  tk : W.takesIn K (.builtin "object.__class__") = some true
section
variable {X : Cx} {o : Expr} {to : TE} {f : Str} {pos : Pos}
/-- o.f, o an own error -/
def tEf (K : W.Frag) (f : Str) (to : TE) : TE := fun σ H Q => to σ H fun x H1 => ∃ (e C d : Addr) (fs : List (Str × V)) (v : V), x = .ref e ∧ EA K C ∧ W.findIn K (.ref C) f = some none ∧ H1 e = some (exo e C (some d)) ∧ H1 d = some (exd d fs) ∧ fs.lookup f = some v ∧ Q v H1
theorem pe_ef (he : PE X o to) (hb : attributeBase o f X.env (eval o X.env) = eval o X.env := by rfl) : PE X (.Attribute o f pos) (tEf X.K f to) := by
  refine ⟨fun pins s σ H Q I h => ?_⟩
  refine attr_of hb (thn (he.run pins s σ H _ I h) fun u s1 ⟨x, H1, I1, rx, e, C, d, fs, v, ex, T, nf, h1, h2, l, q⟩ => ?_)
  subst ex
  obtain rfl : u = Value.ref e := rx
  obtain ⟨t1, ho⟩ := exo_at I1.hok h1
  obtain ⟨mA, hn, rel⟩ := exd_at I1.hok h2
  obtain ⟨od, hod, lk⟩ := lookIn_ns hn
  obtain ⟨u, hu, ru⟩ := RelO.some_of (v := v) (o := mA f) (by rw [← l]; exact rel f)
  have J : PySem.W.InstAt s1.heap e { cls := .ref C, dict := some d, data := .fields #[.ref t1, .none, .none, .none, .bool false, .none] } C (some od) := ⟨ho, rfl, rfl, hod⟩
  exact HandSPX.exc_get I1.kIn J T.ga T.gg T.exC (PySem.W.findObj_own T.hd nf rfl (by rw [lk, hu])) (handed_of ru) ⟨v, H1, I1.tok _, ru, q⟩
/-- isinstance(e, c), e an own error that is tracked -/
def rIsX (K : W.Frag) : List V → Hp → VK → Prop := fun xs H Q => ∃ (e C : Addr) (d : Option Addr) (c : V) (u : Value) (b : Bool), xs = [.ref e, c] ∧ H e = some (exo e C d) ∧ (∀ dx, d = some dx → ∃ fs, H dx = some (exd dx fs)) ∧ EA K C ∧ ClsV c u ∧ W.kitOne K (.ref C) u = some b ∧ Q (.bl b) H
theorem call_isX : CallR X (.builtin "isinstance") (rIsX X.K) := by
  intro pins s σ H xs us Q I r h
  obtain ⟨e, C, d, c, cu, b, rfl, h1, h2, T, hc, hk, q⟩ := h
  obtain ⟨u1, u2, rfl, r1, r2⟩ := vals2 r
  have e2 := hc.eq r2
  subst e2
  obtain rfl : u1 = Value.ref e := r1
  obtain ⟨t1, ho⟩ := exo_at I.hok h1
  have cl : (PySem.W.clsIn X.K C).isSome = true := by
    obtain ⟨cd, z, _⟩ := PySem.W.any_some T.hd
    rw [z]
    rfl
  have go : ∀ od, PySem.W.InstAt s.heap e { cls := .ref C, dict := d, data := .fields #[.ref t1, .none, .none, .none, .bool false, .none] } C od → wpAny (model X.prog X.w) X.A (call (.builtin "isinstance") [.ref e, u2]) (EP X pins σ Q) X.xe s := fun od J =>
    PySem.W.kia_one (PySem.W.kitx_exc cl T.ga T.gg T.exC T.cl T.gt T.tk T.ob) I.kIn J hk (fun z => nomatch z) fun tk => ⟨.bl b, H, I.tok tk, rfl, q⟩
  cases d with
  | none => exact go none ⟨ho, rfl, rfl, trivial⟩
  | some dx =>
    obtain ⟨fs, hx⟩ := h2 dx rfl
    obtain ⟨mA, hn, _⟩ := exd_at I.hok hx
    obtain ⟨od, hod, _⟩ := lookIn_ns hn
    exact go (some od) ⟨ho, rfl, rfl, hod⟩
end

/-! ### from the text's facts -/
section
variable {K : W.Frag} {C fI : Addr} {B newId initId : String} {bmB : List Value} {fs : List Str} {f f2 qual : Str} {params : Arguments} {oc dV kV doc pm cdv ct : Value} {an od : Option Addr} {osl : Array (Option Value)} {q1 q2 q3 q4 r1 r2 r3 r4 : Pos}
theorem e1_of (T : EC K C fI B newId initId bmB fs) (ht : f ∈ fs) (code : W.codeIn K cdv qual = true)
    (at_ : K.lookup fI = some ⟨oc, od, .func (W.fnOf "__init__" qual params (iBody1 f q1 q2 q3 q4) (iScope ["self", f]) dV kV doc pm an cdv ct), osl⟩)
    (bp : ∀ x v, bindArgs (W.fnOf "__init__" qual params (iBody1 f q1 q2 q3 q4) (iScope ["self", f]) dV kV doc pm an cdv ct) ⟨[x, v], []⟩ = pure [(("self" : Str), x), (f, v)])
    (bk : ∀ x v, bindArgs (W.fnOf "__init__" qual params (iBody1 f q1 q2 q3 q4) (iScope ["self", f]) dV kV doc pm an cdv ct) ⟨[x], [(f, v)]⟩ = pure [(("self" : Str), x), (f, v)])
    (h1 : ("self" == f) = false := by decide) (h2 : (f == ("__debug__" : Str)) = false := by decide) (h3 : (f == ("self" : Str)) = false := by decide) : E1 K C f where
  keep := T.keep
  does := by
    intro prog w A R s us kw v h X lim room hq
    have hz : us.length ≤ sizeLine := by
      rcases h with ⟨rfl, _⟩ | ⟨rfl, _⟩
      · show 1 ≤ sizeLine
        decide
      · exact Nat.zero_le _
    refine made_by T X hz room (fun A' s' x t0 R' kp hx nx room' fin => ?_) hq
    refine init1 T (X.keeps kp) (lim.keeps kp) hx room' at_ code ?_ ht h1 h2 h3 fin
    rcases h with ⟨rfl, rfl⟩ | ⟨rfl, rfl⟩
    · exact .of_eq (bp _ _)
    · exact .of_eq (bk _ _)
theorem e2_of (T : EC K C fI B newId initId bmB fs) (ht : f ∈ fs) (ht2 : f2 ∈ fs) (code : W.codeIn K cdv qual = true)
    (at_ : K.lookup fI = some ⟨oc, od, .func (W.fnOf "__init__" qual params (iBody2 f f2 q1 q2 q3 q4 r1 r2 r3 r4) (iScope ["self", f, f2]) dV kV doc pm an cdv ct), osl⟩)
    (bp : ∀ x v v2, bindArgs (W.fnOf "__init__" qual params (iBody2 f f2 q1 q2 q3 q4 r1 r2 r3 r4) (iScope ["self", f, f2]) dV kV doc pm an cdv ct) ⟨[x, v, v2], []⟩ = pure [(("self" : Str), x), (f, v), (f2, v2)])
    (bk : ∀ x v v2, bindArgs (W.fnOf "__init__" qual params (iBody2 f f2 q1 q2 q3 q4 r1 r2 r3 r4) (iScope ["self", f, f2]) dV kV doc pm an cdv ct) ⟨[x], [(f2, v2), (f, v)]⟩ = pure [(("self" : Str), x), (f, v), (f2, v2)])
    (h1 : ("self" == f) = false := by decide) (h2 : (f == ("__debug__" : Str)) = false := by decide) (h3 : (f == ("self" : Str)) = false := by decide) (h4 : ("self" == f2) = false := by decide) (h5 : (f2 == ("__debug__" : Str)) = false := by decide)
    (h6 : (f2 == ("self" : Str)) = false := by decide) (h7 : (f2 == f) = false := by decide) : E2 K C f f2 where
  keep := T.keep
  does := by
    intro prog w A R s us kw v v2 h X lim room hq
    have hz : us.length ≤ sizeLine := by
      rcases h with ⟨rfl, _⟩ | ⟨rfl, _⟩
      · show 2 ≤ sizeLine
        decide
      · exact Nat.zero_le _
    refine made_by T X hz room (fun A' s' x t0 R' kp hx nx room' fin => ?_) hq
    refine init2 T (X.keeps kp) (lim.keeps kp) hx room' nx at_ code ?_ ht ht2 h1 h2 h3 h4 h5 h6 h7 fin
    rcases h with ⟨rfl, rfl⟩ | ⟨rfl, rfl⟩
    · exact .of_eq (bp _ _ _)
    · exact .of_eq (bk _ _ _)
theorem e0_of (F : ExcBaseFacts B newId initId bmB) (hi : W.findIn K (.ref C) "__init__" = some (some (.builtin initId))) (q : W.excInitIn K C bmB newId = true) (kp : W.keepIn K (.ref C) = true) : E0c K C where
  keep := kp
  does := by
    intro prog w A E Q s X hq
    obtain ⟨nm, N, qn, bs, bm, hdct, sn, sub, ab, col, dd, k0, k1, k2, k3, k5, hC, hT⟩ := W.excInit_of X q
    obtain ⟨hp, g, dr, tk, os⟩ := s
    exact W.call_B F hT hC (W.looks_findIn X hi) (Nat.zero_le _) (fun h' k he _ => hq h' _ _ k (Nat.le_succ _) he)
end
end Ge

set_option Elab.async false
set_option linter.all false
set_option maxRecDepth 100000
set_option maxHeartbeats 4000000
/-! Rules that want no types told; a def by its name. -/
namespace Gd
open PySem PySem.Spec L2
section
variable {X : Cx}
theorem op_addA : OpR X (binaryOp .Add) (fun x y H Q => (rI0 (fun i j => .int (i + j)) x y H Q) ∨ (∃ i j, x = .str i ∧ y = .str j ∧ i.length + j.length ≤ sizeLine ∧ Q (.str (i ++ j)) H) ∨ rCat x y H Q) := op_add.or (op_add_str.or op_cat)
theorem op_mulA : OpR X (binaryOp .Mult) (fun x y H Q => (rI CMulW (fun i j => .int (i * j)) x y H Q) ∨ rRep x y H Q) := op_mulW.or op_rep
theorem op_eqA {k : Nat} (hr : Room k X.A) : OpR X (compareOp .Eq) (fun x y H Q => rEq x y H Q ∨ rEqD X.K x y H Q) := op_eq.or (op_eqD hr.units)
theorem op_neA {k : Nat} (hr : Room k X.A) : OpR X (compareOp .NotEq) (fun x y H Q => rNe x y H Q ∨ rNeD X.K x y H Q) := op_ne.or (op_neD hr.units)
theorem call_lenA : CallR X (.builtin "len") (fun xs H Q => (∃ p ys, xs = [.ref p] ∧ (SqL X.K H p ys ∨ SqT X.K H p ys) ∧ Q (.int ys.length) H) ∨ (∃ z, xs = [.str z] ∧ z.length ≤ sizeLine ∧ Q (.int z.length) H)) := call_len_seq.or call_len_str
end
/-- the written part, told by a letter of its own -/
structure IsK (K : W.Frag) : Prop where
  t : True
section
variable {X : Cx} {K : W.Frag}
theorem ixK (_ : IsK K) (h : X.K = K := by rfl) : IxR X (rIx K) := h ▸ ix_seq
theorem inK (_ : IsK K) (h : X.K = K := by rfl) : OpR X (compareOp .In) (rIn K false) := h ▸ op_in_seq
theorem niK (_ : IsK K) (h : X.K = K := by rfl) : OpR X (compareOp .NotIn) (rIn K true) := h ▸ op_notIn_seq
theorem eqK (_ : IsK K) {k : Nat} (hr : Room k X.A) (h : X.K = K := by rfl) : OpR X (compareOp .Eq) (fun x y H Q => rEq x y H Q ∨ rEqD K x y H Q) := h ▸ op_eqA hr
theorem neK (_ : IsK K) {k : Nat} (hr : Room k X.A) (h : X.K = K := by rfl) : OpR X (compareOp .NotEq) (fun x y H Q => rNe x y H Q ∨ rNeD K x y H Q) := h ▸ op_neA hr
def rLenK (K : W.Frag) : List V → Hp → VK → Prop := fun xs H Q => (∃ p ys, xs = [.ref p] ∧ (SqL K H p ys ∨ SqT K H p ys) ∧ Q (.int ys.length) H) ∨ (∃ z, xs = [.str z] ∧ z.length ≤ sizeLine ∧ Q (.int z.length) H)
theorem lenK (_ : IsK K) (h : X.K = K := by rfl) : CallR X (.builtin "len") (rLenK K) := h ▸ call_lenA
theorem allK (_ : IsK K) (hc : X.calm = true) (h : X.K = K := by rfl) : CallR X (.builtin "all") (rAll K) := h ▸ cr_all hc
def rTupK (K : W.Frag) : List V → Hp → VK → Prop := fun xs H Q => ∃ p ys, xs = [.ref p] ∧ ((SqL K H p ys ∧ ∀ l, H l = none → Q (.ref l) (upd H l (.tup ys))) ∨ (SqT K H p ys ∧ Q (.ref p) H))
theorem tupK (_ : IsK K) (h : X.K = K := by rfl) : CallR X (.type "tuple") (rTupK K) := h ▸ call_tuple_of
theorem isXK (_ : IsK K) (h : X.K = K := by rfl) : CallR X (.builtin "isinstance") (Ge.rIsX K) := h ▸ Ge.call_isX
theorem efK (_ : IsK K) {o : Expr} {to : TE} {f : Str} {pos : Pos} (he : PE X o to) (hb : attributeBase o f X.env (eval o X.env) = eval o X.env := by rfl) (h : X.K = K := by rfl) : PE X (.Attribute o f pos) (Ge.tEf K f to) := h ▸ Ge.pe_ef he hb
theorem listK (_ : IsK K) {tg l : Expr} {tl : TE} (hl : PE X l tl) (h : X.K = K := by rfl) : PI X tg l (iList K tl) := h ▸ pi_list hl
theorem tupiK (_ : IsK K) {tg l : Expr} {tl : TE} (hl : PE X l tl) (h : X.K = K := by rfl) : PI X tg l (iTup K tl) := h ▸ pi_tup hl
def rJoinK (K : W.Frag) : V → List V → Hp → VK → Prop := fun x xs H Q => ∃ a p, ∃ ys : List Str, x = .str a ∧ xs = [.ref p] ∧ (SqL K H p (ys.map V.str) ∨ SqT K H p (ys.map V.str)) ∧ (ys.map (·.length)).sum + ys.length * a.length ≤ 16777216 ∧ Q (.str (Txt.join a ys)) H
theorem joinK (_ : IsK K) {o e : Expr} {to te : TE} {apos pos : Pos} (ho : PE X o to) (he : PE X e te) (hs : starEach [e] X.env = [(false, eval e X.env)] := by rfl) (hbase : attributeBase o "join" X.env (eval o X.env) = eval o X.env := by rfl) (hline : (apos.endLine == pos.line) = true := by rfl) (h : X.K = K := by rfl) :
    PE X (.Call (.Attribute o "join" apos) [e] [] pos) (tM1 (rJoinK K) to te) := h ▸ pe_join ho he hs hbase hline
end
structure Frees (mg : Str → Option Value) : Prop where
  h : ∀ x, frees.contains x = true → mg x = none
/-- names of the module's own objects -/
structure Globs (K : W.Frag) (names : List Str) (mg : Str → Option Value) : Prop where
  h : ∀ x, names.contains x = true → mg x = some (.ref (He.ga K x))
/-- a def by its name: somewhere, keeping sp at level k, wherever it is called | where no repr is under way -/
def Dn (P : Program) (w : World) (K : W.Frag) (mg : Str → Option Value) (base : Heap) (CX : CXT) (k : Nat) (x : Str) (ps : List Str) (sp : Sp) : Prop :=
  ∃ f fd, FnOk P w K mg base CX k f fd ps sp ∧ mg x = some (.ref f) ∧ W.keepIn K (.ref f) = true ∧ Binds K fd ps []
def DnG (P : Program) (w : World) (K : W.Frag) (mg : Str → Option Value) (base : Heap) (k : Nat) (x : Str) (ps : List Str) (sp : Sp) : Prop :=
  ∃ f fd, FnG P w K mg base CX0 k f fd ps sp ∧ mg x = some (.ref f) ∧ W.keepIn K (.ref f) = true ∧ Binds K fd ps []
section
variable {X : Cx} {j k : Nat} {x : Str} {ps : List Str} {sp : Sp} {p pos : Pos} {e : Expr} {es : List Expr} {t : TA}
theorem pe_dn (D : Dn X.prog X.w X.K X.mg X.base CX0 j x ps sp) (hr : Room k X.A) (hg : Gl X x) (hj : j ≤ k) (ha : PA X (e :: es) t) (hdb : (x == ("__debug__" : Str)) = false := by decide)
    (he : starEach (e :: es) X.env = (false, eval e X.env) :: starEach es X.env := by rfl) (hpl : (backTo pos (starEach es X.env)).any (·.1) = false := by rfl) : PE X (.Call (.Name x p) (e :: es) [] pos) (tCall sp [] E0 t) := by
  obtain ⟨f, fd, F, hm, hk, hb⟩ := D
  exact pe_call F (hr.mono hj) hg hm hk hb .nil pass0 ha hdb he hpl
theorem pe_dnG (D : DnG X.prog X.w X.K X.mg X.base j x ps sp) (hG : Bare X.A) (hr : Room k X.A) (hg : Gl X x) (hj : j ≤ k) (ha : PA X (e :: es) t) (hdb : (x == ("__debug__" : Str)) = false := by decide)
    (he : starEach (e :: es) X.env = (false, eval e X.env) :: starEach es X.env := by rfl) (hpl : (backTo pos (starEach es X.env)).any (·.1) = false := by rfl) : PE X (.Call (.Name x p) (e :: es) [] pos) (tCall sp [] E0 t) := by
  obtain ⟨f, fd, F, hm, hk, hb⟩ := D
  exact pe_callG hG F (hr.mono hj) hg hm hk hb .nil pass0 ha hdb he hpl
end

/-! ### the pot -/
/-- at p the pot: what is left of the cell, and the mixed number -/
def Pot (H : Hp) (p : Addr) : Prop := ∃ a b : Int, H p = some (.lst [.int a, .int b]) ∧ 0 ≤ a ∧ 0 ≤ b ∧ b < 2147483648
/-- all but p stands, at p the pot -/
def Kp (p : Addr) (H H' : Hp) : Prop := (∀ b o, b ≠ p → H b = some o → H' b = some o) ∧ Pot H' p
theorem Kp.refl {p : Addr} {H : Hp} (h : Pot H p) : Kp p H H := ⟨fun _ _ _ h => h, h⟩
theorem Kp.trans {p : Addr} {H H1 H2 : Hp} (a : Kp p H H1) (b : Kp p H1 H2) : Kp p H H2 := ⟨fun c o n h => b.1 c o n (a.1 c o n h), b.2⟩
theorem Pot.there {p : Addr} {H : Hp} (h : Pot H p) : ∃ o, H p = some o := let ⟨_, _, e, _⟩ := h; ⟨_, e⟩
theorem Pot.new {p q : Addr} {H : Hp} {o : HO} (h : Pot H p) (n : H q = none) : Pot (upd H q o) p := by
  obtain ⟨a, b, e, r⟩ := h
  exact ⟨a, b, by rw [upd_ne (ne_of_none e n)]; exact e, r⟩
theorem Kp.new {p q : Addr} {H : Hp} {o : HO} (h : Pot H p) (n : H q = none) : Kp p H (upd H q o) := ⟨fun b u _ e => by rw [upd_ne (ne_of_none e n)]; exact e, h.new n⟩
theorem Kp.put {p : Addr} {H : Hp} {a b : Int} (h0 : 0 ≤ a) (h2 : 0 ≤ b) (h3 : b < 2147483648) : Kp p H (upd H p (.lst [.int a, .int b])) := ⟨fun c o n e => by rw [upd_ne n]; exact e, a, b, upd_same, h0, h2, h3⟩
theorem Kp.at {p q : Addr} {H H' : Hp} {o : HO} (k : Kp p H H') (n : q ≠ p) (h : H q = some o) : H' q = some o := k.1 q o n h
theorem Kp.seq {K : W.Frag} {p q : Addr} {H H' : Hp} {xs : List V} (k : Kp p H H') (n : q ≠ p) (h : SqL K H q xs) : SqL K H' q xs := by
  rcases h with (h | ⟨o, h⟩) | h
  · exact .inl (.inl (k.1 _ _ n h))
  · exact .inl (.inr ⟨o, k.1 _ _ n h⟩)
  · exact .inr h
theorem Kp.gone {p q : Addr} {H H' : Hp} (k : Kp p H H') (n : q ≠ p) (h : H' q = none) : H q = none := by
  cases z : H q with
  | none => rfl
  | some o => rw [k.1 q o n z] at h; cases h
theorem Kp.over {p q : Addr} {H H' : Hp} {o : HO} (k : Kp p H H') (n : q ≠ p) (h : H q = none) : Kp p H (upd H' q o) := by
  refine ⟨fun b u nb e => ?_, ?_⟩
  · rw [upd_ne (ne_of_none e h)]
    exact k.1 b u nb e
  · obtain ⟨a, b, e, r⟩ := k.2
    exact ⟨a, b, by rw [upd_ne (Ne.symm n)]; exact e, r⟩
theorem Kp.pot {p : Addr} {H H' : Hp} (k : Kp p H H') : Pot H' p := k.2
theorem ne_pot {p q : Addr} {H : Hp} (h : Pot H p) (n : H q = none) : q ≠ p := fun e => by
  obtain ⟨o, z⟩ := h.there
  rw [← e, n] at z
  cases z
theorem ix0 {K : W.Frag} {H : Hp} {p : Addr} {a b : Int} {Q : VK} (h : H p = some (.lst [.int a, .int b])) (q : Q (.int a) H) : rIx K (.ref p) (.int 0) H Q := .inl ⟨p, _, 0, _, rfl, rfl, SqL.of h, rfl, q⟩
theorem ix1 {K : W.Frag} {H : Hp} {p : Addr} {a b : Int} {Q : VK} (h : H p = some (.lst [.int a, .int b])) (q : Q (.int b) H) : rIx K (.ref p) (.int 1) H Q := .inl ⟨p, _, 1, _, rfl, rfl, SqL.of h, rfl, q⟩
theorem log_lt {n : Int} (h : n.natAbs < 2 ^ 80) : n.natAbs.log2 < 80 := by
  by_cases z : n.natAbs = 0
  · rw [z]
    decide
  · exact (Nat.log2_lt z).mpr h
theorem mulW {i j : Int} (hi : i.natAbs < 2 ^ 80) (hj : j.natAbs < 2 ^ 80) : CMulW i j := by
  have a := log_lt hi
  have b := log_lt hj
  show i.natAbs.log2 + j.natAbs.log2 < 1000000
  omega
theorem divW {i j : Int} (h0 : 0 < j) (h : j.natAbs < 2 ^ 80) : CDivW i j := ⟨h0, by have := log_lt h; omega⟩
theorem ne_of_none' {H : Hp} {a b : Addr} {o : HO} (h : H a = some o) (h' : H b = none) : b ≠ a := fun e => ne_of_none h h' e.symm
theorem atI_int {α : Type} {xs : List α} {i : Int} {x : α} (h0 : 0 ≤ i) (h : xs[i.toNat]? = some x) : atI xs i = some x := by
  have e : ((i.toNat : Nat) : Int) = i := Int.toNat_of_nonneg h0
  have z := atI_nat h
  rw [e] at z
  exact z
/-- draw(pot, sides) -/
def spDraw : Sp := fun vs H Q _ => ∃ (p : Addr) (n : Int), vs = [.ref p, .int n] ∧ Pot H p ∧ 0 < n ∧ n ≤ 1000000000 ∧ ∀ (d : Int) (H' : Hp), 0 ≤ d → d < n → Kp p H H' → Q (.int d) H'
/-- pick(pot, some) -/
def spPick (K : W.Frag) : Sp := fun vs H Q _ => ∃ (p l : Addr) (xs : List V), vs = [.ref p, .ref l] ∧ Pot H p ∧ l ≠ p ∧ SqL K H l xs ∧ xs ≠ [] ∧ xs.length ≤ 1000000 ∧ ∀ (x : V) (H' : Hp), x ∈ xs → Kp p H H' → Q x H'
/-- pot(script, k) -/
def spPot (K : W.Frag) : Sp := fun vs H Q _ => ∃ (a : Addr) (ns : List Int) (k : Int), vs = [.ref a, .int k] ∧ SqL K H a (ns.map V.int) ∧ 0 ≤ k ∧ k < 100 ∧ ∀ (p : Addr) (H' : Hp), H p = none → Same H H' → Pot H' p → Q (.ref p) H'
/-- a short plain text -/
def Sm (n : Nat) (x : Str) : Prop := x.length ≤ n ∧ ∀ c ∈ x.cps.toList, c < 1000
theorem Sm.repr {n : Nat} {x : Str} (h : Sm n x) : (reprText x).length ≤ 10 * n + 2 := by
  have z := StrLaws.reprText_len x (fun c hc => Nat.lt_of_lt_of_le (h.2 c hc) (by decide))
  have := h.1
  omega
/-- named(pot, 1, []) -/
def spNamed (K : W.Frag) : Sp := fun vs H Q _ => ∃ (p t : Addr), vs = [.ref p, .int 1, .ref t] ∧ Pot H p ∧ t ≠ p ∧ SqL K H t [] ∧ ∀ (r : Addr) (x : Str) (H' : Hp), H' r = some (.lst [.str x]) → Sm 8 x → Kp p H H' → Q (.ref r) H'
/-- far(pot) -/
def spFar : Sp := fun vs H Q _ => ∃ p : Addr, vs = [.ref p] ∧ Pot H p ∧ ∀ (n : Int) (H' : Hp), n.natAbs < 2 ^ 200 → Kp p H H' → Q (.int n) H'
end Gd

set_option Elab.async false
set_option linter.all false
set_option maxRecDepth 100000
set_option maxHeartbeats 4000000
/-! Own errors raised; a try of several clauses with a name; what is asked of the held error. -/
namespace Gx
open PySem PySem.Spec PyProof.Rows L2 Ge
section
variable {X : Cx} {pins : List (Addr × Obj)} {σ : L2.St} {H : Hp} {s : Shared} {Q : XK} {C e d : Addr} {fs : List (Str × V)} {h' : Heap} {tk : Nat} {m : Str → Option Value}
/-- the heap without the error, its dict told -/
abbrev leftH (H : Hp) (C e d : Addr) (fs : List (Str × V)) : Hp := upd (del (withErr H C e d fs) e) d (.xd fs)
theorem mkp_made (T : Raises X (.ref C)) (I : Inv X pins σ H s) (M : Made s.heap h' e C d m) (r : ∀ y, RelO (fs.lookup y) (m y)) (q : Q (.ref C) (some d) (leftH H C e d fs)) : L2.MkP X pins σ Q (.ref e) { s with heap := h', toks := tk } := by
  obtain ⟨ne, nd, J⟩ := Inv.err (tk := tk) I M r
  have be : ∀ {b : Addr} {o : Obj}, s.heap.get? b = some o → b ≠ e := fun q => Nat.ne_of_lt (Nat.lt_of_lt_of_le (Heap.lt_size q) M.new)
  have bd : ∀ {b : Addr} {o : Obj}, s.heap.get? b = some o → b ≠ d := fun q => Nat.ne_of_lt (Nat.lt_of_lt_of_le (Heap.lt_size q) M.dbig)
  have keepH : ∀ {b : Addr} {o : HO}, H b = some o → withErr H C e d fs b = some o := fun q => by
    show upd (upd H d _) e _ _ = _
    rw [upd_ne (ne_of_none q ne), upd_ne (ne_of_none q nd)]
    exact q
  have offH : ∀ {b : Addr} {o u : HO}, upd H e o b = some u → b ≠ e → H b = some u := fun z n => by rwa [upd_ne n] at z
  obtain ⟨hp, g, dr, t0, os⟩ := s
  refine mk_end T I M.new (fun _ _ q => q) { keep := fun b o q _ _ _ => M.keep b o q, slot := fun b o q _ _ _ => ⟨o.slots, M.keep b o q⟩, free := fun b o q n _ => ?_, there := fun b o q _ => ⟨o, M.keep b o q⟩, tups := fun b xs q => ?_, frzs := fun b o u q => ?_, tbls := fun b ps q => ?_ } J.hok rfl I.bare upd_same ?_ nd q
  · show upd (upd H d _) e _ b = none
    rw [upd_ne (be q)] at n
    rw [upd_ne (be q), upd_ne (bd q)]
    exact n
  · have n : b ≠ e := fun z => by
      rw [z, upd_same] at q
      exact exo_tup (Option.some.inj q)
    exact keepH (offH q n)
  · have n : b ≠ e := fun z => by
      rw [z, upd_same] at q
      exact exo_frz (Option.some.inj q)
    exact keepH (offH q n)
  · have n : b ≠ e := fun z => by
      rw [z, upd_same] at q
      exact exo_tbl (Option.some.inj q)
    exact ⟨#[], (keepH (offH q n)).trans (by simp)⟩
  · show upd (upd H d _) e _ d = _
    rw [upd_ne M.dne]
    exact upd_same
end
section
variable {X : Cx} {C : Addr} {x f f2 : Str} {e : Expr} {es : List Expr} {ta : TA} {p pos : Pos} {k : Nat}
theorem pmk1 (T : E1 X.K C f) (rs : Raises X (.ref C)) (hr : Room k X.A) (hg : Gl X x) (hm : X.mg x = some (.ref C)) (ha : PA X (e :: es) ta) (hdb : (x == ("__debug__" : Str)) = false := by decide)
    (hs : starEach (e :: es) X.env = (false, eval e X.env) :: starEach es X.env := by rfl) (hpl : (backTo pos (starEach es X.env)).any (·.1) = false := by rfl) :
    L2.PMk X (.Call (.Name x p) (e :: es) [] pos) (fun σ H Q => ta σ H fun vs H1 => ∃ v, vs = [v] ∧ ∀ a d, H1 a = none → H1 d = none → d ≠ a → Q (.ref C) (some d) (leftH H1 C a d [(f, v)])) := by
  intro pins s σ H Q I h
  refine wpAny_Call_Name_kw (ld_glob I hg hm ?_ hdb)
  refine PySem.W.callWith_K (h₀ := X.base) I.ok.mod.kin T.keep (thn (ha.run pos pins s σ H _ I h) fun us s1 ⟨vs, H1, I1, r, v, ev, q⟩ => ⟨I1.kIn, ?_⟩) hs hpl
  subst ev
  obtain ⟨u, rfl, ru⟩ := vals1 r
  refine wpAny_call (T.does (.inl ⟨rfl, rfl⟩) I1.kIn I1.nolimit (by have := hr.dp; omega) (fun h' tk a d M => ?_))
  have z := Inv.err (tk := tk) I1 M (relO_one ru f)
  exact mkp_made rs I1 M (relO_one ru f) (q a d z.1 z.2.1 M.dne)
theorem pmk2 (T : E2 X.K C f f2) (rs : Raises X (.ref C)) (hr : Room k X.A) (hg : Gl X x) (hm : X.mg x = some (.ref C)) (ha : PA X (e :: es) ta) (hdb : (x == ("__debug__" : Str)) = false := by decide)
    (hs : starEach (e :: es) X.env = (false, eval e X.env) :: starEach es X.env := by rfl) (hpl : (backTo pos (starEach es X.env)).any (·.1) = false := by rfl) :
    L2.PMk X (.Call (.Name x p) (e :: es) [] pos) (fun σ H Q => ta σ H fun vs H1 => ∃ v v2, vs = [v, v2] ∧ ∀ a d, H1 a = none → H1 d = none → d ≠ a → Q (.ref C) (some d) (leftH H1 C a d [(f2, v2), (f, v)])) := by
  intro pins s σ H Q I h
  refine wpAny_Call_Name_kw (ld_glob I hg hm ?_ hdb)
  refine PySem.W.callWith_K (h₀ := X.base) I.ok.mod.kin T.keep (thn (ha.run pos pins s σ H _ I h) fun us s1 ⟨vs, H1, I1, r, v, v2, ev, q⟩ => ⟨I1.kIn, ?_⟩) hs hpl
  subst ev
  obtain ⟨u, u2, rfl, ru, ru2⟩ := vals2 r
  refine wpAny_call (T.does (.inl ⟨rfl, rfl⟩) I1.kIn I1.nolimit (by have := hr.dp; omega) (fun h' tk a d M => ?_))
  have z := Inv.err (tk := tk) I1 M (relO_two ru ru2 f f2)
  exact mkp_made rs I1 M (relO_two ru ru2 f f2) (q a d z.1 z.2.1 M.dne)
theorem pmk0 (T : E0c X.K C) (rs : Raises X (.ref C)) (hg : Gl X x) (hm : X.mg x = some (.ref C)) (hdb : (x == ("__debug__" : Str)) = false := by decide) :
    L2.PMk X (.Call (.Name x p) [] [] pos) (fun _ H Q => Q (.ref C) none H) := by
  intro pins s σ H Q I h
  refine wpAny_Call_Name_kw (ld_glob I hg hm ?_ hdb)
  refine PySem.W.callWith_K0 I.kIn T.keep ?_
  refine T.does I.kIn (fun h' a t kp new he => ?_)
  obtain ⟨hp, g, dr, tk, os⟩ := s
  have gone : hp.get? a = none := by
    cases z : hp.get? a with
    | none => rfl
    | some o => exact absurd (Heap.lt_size z) (Nat.not_lt.mpr new)
  exact ⟨a, _, _, ⟨hp, g, dr, tk, os⟩, H, .ref C, none, rfl, I, kp, gone, he, ⟨rfl, rfl⟩, rfl, rfl, I.hok.fresh new, rfl, I.bare, rs, h⟩
end

/-! ### try: body, several clauses 'except x as n' -/
/-- what the clauses wish, one after the other -/
def wMAs (K : PySem.W.Frag) (i : Nat) (Wout : WX) (D : Ends) : List (Value × (Addr → Value → Option Addr → TS)) → WX
  | [] => Wout
  | (c, ts) :: r => wAs K c i ts (wMAs K i Wout D r) D
inductive HdsAs (X : Cx) (n : Str) : List ExceptHandler → List (Value × (Addr → Value → Option Addr → TS)) → Prop
  | nil : HdsAs X n [] []
  | cons {x : Str} {c : Value} {ts : Addr → Value → Option Addr → TS} {b₀ : Stmt} {suite : List Stmt} {np pos' : Pos} {hds : List ExceptHandler} {l : List (Value × (Addr → Value → Option Addr → TS))} (hc : Names X x c)
      (hsu : ∀ (a : Addr) (oe : Obj) (cls : Value) (d : Option Addr) (pn : List (Addr × Obj)), Zc cls d oe → (∃ vs, oe.data = .fields vs) → PSs (X.suite a ((a, oe) :: pn)) (b₀ :: suite) (ts a cls d)) (r : HdsAs X n hds l) :
      HdsAs X n (.ExceptHandler (some (.Name x np)) (some n) (b₀ :: suite) pos' :: hds) ((c, ts) :: l)
section
variable {X : Cx} {n : Str} {i : Nat} {body : List Stmt} {pos : Pos} {tb : WX → TS} {Wout : WX} {pins : List (Addr × Obj)} {D : Ends}
/-- the clauses are gone through with the error at a on the ground -/
theorem hands_go {a : Addr} {B : Heap} {sI s' : Shared} {σ' : L2.St} {H' : Hp} {cls : Value} {d : Option Addr} {h3 : Heap} (hs : X.stack = X.env :: X.outer) (hf : X.env.frame = some X.env.locals) (hN : X.N.Nodup) (hi : X.N[i]? = some n) (hln : X.env.kindOf n = some .local)
    (tk : Takes X Wout) (ok : X.Ok) (J : Inv X pins σ' H' sI) (nb : ∀ b o, sI.heap.get? b = some o → b ∉ frs X.stack → B.get? b = some o) (up : sI.heap.UpToSlots h3) (fl : HandSPX.FlyingZ B (X.env :: X.outer) a (Zc cls d) h3) (na : H' a = none) (os : s'.os = sI.os) (ag : AllBare s'.gens) :
    ∀ {hds : List ExceptHandler} {l : List (Value × (Addr → Value → Option Addr → TS))}, HdsAs X n hds l → wMAs X.K i Wout D l cls d σ' H' → wpAny (model X.prog X.w) X.A (handleBy (.ref a) X.env hds) (SP X pins D) X.xe { s' with heap := h3 } := by
  have J3 : Inv X pins σ' H' { s' with heap := h3 } := J.landed nb fl.1 up os ag
  obtain ⟨oe, vs, he, hz, hd⟩ := fl.there
  have off : a ∉ frs (X.env :: X.outer) := fun hm => by
    obtain ⟨_, o, e, hnf⟩ := fl.2.2.1.mem hm
    rw [he] at e
    cases e
    exact hnf _ hd
  have nL : a ≠ X.env.locals := fun z => off (List.mem_filterMap.mpr ⟨X.env, List.mem_cons_self, by rw [hf, z]⟩)
  have nF : a ∉ X.fs := fun hm => by
    obtain ⟨e, q, z⟩ := List.mem_filterMap.mp hm
    exact off (List.mem_filterMap.mpr ⟨e, List.mem_cons_of_mem _ q, z⟩)
  intro hds l hk
  induction hk with
  | nil =>
    intro w
    refine wpAny_handleBy_nil ?_
    obtain ⟨_, _, _, o1, v1, T, _, _, e1, _, d1, f1, _⟩ := id fl
    unfold PySem.passOn
    refine wpAny_bind (wpAny_field e1 d1 f1 ?_)
    rw [if_neg (show ¬((Value.ref T == Value.none) = true) from by simp)]
    have out : wpAny (model X.prog X.w) X.A (setFlight (.ref a) X.env.frame) (fun _ s4 => wpAny (model X.prog X.w) X.A (throw (.ref a) : Sem Flow) (SP X pins D) X.xe s4) X.xe { s' with heap := h3 } := by
      rw [hf]
      exact HandSPX.setFlight_upZ fl fun h4 held up4 => wpAny_throw (tk _ _ ⟨a, B, sI, pins, σ', H', cls, d, rfl, J, nb, up.trans up4, .inr (.inr (by rw [hs]; exact held)), na, os, ag, w⟩)
    first
      | exact wpAny_bind (wpAny_pure (wpAny_bind out))
      | exact wpAny_bind out
  | @cons x c ts b₀ suite np pos' hds2 l2 hc hsu r ih =>
    rintro ⟨b, isB, yes, no⟩
    have S3 := J3.suite he hd na nL nF
    refine wpAny_handleBy_cons (codeAny_handlers_test ?_) (by intro q; cases q)
    have LM := PySem.W.exm_one (M := model X.prog X.w) J3.kIn (fun A Q E s k q => wpAny_typeOf_ref (k _ _ he) (by rw [hz.1]; exact q)) isB
    have name : ∀ {Q : Value → Shared → Prop} {E : Value → Shared → Prop}, Q c { s' with heap := h3 } → wpAny (model X.prog X.w) (X.A.mark (some (.ref a))) (eval (.Name x np) X.env) Q E { s' with heap := h3 } := fun {Q E} q => by
      obtain ⟨g, gd, m | ⟨m, v, nn⟩⟩ := hc
      · exact ld_glob (X := X.suite a ((a, oe) :: (X.pn ++ pins))) S3 g m q gd
      · exact ld_blt (X := X.suite a ((a, oe) :: (X.pn ++ pins))) S3 g m v q nn gd
    refine name (LM.here ?_)
    cases b with
    | false =>
      show wpAny _ X.A (handleBy (.ref a) X.env hds2) _ _ _
      exact ih (no rfl)
    | true =>
      refine codeAny_handlers_suite_as (HandSPX.lands_againZ fl fun h4 fl4 up4 => ?_)
      obtain ⟨oe4, vs4, he4, hz4, hd4⟩ := fl4.there
      have J4 : Inv X pins σ' H' { s' with heap := h4 } := J.landed nb fl4.1 (up.trans up4) os ag
      refine store_ok (X := X.suite a ((a, oe4) :: (X.pn ++ pins))) (v := .ref a) (J4.suite he4 hd4 na nL nF) hN hi (.inl hln) rfl (fun s5 S5 => ?_) (.inr hln)
      refine wpAny_mono ((hsu a oe4 cls d (X.pn ++ pins) hz4 ⟨_, hd4⟩).run [] s5 _ H' _ S5 (yes rfl a na)) (fun fl6 s6 hsp => ?_) (fun _ _ z => z.elim)
      have over : ∀ {σ6 : L2.St} {H6 : Hp} {Q : Shared → Prop}, Inv (X.suite a ((a, oe4) :: (X.pn ++ pins))) [] σ6 H6 s6 → (∀ s7, Inv X pins (σ6.set i none) H6 s7 → Q s7) →
          wpAny (model X.prog X.w) X.A (do bindName X.env n .none; unbindBehindTheSuite X.env n pos') (fun _ s7 => Q s7) X.xe s6 := fun S6 q => gone_ok (S6.unsuite ok) hN hi hln q
      cases fl6 with
      | ret u =>
        obtain ⟨v6, σ6, H6, S6, r6, q6⟩ := hsp
        exact over S6 fun s7 J7 => ⟨_, _, _, J7, r6, q6⟩
      | next =>
        obtain ⟨σ6, H6, S6, q6⟩ := hsp
        exact over S6 fun s7 J7 => ⟨_, _, J7, q6⟩
      | brk =>
        obtain ⟨σ6, H6, S6, q6⟩ := hsp
        exact over S6 fun s7 J7 => ⟨_, _, J7, q6⟩
      | cont =>
        obtain ⟨σ6, H6, S6, q6⟩ := hsp
        exact over S6 fun s7 J7 => ⟨_, _, J7, q6⟩
theorem ps_tryAs {h₀ : ExceptHandler} {hds : List ExceptHandler} {l : List (Value × (Addr → Value → Option Addr → TS))} (hs : X.stack = X.env :: X.outer) (hf : X.env.frame = some X.env.locals) (hN : X.N.Nodup) (hi : X.N[i]? = some n) (hln : X.env.kindOf n = some .local) (tk : Takes X Wout)
    (hb : ∀ (W : WX) (pn : List (Addr × Obj)) (xe : Value → Shared → Prop), Takes (X.tr pn xe) W → PSs (X.tr pn xe) body (tb W)) (hh : HdsAs X n (h₀ :: hds) l) :
    PS X (.Try body (h₀ :: hds) [] [] pos) (fun D σ H => tb (wMAs X.K i Wout D l) D σ H) := by
  refine ⟨fun pins s σ H D I h => wpAny_Try_except ?_⟩
  have ok := I.ok
  have hfr : X.A.frames = some (X.env :: X.outer) := by rw [ok.frames, hs]
  have run := (hb (wMAs X.K i Wout D l) (X.pn ++ pins) (fun e s₁ => wpAny (model X.prog X.w) X.A (noteFrame e X.env) (fun _ s₂ => wpAny (model X.prog X.w) X.A (setFlight e none) (fun _ s₃ =>
    wpAny (model X.prog X.w) X.A (handleBy e X.env (h₀ :: hds)) (SP X pins D) X.xe s₃) X.xe s₂) X.xe s₁) (fun u s' xx => by
      obtain ⟨a, B, sI, pins', σ', H', cls, d, rfl, J', nb, up, sky, na, os, ag, w⟩ := xx
      refine Sky.land Zc.steady hfr hf (by rw [← hs]; exact sky) fun h3 fl3 up3 => ?_
      exact hands_go hs hf hN hi hln tk ok (J'.ofTry ok) nb (up.trans up3) fl3 na os ag hh w)).run [] s σ H D (I.toTry _) h
  refine wpAny_mono run (fun f s1 hsp => ?_) (fun e s1 he => he)
  cases f with
  | ret u =>
    obtain ⟨v, σ', H', J', r, q⟩ := hsp
    exact ⟨v, σ', H', J'.ofTry ok, r, q⟩
  | next =>
    obtain ⟨σ', H', J', q⟩ := hsp
    exact wpAny_execs_nil ⟨σ', H', J'.ofTry ok, q⟩
  | brk =>
    obtain ⟨σ', H', J', q⟩ := hsp
    exact ⟨σ', H', J'.ofTry ok, q⟩
  | cont =>
    obtain ⟨σ', H', J', q⟩ := hsp
    exact ⟨σ', H', J'.ofTry ok, q⟩
end

/-! ### the held error -/
/-- isinstance(e, c) | isinstance(e, (c, ..)), e the held one of the class at C -/
def rHeld (K : PySem.W.Frag) (a : Addr) (cls : Value) (d : Option Addr) : List V → Hp → VK → Prop := fun xs H Q => ∃ (C : Addr) (c : V) (b : Bool), xs = [.ref a, c] ∧ cls = .ref C ∧ EA K C ∧ (∀ dx, d = some dx → ∃ fs, H dx = some (.xd fs)) ∧
  ((∃ u, ClsV c u ∧ PySem.W.kitOne K (.ref C) u = some b) ∨ (∃ tp cs us, c = .ref tp ∧ H tp = some (.tup cs) ∧ Paired ClsV cs us ∧ PySem.W.kitAny K (.ref C) us = some b)) ∧ Q (.bl b) H
theorem call_held {X : Cx} {a : Addr} {oe : Obj} {cls : Value} {d : Option Addr} (hp : (a, oe) ∈ X.pn) (z : Zc cls d oe) (hf : ∃ vs, oe.data = .fields vs) : CallR X (.builtin "isinstance") (rHeld X.K a cls d) := by
  intro pins s σ H xs us Q I r h
  obtain ⟨C, c, b, rfl, rfl, T, hd, hc, q⟩ := h
  obtain ⟨u1, u2, rfl, r1, r2⟩ := vals2 r
  obtain rfl : u1 = Value.ref a := r1
  have ho := (I.pin (a, oe) (List.mem_append_left _ hp)).1
  obtain ⟨z1, z2⟩ := z
  have cl : (PySem.W.clsIn X.K C).isSome = true := by
    obtain ⟨cd, z, _⟩ := PySem.W.any_some T.hd
    rw [z]
    rfl
  have go : ∀ od, PySem.W.InstAt s.heap a oe C od → wpAny (model X.prog X.w) X.A (call (.builtin "isinstance") [.ref a, u2]) (EP X pins σ Q) X.xe s := fun od J => by
    rcases hc with ⟨u, hu, hk⟩ | ⟨tp, cs, ws, rfl, ht, k, hk⟩
    · have e2 := hu.eq r2
      subst e2
      exact PySem.W.kia_one (PySem.W.kitx_exc cl T.ga T.gg T.exC T.cl T.gt T.tk T.ob) I.kIn J hk (fun z => nomatch z) fun tk => ⟨.bl b, H, I.tok tk, rfl, q⟩
    · obtain rfl : u2 = Value.ref tp := r2
      obtain ⟨_, its, rv, o, h1, h2, n, h3⟩ := (show ObjOk X.prog X.w H s.heap tp (.tup cs) from I.hok tp _ ht)
      have e3 := ClsV.all k rv
      subst e3
      obtain ⟨oc, od2, dt, sl⟩ := o
      simp only at h2 h3
      subst h2 h3
      exact PySem.W.kia_tup (PySem.W.kitx_exc cl T.ga T.gg T.exC T.cl T.gt T.tk T.ob) I.kIn J h1 hk (fun z => nomatch z) fun tk => ⟨.bl b, H, I.tok tk, rfl, q⟩
  obtain ⟨vs, hv⟩ := hf
  obtain ⟨oc, dd, dt, sl⟩ := oe
  simp only at z1 z2 hv
  subst z1 z2 hv
  cases dd with
  | none => exact go none ⟨ho, rfl, rfl, trivial⟩
  | some dx =>
    obtain ⟨fs, hx⟩ := hd dx rfl
    obtain ⟨mA, hn, _⟩ := (show ObjOk X.prog X.w H s.heap dx (.xd fs) from I.hok dx _ hx)
    obtain ⟨od, hod, _⟩ := lookIn_ns hn
    exact go (some od) ⟨ho, rfl, rfl, hod⟩
/-- repr of a truth -/
def rReprB : List V → Hp → VK → Prop := fun xs H Q => ∃ b : Bool, xs = [.bl b] ∧ Q (.str (if b then "True" else "False")) H
theorem call_reprB {X : Cx} : CallR X (.builtin "repr") rReprB := by
  intro pins s σ H xs us Q I r h
  obtain ⟨b, rfl, q⟩ := h
  obtain ⟨u, rfl, ru⟩ := vals1 r
  obtain rfl : u = Value.bool b := ru
  exact PySem.P.repr_of_bool ⟨.str _, H, I.tok _, ⟨_, rfl⟩, q⟩
end Gx

set_option Elab.async false
set_option linter.all false
set_option maxRecDepth 100000
set_option maxHeartbeats 4000000
/-! New data of bounded size. -/
namespace Gd
open PySem PySem.Spec PyProof.Rows L2
def bdT (k : Nat) : Nat := 250 * 4 ^ k
theorem bdT_pos (k : Nat) : 250 ≤ bdT k := by
  have : 0 < 4 ^ k := Nat.pow_pos (by decide)
  unfold bdT
  omega
theorem bdT_succ (k : Nat) : bdT (k + 1) = 4 * bdT k := by
  unfold bdT
  rw [Nat.pow_succ]
  omega
/-- at H' x is data of depth k, made of what was not there at H -/
def Fr (H H' : Hp) (k : Nat) (x : V) : Prop := ∃ as t, Rp H' as (2 * k + 1) x t ∧ t.length ≤ bdT k ∧ ∀ b ∈ as, H b = none ∧ ∃ o, H' b = some o
/-- so are all of xs -/
def Frs (H H' : Hp) (k : Nat) (xs : List V) : Prop := ∃ as, ∃ ts : List Str, ts.length = xs.length ∧ (∀ (i : Nat) (x : V) (t : Str), xs[i]? = some x → ts[i]? = some t → Rp H' as (2 * k + 1) x t) ∧ piled ts ≤ xs.length * (bdT k + 2) ∧ ∀ b ∈ as, H b = none ∧ ∃ o, H' b = some o
/-- nothing went -/
def Dom (H H' : Hp) : Prop := ∀ b, H' b = none → H b = none
theorem Kp.dom {p : Addr} {H H' : Hp} (k : Kp p H H') : Dom H H' := by
  intro b hb
  by_cases e : b = p
  · subst e
    obtain ⟨o, z⟩ := k.2.there
    rw [z] at hb
    cases hb
  · exact k.gone e hb
theorem Dom.trans {H H1 H2 : Hp} (a : Dom H H1) (b : Dom H1 H2) : Dom H H2 := fun c h => a c (b c h)
theorem Dom.upd {H : Hp} {a : Addr} {o : HO} : Dom H (upd H a o) := by
  intro b hb
  by_cases e : b = a
  · subst e
    rw [upd_same] at hb
    cases hb
  · rwa [upd_ne e] at hb
section
variable {H H0 H' H2 : Hp} {k : Nat} {x : V} {xs : List V} {p : Addr}
theorem Fr.flat {t : Str} (r : ∀ d, Rp H' [] d x t) (l : t.length ≤ 250) : Fr H H' k x := ⟨[], t, r _, Nat.le_trans l (bdT_pos k), fun _ h => nomatch h⟩
theorem Fr.int {n : Int} (h : n.natAbs < 2 ^ 200) : Fr H H' k (.int n) := by
  have l : n.natAbs.log2 < 200 := by
    by_cases z : n.natAbs = 0
    · rw [z]
      decide
    · exact (Nat.log2_lt z).mpr h
  refine .flat (fun d => .int n (by omega)) ?_
  have e := int_text_length_le (a := n) (k := 200) (by decide) l
  have e2 : (Str.ofString (toString n)).length = (toString n).length := PySem.ofString_length _
  show (Str.ofString (toString n)).length ≤ 250
  omega
theorem Fr.str {z : Str} {n : Nat} (h : Sm n z) (hn : n ≤ 20) : Fr H H' k (.str z) := by
  have l := h.repr
  have b : (1000 : Nat) < sizeLine := by decide
  exact .flat (fun d => .str z (by omega)) (by omega)
/-- what was there at H stands on -/
theorem Fr.on (f : Fr H H' k x) (s : ∀ b o, H b = none → H' b = some o → H2 b = some o) : Fr H H2 k x := by
  obtain ⟨as, t, r, l, n⟩ := f
  refine ⟨as, t, r.keep fun b hb o ho => s b o (n b hb).1 ho, l, fun b hb => ⟨(n b hb).1, ?_⟩⟩
  obtain ⟨o, ho⟩ := (n b hb).2
  exact ⟨o, s b o (n b hb).1 ho⟩
theorem Frs.on (f : Frs H H' k xs) (s : ∀ b o, H b = none → H' b = some o → H2 b = some o) : Frs H H2 k xs := by
  obtain ⟨as, ts, e, r, l, n⟩ := f
  refine ⟨as, ts, e, fun i x t h1 h2 => (r i x t h1 h2).keep fun b hb o ho => s b o (n b hb).1 ho, l, fun b hb => ⟨(n b hb).1, ?_⟩⟩
  obtain ⟨o, ho⟩ := (n b hb).2
  exact ⟨o, s b o (n b hb).1 ho⟩
theorem Fr.ahead (f : Fr H H' k x) (d : Dom H0 H) : Fr H0 H' k x := by
  obtain ⟨as, t, r, l, n⟩ := f
  exact ⟨as, t, r, l, fun b hb => ⟨d b (n b hb).1, (n b hb).2⟩⟩
theorem Frs.ahead (f : Frs H H' k xs) (d : Dom H0 H) : Frs H0 H' k xs := by
  obtain ⟨as, t, e, r, l, n⟩ := f
  exact ⟨as, t, e, r, l, fun b hb => ⟨d b (n b hb).1, (n b hb).2⟩⟩
theorem Fr.kp (f : Fr H H' k x) (kp : Kp p H' H2) (hp : Pot H p) : Fr H H2 k x := f.on fun b o e h => kp.1 b o (fun z => by
  obtain ⟨u, hu⟩ := hp.there
  rw [← z, e] at hu
  cases hu) h
theorem Frs.kp (f : Frs H H' k xs) (kp : Kp p H' H2) (hp : Pot H p) : Frs H H2 k xs := f.on fun b o e h => kp.1 b o (fun z => by
  obtain ⟨u, hu⟩ := hp.there
  rw [← z, e] at hu
  cases hu) h
theorem Frs.put {a : Addr} {o u : HO} (f : Frs H H' k xs) (h : H a = some u) : Frs H (upd H' a o) k xs := f.on fun b w e hb => by
  rw [upd_ne (fun z => by rw [z, h] at e; cases e)]
  exact hb
theorem Fr.put {a : Addr} {o u : HO} (f : Fr H H' k x) (h : H a = some u) : Fr H (upd H' a o) k x := f.on fun b w e hb => by
  rw [upd_ne (fun z => by rw [z, h] at e; cases e)]
  exact hb
theorem Fr.new {a : Addr} {o : HO} (f : Fr H H' k x) (h : H' a = none) : Fr H (upd H' a o) k x := f.on fun b w e hb => by
  rw [upd_ne (ne_of_none hb h)]
  exact hb
theorem Frs.nil : Frs H H' k [] := ⟨[], [], rfl, fun i x t h _ => (by simp at h), Nat.zero_le _, fun _ h => nomatch h⟩
theorem Frs.snoc (f : Frs H H' k xs) (g : Fr H H' k x) : Frs H H' k (xs ++ [x]) := by
  obtain ⟨as, ts, e, r, l, n⟩ := f
  obtain ⟨bs, t, r1, l1, n1⟩ := g
  refine ⟨as ++ bs, ts ++ [t], by simp [e], fun i y u h1 h2 => ?_, ?_, fun b hb => (List.mem_append.mp hb).elim (n b) (n1 b)⟩
  · by_cases c : i < xs.length
    · rw [List.getElem?_append_left c] at h1
      rw [List.getElem?_append_left (by omega)] at h2
      exact (r i y u h1 h2).more fun b hb => List.mem_append_left _ hb
    · rw [List.getElem?_append_right (by omega)] at h1
      rw [List.getElem?_append_right (by omega)] at h2
      have c1 := (List.getElem?_eq_some_iff.mp h1).1
      have c0 : i - xs.length = 0 := by simp at c1; omega
      rw [c0] at h1
      rw [show i - ts.length = 0 by omega] at h2
      cases h1
      cases h2
      exact r1.more fun b hb => List.mem_append_right _ hb
  · rw [piled_append, List.length_append, Nat.add_mul]
    have : piled [t] = t.length + 2 := by simp [piled]
    simp only [List.length_singleton, Nat.one_mul]
    omega
theorem listText_le : ∀ ts : List Str, (listText ts).length ≤ piled ts + 2
  | [] => by decide
  | t :: r => by
    have h := textFrom_length_pos r 1 (("[" : Str) ++ (if (0 : Nat) > 0 then ", " else "" : String) ++ t) (Nat.succ_pos 0)
    have e : (listText (t :: r)).length = (textFrom 1 (("[" : Str) ++ (if (0 : Nat) > 0 then ", " else "" : String) ++ t) r).length + 1 := strLen_append _ _
    have e2 : (("[" : Str) ++ (if (0 : Nat) > 0 then ", " else "" : String) ++ t).length = 1 + t.length := by
      rw [strLen_append, strLen_append]
      rfl
    rw [e, h, e2, piled_cons]
    omega
theorem tupleText_le (ts : List Str) : (tupleText ts).length ≤ piled ts + 3 := by
  unfold tupleText
  rw [strLen_append, strLen_append]
  have e1 : ((("(" : String) : Str)).length = 1 := rfl
  have e3 : (((if ts.length == 1 then ",)" else ")" : String) : Str)).length ≤ 2 := by split <;> decide
  by_cases z : ts = []
  · subst z
    have : (Str.join (", " : String) ([] : List Str)).length = 0 := rfl
    omega
  · have := join_length_add ts z
    omega
theorem Frs.bound {k : Nat} {n : Nat} (hn : n ≤ 3) : n * (bdT k + 2) + 20 ≤ bdT (k + 1) := by
  rw [bdT_succ]
  have := bdT_pos k
  have : n * (bdT k + 2) ≤ 3 * (bdT k + 2) := Nat.mul_le_mul_right _ hn
  omega
theorem Frs.list {a : Addr} (f : Frs H H' k xs) (n3 : xs.length ≤ 3) (h : H' a = some (.lst xs)) (d : Dom H0 H) (h0 : H0 a = none) {u : HO} (ha : H a = some u) : Fr H0 H' (k + 1) (.ref a) := by
  obtain ⟨as, ts, e, r, l, n⟩ := f
  refine ⟨a :: as, _, (Rp.lst (as0 := as) h (fun z => by rw [(n a z).1] at ha; cases ha) (fun _ h => h) e r).deep _ (by omega), ?_, fun b hb => ?_⟩
  · have := listText_le ts
    have := Frs.bound (k := k) n3
    omega
  · rcases List.mem_cons.mp hb with rfl | hb
    · exact ⟨h0, _, h⟩
    · exact ⟨d b (n b hb).1, (n b hb).2⟩
theorem Frs.tuple {a : Addr} (f : Frs H H' k xs) (n3 : xs.length ≤ 3) (h : H' a = none) (d : Dom H0 H') (d' : Dom H0 H) : Fr H0 (upd H' a (.tup xs)) (k + 1) (.ref a) := by
  obtain ⟨as, ts, e, r, l, n⟩ := f
  have r' : ∀ (i : Nat) (x : V) (t : Str), xs[i]? = some x → ts[i]? = some t → Rp (upd H' a (.tup xs)) as (2 * k + 1) x t := fun i x t h1 h2 => (r i x t h1 h2).keep fun b _ o hb => by rw [upd_ne (ne_of_none hb h)]; exact hb
  have na : a ∉ as := fun z => by
    obtain ⟨o, ho⟩ := (n a z).2
    rw [h] at ho
    cases ho
  refine ⟨a :: as, _, (Rp.tup (as0 := as) upd_same na (fun _ h => h) e r').deep _ (by omega), ?_, fun b hb => ?_⟩
  · have := tupleText_le ts
    have := Frs.bound (k := k) n3
    omega
  · rcases List.mem_cons.mp hb with rfl | hb
    · exact ⟨d _ h, _, upd_same⟩
    · obtain ⟨o, ho⟩ := (n b hb).2
      exact ⟨d' b (n b hb).1, o, by rw [upd_ne (ne_of_none ho h)]; exact ho⟩
/-- {"a": xs} -/
theorem Frs.dict {a c : Addr} (f : Frs H H' k xs) (n3 : xs.length ≤ 3) (h : H' a = some (.lst xs)) (d' : Dom H0 H) (h0 : H0 a = none) {u : HO} (ha : H a = some u) (hc : H' c = none) (d : Dom H0 H') (H3 : Hp) (hs : ∀ b o, H' b = some o → H3 b = some o)
    (h3 : H3 c = some (.dK [(.inr "a", .ref a)])) : Fr H0 H3 (k + 1) (.ref c) := by
  obtain ⟨as, ts, e, r, l, n⟩ := f
  have r' : ∀ (i : Nat) (x : V) (t : Str), xs[i]? = some x → ts[i]? = some t → Rp H3 as (2 * k + 1) x t := fun i x t h1 h2 => (r i x t h1 h2).keep fun b _ o hb => hs b o hb
  have na : a ∉ as := fun z => by
    rw [(n a z).1] at ha
    cases ha
  have in1 := Rp.lst (as := a :: as) (as0 := as) (hs a _ h) na (fun _ h => h) e r'
  have nc : c ∉ a :: as := fun z => by
    rcases List.mem_cons.mp z with rfl | z
    · rw [h] at hc; cases hc
    · obtain ⟨o, ho⟩ := (n c z).2
      rw [hc] at ho
      cases ho
  have sa : Sm 1 "a" := ⟨by decide, by decide⟩
  have la := sa.repr
  have big : (1000 : Nat) < sizeLine := by decide
  refine ⟨c :: a :: as, _, Rp.dic (as0 := a :: as) (ps := [(reprText "a", listText ts)]) h3 nc (fun _ h => h) rfl (fun i q p h1 h2 => ?_) (fun i q p h1 h2 => ?_), ?_, fun b hb => ?_⟩
  · cases i with
    | zero => cases h1; cases h2; exact .str _ (by omega)
    | succ i => simp at h1
  · cases i with
    | zero => cases h1; cases h2; exact in1
    | succ i => simp at h1
  · have := listText_le ts
    have := Frs.bound (k := k) n3
    have e : (dictText [reprText "a" ++ ": " ++ listText ts]).length = 1 + ((reprText "a").length + 2 + (listText ts).length) + 1 := by
      unfold dictText
      rw [strLen_append, strLen_append]
      show 1 + (reprText "a" ++ ": " ++ listText ts).length + 1 = _
      rw [strLen_append, strLen_append]
      rfl
    show (dictText [reprText "a" ++ ": " ++ listText ts]).length ≤ _
    omega
  · rcases List.mem_cons.mp hb with rfl | hb
    · exact ⟨d _ hc, _, h3⟩
    · rcases List.mem_cons.mp hb with rfl | hb
      · exact ⟨h0, _, hs _ _ h⟩
      · obtain ⟨o, ho⟩ := (n b hb).2
        exact ⟨d' b (n b hb).1, o, hs _ _ ho⟩
theorem Fr.emptyT {a : Addr} (h : H' a = some (.tup [])) (h0 : H a = none) : Fr H H' k (.ref a) :=
  ⟨[a], _, Rp.tup (as0 := []) (ts := []) h (by simp) (fun _ h => h) rfl (fun i x t h _ => by simp at h), Nat.le_trans (show _ ≤ 250 by decide) (bdT_pos k), fun b hb => by rw [List.mem_singleton.mp hb]; exact ⟨h0, _, h⟩⟩
theorem Fr.emptyL {a : Addr} (h : H' a = some (.lst [])) (h0 : H a = none) : Fr H H' k (.ref a) :=
  ⟨[a], _, Rp.lst (as0 := []) (ts := []) h (by simp) (fun _ h => h) rfl (fun i x t h _ => by simp at h), Nat.le_trans (show _ ≤ 250 by decide) (bdT_pos k), fun b hb => by rw [List.mem_singleton.mp hb]; exact ⟨h0, _, h⟩⟩
theorem Fr.emptyD {a : Addr} (h : H' a = some (.dK [])) (h0 : H a = none) : Fr H H' k (.ref a) :=
  ⟨[a], _, Rp.dic (as0 := []) (ps := []) h (by simp) (fun _ h => h) rfl (fun i x t h _ => by simp at h) (fun i x t h _ => by simp at h), Nat.le_trans (show _ ≤ 250 by decide) (bdT_pos k), fun b hb => by rw [List.mem_singleton.mp hb]; exact ⟨h0, _, h⟩⟩
end
end Gd

set_option Elab.async false
set_option linter.all false
set_option maxRecDepth 100000
set_option maxHeartbeats 1000000
/-! Operators by own methods: an own instance on the left, on the right, on both sides. -/
namespace Oo
open PySem PySem.Spec PySem.W PyProof.Rows
section
variable {prog : Program} {w : World} {A : Around} {E : Value → Shared → Prop} {s : Shared} {K : Frag} {x y C f g : Addr} {ox oy : Obj} {od oe : Option Obj} {nm T : String}

theorem b1_same {Q : Value → Shared → Prop} (X : K.In s.heap) (I : InstAt s.heap x ox C od) (J : InstAt s.heap y oy C oe) (hc : selfFirst K C = true) (hs : findIn K (.ref C) (PySem.dunder nm) = some (some (.ref f))) (hf : isFn K (.ref f) = true)
    (h : wpAny (model prog w) A (call (.ref f) [.ref x, .ref y]) (W.CmpBack Q) E s) : wpAny (model prog w) A (binaryOp1 nm (.ref x) (.ref y)) (fun r s' => ∃ v, r = some v ∧ Q v s') E s := by
  obtain ⟨cd, rest, hcd, hm⟩ := ksp_first hc
  have one := ksp_try X I hs hf h
  obtain ⟨hh, gg, d, tt, os⟩ := s
  have L1 : Looks (model prog w) hh (typeOf (.ref x)) (.ref C) := I.type
  have L2 : Looks (model prog w) hh (typeOf (.ref y)) (.ref C) := J.type
  have L3 : Looks (model prog w) hh (fillsNumberSlot (.ref C) nm) true := fills_K X hcd hm hs
  unfold binaryOp1
  refine wpAny_bind (L1.at (wpAny_bind (L2.at (wpAny_bind (L3.at ?_)))))
  have he : (Value.ref C == Value.ref C) = true := beq_self_eq_true _
  simp only [he, if_true]
  ksp_lk
  refine wpAny_mono one (fun r s' hr' => ?_) fun _ _ e => e
  obtain ⟨v, rfl, hq⟩ := hr'
  ksp_lk
  exact ⟨v, rfl, hq⟩

theorem b1_left {b : Value} {fo ro rc : Option Value} {Q : Value → Shared → Prop} (X : K.In s.heap) (I : InstAt s.heap x ox C od) (hb : typeOf b = pure (.type T)) (hc : selfFirst K C = true)
    (hs : findIn K (.ref C) (PySem.dunder nm) = some (some (.ref f))) (hf : isFn K (.ref f) = true) (hr : findIn K (.ref C) (dunderR nm) = some rc) (hp : rc = none ∨ ∃ g : Addr, rc = some (.ref g))
    (h1 : findIn K (.type T) (PySem.dunder nm) = some fo) (h2 : findIn K (.type T) (dunderR nm) = some ro) (hsub : subIn K (.type T) (.ref C) = some false)
    (h : wpAny (model prog w) A (call (.ref f) [.ref x, b]) (W.CmpBack Q) E s) : wpAny (model prog w) A (binaryOp1 nm (.ref x) b) (fun r s' => ∃ v, r = some v ∧ Q v s') E s := by
  obtain ⟨cd, rest, hcd, hm⟩ := ksp_first hc
  have one := ksp_try X I hs hf h
  obtain ⟨hh, gg, d, tt, os⟩ := s
  have L1 : Looks (model prog w) hh (typeOf (.ref x)) (.ref C) := I.type
  have L2 : Looks (model prog w) hh (typeOf b) (.type T) := Looks.of_pure hb
  have L3 : Looks (model prog w) hh (fillsNumberSlot (.ref C) nm) true := fills_K X hcd hm hs
  have L4 : Looks (model prog w) hh (fillsNumberSlot (.type T) nm) ((fo.isSome && !isSeqSlot fo) || (ro.isSome && !isSeqSlot ro)) := ksp_fillsT X h1 h2
  have L5 : Looks (model prog w) hh (isSubtype (.type T) (.ref C)) false := looks_subIn X hsub
  have L6 : Looks (model prog w) hh (numberSlotInPython (.ref C) nm) true := ksp_inPy X hs hr hp
  have L7 : Looks (model prog w) hh (numberSlotInPython (.type T) nm) false := Looks.of_pure rfl
  have L8 : Looks (model prog w) hh (typeLookup (.type T) (dunderR nm)) ro := looks_findIn X h2
  generalize ((fo.isSome && !isSeqSlot fo) || (ro.isSome && !isSeqSlot ro)) = right at L4
  have hne : (Value.ref C == Value.type T) = false := Bool.eq_false_iff.mpr fun q => by cases beq_iff_eq.mp q
  unfold binaryOp1
  refine wpAny_bind (L1.at (wpAny_bind (L2.at (wpAny_bind (L3.at ?_)))))
  simp only [hne, Bool.false_eq_true, if_false]
  cases right with
  | false =>
    ksp_lk
    refine wpAny_mono one (fun r s' hr' => ?_) fun _ _ e => e
    obtain ⟨v, rfl, hq⟩ := hr'
    ksp_lk
    exact ⟨v, rfl, hq⟩
  | true =>
    ksp_lk
    refine wpAny_mono one (fun r s' hr' => ?_) fun _ _ e => e
    obtain ⟨v, rfl, hq⟩ := hr'
    ksp_lk
    exact ⟨v, rfl, hq⟩

/-- a's own method for it declines -/
def Declines (prog : Program) (w : World) (A : Around) (E : Value → Shared → Prop) (s : Shared) (nm : String) (a : Value) (y : Addr) : Prop :=
  ∀ R : Option Value → Shared → Prop, (∀ t, R none { s with toks := t }) → wpAny (model prog w) A (tryMethod a (PySem.dunder nm) (.ref y)) R E s

theorem b1_right {a : Value} {fo ro : Option Value} {Q : Value → Shared → Prop} (X : K.In s.heap) (J : InstAt s.heap y oy C oe) (ha : typeOf a = pure (.type T)) (hc : selfFirst K C = true)
    (hs : findIn K (.ref C) (PySem.dunder nm) = some (some (.ref f))) (hr : findIn K (.ref C) (dunderR nm) = some (some (.ref g))) (hg : isFn K (.ref g) = true)
    (h1 : findIn K (.type T) (PySem.dunder nm) = some fo) (h2 : findIn K (.type T) (dunderR nm) = some ro) (hsub : subIn K (.ref C) (.type T) = some false)
    (no : ((fo.isSome && !isSeqSlot fo) || (ro.isSome && !isSeqSlot ro)) = true → Declines prog w A E s nm a y)
    (h : ∀ t, wpAny (model prog w) A (call (.ref g) [.ref y, a]) (W.CmpBack Q) E { s with toks := t }) : wpAny (model prog w) A (binaryOp1 nm a (.ref y)) (fun r s' => ∃ v, r = some v ∧ Q v s') E s := by
  obtain ⟨cd, rest, hcd, hm⟩ := ksp_first hc
  have one : ∀ t, wpAny (model prog w) A (tryMethod (.ref y) (dunderR nm) a) (fun r s' => ∃ v, r = some v ∧ Q v s') E { s with toks := t } := fun t => ksp_try (s := { s with toks := t }) X J hr hg (h t)
  obtain ⟨hh, gg, d, tt, os⟩ := s
  have L1 : Looks (model prog w) hh (typeOf a) (.type T) := Looks.of_pure ha
  have L2 : Looks (model prog w) hh (typeOf (.ref y)) (.ref C) := J.type
  have L3 : Looks (model prog w) hh (fillsNumberSlot (.ref C) nm) true := fills_K X hcd hm hs
  have L4 : Looks (model prog w) hh (fillsNumberSlot (.type T) nm) ((fo.isSome && !isSeqSlot fo) || (ro.isSome && !isSeqSlot ro)) := ksp_fillsT X h1 h2
  have L5 : Looks (model prog w) hh (isSubtype (.ref C) (.type T)) false := looks_subIn X hsub
  have L7 : Looks (model prog w) hh (numberSlotInPython (.type T) nm) false := Looks.of_pure rfl
  have hne : (Value.type T == Value.ref C) = false := Bool.eq_false_iff.mpr fun q => by cases beq_iff_eq.mp q
  generalize hl : ((fo.isSome && !isSeqSlot fo) || (ro.isSome && !isSeqSlot ro)) = left at L4 no
  unfold binaryOp1
  refine wpAny_bind (L1.at (wpAny_bind (L2.at (wpAny_bind (L4.at ?_)))))
  simp only [hne, Bool.false_eq_true, if_false]
  cases left with
  | false =>
    ksp_lk
    refine wpAny_mono (one tt) (fun r s' hr' => ?_) fun _ _ e => e
    obtain ⟨v, rfl, hq⟩ := hr'
    ksp_lk
    exact ⟨v, rfl, hq⟩
  | true =>
    ksp_lk
    refine no rfl _ fun t => ?_
    ksp_lk
    refine wpAny_mono (one t) (fun r s' hr' => ?_) fun _ _ e => e
    obtain ⟨v, rfl, hq⟩ := hr'
    ksp_lk
    exact ⟨v, rfl, hq⟩

/-- an operator by its first look -/
theorem bin_of {op : Operator} {a b : Value} {Q : Value → Shared → Prop} (h : wpAny (model prog w) A (binaryOp1 op.info.2 a b) (fun r s' => ∃ v, r = some v ∧ Q v s') E s) : wpAny (model prog w) A (binaryOp op a b) Q E s := by
  rcases hi : op.info with ⟨sym, nm'⟩
  rw [hi] at h
  simp only [binaryOp, hi]
  refine wpAny_holding (wpAny_bind (wpAny_mono h (fun r s' hr' => ?_) fun _ _ e => e))
  obtain ⟨v, rfl, hq⟩ := hr'
  obtain ⟨hh, gg, d, tt, os⟩ := s'
  ksp_lk
  exact hq

theorem nofi_T {h : Heap} {add : Bool} (X : K.In h) (h1 : findIn K (.type T) (dunderI nm) = some none) : Looks (model prog w) h (fillsInplaceSlot (.type T) nm add) false := by
  intro A Q E s k q
  obtain ⟨hh, g, d, tt, os⟩ := s
  have X' : K.In hh := X.keeps k
  have L1 : Looks (model prog w) hh (typeLookup (.type T) (dunderI nm)) none := looks_findIn X' h1
  unfold fillsInplaceSlot
  repeat lk
  exact q
theorem nofi_C {h : Heap} {add : Bool} {cd : ClassData} (X : K.In h) (hc : clsIn K C = some cd) (hm : cd.mro = [.ref C, .type "object"]) (h1 : findIn K (.ref C) (dunderI nm) = some none) (h2 : findIn K (.type "object") (dunderI nm) = some none) :
    Looks (model prog w) h (fillsInplaceSlot (.ref C) nm add) false := by
  intro A Q E s k q
  have Lm : Looks (model prog w) h (mroOf (.ref C)) cd.mro := (looks_clsIn X hc).andThen (f := fun cd => pure cd.mro) .now
  have Lm' := Lm.keeps k
  obtain ⟨hh, g, d, tt, os⟩ := s
  have X' : K.In hh := X.keeps k
  have L1 : Looks (model prog w) hh (typeLookup (.ref C) (dunderI nm)) none := looks_findIn X' h1
  have L2 : Looks (model prog w) hh (typeLookup (.type "object") (dunderI nm)) none := looks_findIn X' h2
  unfold fillsInplaceSlot
  refine wpAny_bind (Lm'.at ?_)
  rw [hm, List.anyM_cons]
  refine wpAny_bind ?_
  repeat lk
  exact q
/-- x op= e by the operator, where nothing has an own op= -/
theorem iop_of {op : Operator} {a b ta : Value} {Q : Value → Shared → Prop} (ht : Looks (model prog w) s.heap (typeOf a) ta) (hfi : Looks (model prog w) s.heap (fillsInplaceSlot ta op.info.2 (op == .Add)) false)
    (h : wpAny (model prog w) A (binaryOp1 op.info.2 a b) (fun r s' => ∃ v, r = some v ∧ Q v s') E s) : wpAny (model prog w) A (inplaceOp op a b) Q E s := by
  unfold inplaceOp
  obtain ⟨hh, gg, d, tt, os⟩ := s
  refine wpAny_holding (wpAny_bind (ht.at ?_))
  refine wpAny_bind (hfi.at ?_)
  simp only [Bool.false_eq_true, if_false]
  refine wpAny_bind (wpAny_mono h (fun r s' hr' => ?_) fun _ _ e => e)
  obtain ⟨v, rfl, hq⟩ := hr'
  obtain ⟨hh, gg, d, tt, os⟩ := s'
  ksp_lk
  exact hq
/-- int's own method declines what is no int -/
theorem decl_of {id : String} {B : Builtin} {i : Int} {u : Tok} (slot : Slot "int" (PySem.dunder nm) id) (entry : entryFor table id = some B) (args : argsOk id ⟨[.int i u, .ref y], []⟩)
    (body : ∀ (E' : Value → Shared → Prop) (R : Fin → Shared → Prop), (∀ t, R (.done (.ret .notImplemented)) { s with toks := t }) → wpAny (model prog w) A.in1 (B ⟨[.int i u, .ref y], []⟩) R E' s) : Declines prog w A E s nm (.int i u) y := by
  intro R hR
  unfold tryMethod
  refine wpAny_bind (wpAny_callSpecial?_slot (typeIs_int _ _ _) slot (GQ.call_here slot (typeIs_int _ _ _) entry args (body _ _ fun t => ?_)))
  exact wpAny_pure (hR t)
end
end Oo

set_option Elab.async false
set_option linter.all false
set_option maxRecDepth 100000
set_option maxHeartbeats 400000
namespace Oo
open PySem PySem.Spec PySem.W PyProof.Rows
section
variable {prog : Program} {w : World} {A : Around} {E : Value → Shared → Prop} {s : Shared} {K : Frag} {x y C f g : Addr} {ox oy : Obj} {od oe : Option Obj} {nm T : String}
variable {i : Int} {u : Tok} {dx : Addr}
theorem asInt_inst {R : Option Int → Shared → Prop} {M : Model} (hy : s.heap.get? y = some (instObj C dx)) (h : R none s) : wpAny M A (asInt? (.ref y)) R E s := by
  unfold asInt?
  refine wpAny_bind (wpAny_load hy ?_)
  exact wpAny_pure h
theorem bin_no {name : String} {f : Int → Int → Sem Fin} (hy : s.heap.get? y = some (instObj C dx))
    {R : Fin → Shared → Prop} (hR : ∀ t, R (.done (.ret .notImplemented)) { s with toks := t }) : wpAny (model prog w) A (Builtin.Int.intBinary name f false ⟨[Value.int i u, Value.ref y], []⟩) R E s := by
  unfold Builtin.Int.intBinary
  have hs : PySem.slotArgs name 1 ⟨[Value.int i u, Value.ref y], []⟩ = pure (Value.int i u, [Value.ref y]) := rfl
  refine wpAny_bind (wpAny_of_eq hs ?_)
  dsimp only
  refine wpAny_bind (wpAny_of_eq (a := i) rfl ?_)
  refine wpAny_bind (asInt_inst hy ?_)
  exact wpAny_bind (wpAny_rule (wpAny_pure (hR _)))
theorem pylong_no {R : Unit → Shared → Prop} {M : Model} (hy : s.heap.get? y = some (instObj C dx)) (h : R () s) : wpAny M A (Builtin.exactOperandsForPylong false ⟨[Value.int i u, Value.ref y], []⟩) R E s := by
  unfold Builtin.exactOperandsForPylong
  refine wpAny_ite_true rfl ?_
  refine wpAny_bind (wpAny_of_eq (a := some i) rfl ?_)
  refine wpAny_bind (asInt_inst hy ?_)
  exact wpAny_pure h
theorem fdiv_no {R : Fin → Shared → Prop} (hy : s.heap.get? y = some (instObj C dx)) (hR : ∀ t, R (.done (.ret .notImplemented)) { s with toks := t }) : wpAny (model prog w) A (Builtin.«int.__floordiv__» ⟨[Value.int i u, Value.ref y], []⟩) R E s := by
  unfold Builtin.«int.__floordiv__»
  exact wpAny_bind (pylong_no hy (bin_no hy hR))
theorem fd1 : Slot "int" (PySem.dunder "floordiv") "int.__floordiv__" := F.slot_int_floordiv
theorem fd2 : entryFor table "int.__floordiv__" = some Builtin.«int.__floordiv__» := F.entry_int_floordiv
theorem fd3 : argsOk "int.__floordiv__" ⟨[Value.int i u, Value.ref y], []⟩ := F.args_int_floordiv_2 _ _
theorem decl_fd {B : Builtin} (hB : Builtin.«int.__floordiv__» = B) (h2 : entryFor table "int.__floordiv__" = some B) (hy : s.heap.get? y = some (instObj C dx)) : Declines prog w A E s "floordiv" (Value.int i u) y :=
  decl_of (nm := "floordiv") (id := "int.__floordiv__") (B := B) (i := i) (u := u) fd1 h2 fd3 (hB ▸ fun E' R hR => fdiv_no hy hR)
theorem decl_floordiv (hy : s.heap.get? y = some (instObj C dx)) : Declines prog w A E s "floordiv" (Value.int i u) y := decl_fd rfl fd2 hy
theorem add_no {R : Fin → Shared → Prop} (hy : s.heap.get? y = some (instObj C dx)) (hR : ∀ t, R (.done (.ret .notImplemented)) { s with toks := t }) : wpAny (model prog w) A (Builtin.«int.__add__» ⟨[Value.int i u, Value.ref y], []⟩) R E s := by
  unfold Builtin.«int.__add__»
  exact bin_no hy hR
theorem add2 : entryFor table "int.__add__" = some Builtin.«int.__add__» := F.entry_int_add
theorem add3 : argsOk "int.__add__" ⟨[Value.int i u, Value.ref y], []⟩ := F.args_int_add_2 _ _
theorem decl_add' {B : Builtin} (hB : Builtin.«int.__add__» = B) (h2 : entryFor table "int.__add__" = some B) (hy : s.heap.get? y = some (instObj C dx)) : Declines prog w A E s "add" (Value.int i u) y :=
  decl_of (nm := "add") (id := "int.__add__") (B := B) (i := i) (u := u) F.slot_int_add h2 add3 (hB ▸ fun E' R hR => add_no hy hR)
theorem decl_add (hy : s.heap.get? y = some (instObj C dx)) : Declines prog w A E s "add" (Value.int i u) y := decl_add' rfl add2 hy
theorem sub_no {R : Fin → Shared → Prop} (hy : s.heap.get? y = some (instObj C dx)) (hR : ∀ t, R (.done (.ret .notImplemented)) { s with toks := t }) : wpAny (model prog w) A (Builtin.«int.__sub__» ⟨[Value.int i u, Value.ref y], []⟩) R E s := by
  unfold Builtin.«int.__sub__»
  exact bin_no hy hR
theorem sub2 : entryFor table "int.__sub__" = some Builtin.«int.__sub__» := F.entry_int_sub
theorem sub3 : argsOk "int.__sub__" ⟨[Value.int i u, Value.ref y], []⟩ := F.args_int_sub_2 _ _
theorem decl_sub' {B : Builtin} (hB : Builtin.«int.__sub__» = B) (h2 : entryFor table "int.__sub__" = some B) (hy : s.heap.get? y = some (instObj C dx)) : Declines prog w A E s "sub" (Value.int i u) y :=
  decl_of (nm := "sub") (id := "int.__sub__") (B := B) (i := i) (u := u) F.slot_int_sub h2 sub3 (hB ▸ fun E' R hR => sub_no hy hR)
theorem decl_sub (hy : s.heap.get? y = some (instObj C dx)) : Declines prog w A E s "sub" (Value.int i u) y := decl_sub' rfl sub2 hy
theorem mul_no {R : Fin → Shared → Prop} (hy : s.heap.get? y = some (instObj C dx)) (hR : ∀ t, R (.done (.ret .notImplemented)) { s with toks := t }) : wpAny (model prog w) A (Builtin.«int.__mul__» ⟨[Value.int i u, Value.ref y], []⟩) R E s := by
  unfold Builtin.«int.__mul__»
  exact bin_no hy hR
theorem mul2 : entryFor table "int.__mul__" = some Builtin.«int.__mul__» := F.entry_int_mul
theorem mul3 : argsOk "int.__mul__" ⟨[Value.int i u, Value.ref y], []⟩ := F.args_int_mul_2 _ _
theorem decl_mul' {B : Builtin} (hB : Builtin.«int.__mul__» = B) (h2 : entryFor table "int.__mul__" = some B) (hy : s.heap.get? y = some (instObj C dx)) : Declines prog w A E s "mul" (Value.int i u) y :=
  decl_of (nm := "mul") (id := "int.__mul__") (B := B) (i := i) (u := u) F.slot_int_mul h2 mul3 (hB ▸ fun E' R hR => mul_no hy hR)
theorem decl_mul (hy : s.heap.get? y = some (instObj C dx)) : Declines prog w A E s "mul" (Value.int i u) y := decl_mul' rfl mul2 hy
theorem mod_no {R : Fin → Shared → Prop} (hy : s.heap.get? y = some (instObj C dx)) (hR : ∀ t, R (.done (.ret .notImplemented)) { s with toks := t }) : wpAny (model prog w) A (Builtin.«int.__mod__» ⟨[Value.int i u, Value.ref y], []⟩) R E s := by
  unfold Builtin.«int.__mod__»
  exact bin_no hy hR
theorem mod2 : entryFor table "int.__mod__" = some Builtin.«int.__mod__» := F.entry_int_mod
theorem mod3 : argsOk "int.__mod__" ⟨[Value.int i u, Value.ref y], []⟩ := F.args_int_mod_2 _ _
theorem decl_mod' {B : Builtin} (hB : Builtin.«int.__mod__» = B) (h2 : entryFor table "int.__mod__" = some B) (hy : s.heap.get? y = some (instObj C dx)) : Declines prog w A E s "mod" (Value.int i u) y :=
  decl_of (nm := "mod") (id := "int.__mod__") (B := B) (i := i) (u := u) F.slot_int_mod h2 mod3 (hB ▸ fun E' R hR => mod_no hy hR)
theorem decl_mod (hy : s.heap.get? y = some (instObj C dx)) : Declines prog w A E s "mod" (Value.int i u) y := decl_mod' rfl mod2 hy
/-- the five operators of which int declines an own instance -/
def Five (op : Operator) : Prop := op = .Add ∨ op = .Sub ∨ op = .Mult ∨ op = .Mod ∨ op = .FloorDiv
theorem decl_five {op : Operator} (h : Five op) (hy : s.heap.get? y = some (instObj C dx)) : Declines prog w A E s op.info.2 (Value.int i u) y := by
  rcases h with rfl | rfl | rfl | rfl | rfl
  · exact decl_add hy
  · exact decl_sub hy
  · exact decl_mul hy
  · exact decl_mod hy
  · exact decl_floordiv hy
end
end Oo

set_option Elab.async false
set_option linter.all false
set_option maxRecDepth 100000
set_option maxHeartbeats 400000
/-! ### over the layer -/
namespace Oo
open PySem PySem.Spec PyProof.Rows L2
/-- what the text says of a class's operator: its own def f, the turned one g (or none); int has the slot -/
structure OwnBin (K : W.Frag) (C : Addr) (nm : String) (f : Addr) (g : Option Addr) : Prop where
  sf : W.selfFirst K C = true
  hs : W.findIn K (.ref C) (PySem.dunder nm) = some (some (.ref f))
  hf : W.isFn K (.ref f) = true
  hr : W.findIn K (.ref C) (dunderR nm) = some (g.map Value.ref)
  hg : ∀ a, g = some a → W.isFn K (.ref a) = true
  i1 : ∃ fo, W.findIn K (.type "int") (PySem.dunder nm) = some fo
  i2 : ∃ ro, W.findIn K (.type "int") (dunderR nm) = some ro
  s1 : W.subIn K (.type "int") (.ref C) = some false
  s2 : W.subIn K (.ref C) (.type "int") = some false
/-- .. and that nothing has an own op= -/
structure NoIn (K : W.Frag) (C : Addr) (nm : String) : Prop where
  mro : ∃ cd, W.clsIn K C = some cd ∧ cd.mro = [.ref C, .type "object"]
  n1 : W.findIn K (.ref C) (dunderI nm) = some none
  n2 : W.findIn K (.type "object") (dunderI nm) = some none
  n3 : W.findIn K (.type "int") (dunderI nm) = some none
/-- x op y of own instances and ints, by the defs at f and g with the promises sp and sq -/
def Third (C : Addr) (sq : Sp) (E : XK) (x y : V) (H : Hp) (Q : VK) : Prop := ∃ b dy gs i, x = .int i ∧ y = .ref b ∧ H b = some (.ins C dy gs) ∧ sq [y, x] H Q E
def rBin (C : Addr) (sp sq : Sp) (E : XK) : R2 := fun x y H Q =>
  (∃ a dx fs b dy gs, x = .ref a ∧ y = .ref b ∧ H a = some (.ins C dx fs) ∧ H b = some (.ins C dy gs) ∧ sp [x, y] H Q E) ∨
  (∃ a dx fs i, x = .ref a ∧ y = .int i ∧ H a = some (.ins C dx fs) ∧ sp [x, y] H Q E) ∨
  (∃ b dy gs i, x = .int i ∧ y = .ref b ∧ H b = some (.ins C dy gs) ∧ sq [y, x] H Q E)
section
variable {X : Cx} {CX : CXT} {pins : List (Addr × Obj)} {σ : L2.St} {H : Hp} {s : Shared} {C f : Addr} {g : Option Addr} {k : Nat} {sp sq : Sp} {E : XK} {op : Operator} {fd gd : FuncData} {ps qs : List Str}
theorem inst_at (I : Inv X pins σ H s) {a dx : Addr} {fs : List (Str × V)} (e : H a = some (.ins C dx fs)) : ∃ od, W.InstAt s.heap a (W.instObj C dx) C (some od) ∧ s.heap.get? a = some (W.instObj C dx) := by
  obtain ⟨mA, O, _, _, _, _⟩ := ins_get I.hok e
  obtain ⟨od, J, _⟩ := O.look
  exact ⟨od, J, O.obj⟩
theorem b1_own {nm : String} {x y : V} {v u : Value} {Q : VK} (B : OwnBin X.K C nm f g) (F : FnOk X.prog X.w X.K X.mg X.base CX k f fd ps sp) (hb : Binds X.K fd ps []) (hx : Passes CX X E) (hr : Room k X.A)
    (G : Third C sq E x y H Q → ∃ (a : Addr) (gd : FuncData) (qs : List Str), g = some a ∧ FnOk X.prog X.w X.K X.mg X.base CX k a gd qs sq ∧ Binds X.K gd qs [])
    (hd : Third C sq E x y H Q → ∀ (y dx : Addr) (i : Int) (u : Tok) (s : Shared) (E : Value → Shared → Prop), s.heap.get? y = some (W.instObj C dx) → Declines X.prog X.w X.A E s nm (Value.int i u) y)
    (I : Inv X pins σ H s) (rx : RelV x v) (ry : RelV y u) (h : rBin C sp sq E x y H Q) :
    wpAny (model X.prog X.w) X.A (binaryOp1 nm v u) (fun r s' => ∃ z, r = some z ∧ EP X pins σ Q z s') X.xe s := by
  have fin : ∀ (z : Value) (s' : Shared), EP X pins σ Q z s' → W.CmpBack (EP X pins σ Q) z s' := fun z s' ⟨z', H', I', rz, q⟩ => SlX.cmpback rz ⟨z', H', I', rz, q⟩
  rcases h with ⟨a, dx, fs, b, dy, gs, rfl, rfl, ha, hb2, q⟩ | ⟨a, dx, fs, i, rfl, rfl, ha, q⟩ | ⟨b, dy, gs, i, rfl, rfl, hb2, q⟩
  · cases (show v = Value.ref a from rx)
    cases (show u = Value.ref b from ry)
    obtain ⟨od, J, _⟩ := inst_at I ha
    obtain ⟨oe, J2, _⟩ := inst_at I hb2
    exact b1_same I.kIn J J2 B.sf B.hs B.hf (wpAny_mono (run_fn (us := [.ref a, .ref b]) (vs := [.ref a, .ref b]) F hr hb .nil hx I (.cons rfl (.cons rfl .nil)) (by simpa using q)) fin fun _ _ z => z)
  · cases (show v = Value.ref a from rx)
    obtain ⟨t, rfl⟩ := (show ∃ t, u = Value.int i t from ry)
    obtain ⟨od, J, _⟩ := inst_at I ha
    obtain ⟨fo, h1⟩ := B.i1
    obtain ⟨ro, h2⟩ := B.i2
    refine b1_left I.kIn J (T := "int") rfl B.sf B.hs B.hf B.hr ?_ h1 h2 B.s1 (wpAny_mono (run_fn (us := [.ref a, .int i t]) (vs := [.ref a, .int i]) F hr hb .nil hx I (.cons rfl (.cons ⟨t, rfl⟩ .nil)) (by simpa using q)) fin fun _ _ z => z)
    cases g with
    | none => exact .inl rfl
    | some a => exact .inr ⟨a, rfl⟩
  · obtain ⟨t, rfl⟩ := (show ∃ t, v = Value.int i t from rx)
    cases (show u = Value.ref b from ry)
    obtain ⟨oe, J2, e2⟩ := inst_at I hb2
    obtain ⟨fo, h1⟩ := B.i1
    obtain ⟨ro, h2⟩ := B.i2
    have th : Third C sq E (.int i) (.ref b) H Q := ⟨b, dy, gs, i, rfl, rfl, hb2, q⟩
    obtain ⟨ga, gd, qs, eg, G1, G2⟩ := G th
    have hr2 : W.findIn X.K (.ref C) (dunderR nm) = some (some (.ref ga)) := by rw [B.hr, eg]; rfl
    refine b1_right I.kIn J2 (T := "int") rfl B.sf B.hs hr2 (B.hg ga eg) h1 h2 B.s2 (fun _ => hd th b dy i t s _ e2) fun t2 => ?_
    have I2 : Inv X pins σ H { s with toks := t2 } := I.tok t2
    exact wpAny_mono (run_fn (us := [.ref b, .int i t]) (vs := [.ref b, .int i]) G1 hr G2 .nil hx I2 (.cons rfl (.cons ⟨t, rfl⟩ .nil)) (by simpa using q)) fin fun _ _ z => z
theorem op_bin (h5 : Five op) {g : Addr} (B : OwnBin X.K C op.info.2 f (some g)) (F : FnOk X.prog X.w X.K X.mg X.base CX k f fd ps sp) (hb : Binds X.K fd ps []) (G : FnOk X.prog X.w X.K X.mg X.base CX k g gd qs sq) (hb2 : Binds X.K gd qs [])
    (hx : Passes CX X E) (hr : Room k X.A) : OpR X (binaryOp op) (rBin C sp sq E) := fun pins s σ H x y v u Q I rx ry h =>
  bin_of (b1_own B F hb hx hr (fun _ => ⟨g, gd, qs, rfl, G, hb2⟩) (fun _ y dx i u s E hy => decl_five h5 hy) I rx ry h)
theorem iop_bin (h5 : Five op) {g : Addr} (B : OwnBin X.K C op.info.2 f (some g)) (N : NoIn X.K C op.info.2) (F : FnOk X.prog X.w X.K X.mg X.base CX k f fd ps sp) (hb : Binds X.K fd ps []) (G : FnOk X.prog X.w X.K X.mg X.base CX k g gd qs sq) (hb2 : Binds X.K gd qs [])
    (hx : Passes CX X E) (hr : Room k X.A) : OpR X (inplaceOp op) (rBin C sp sq E) := fun pins s σ H x y v u Q I rx ry h => by
  have one := b1_own B F hb hx hr (fun _ => ⟨g, gd, qs, rfl, G, hb2⟩) (fun _ y dx i u s E hy => decl_five h5 hy) I rx ry h
  have left : (∃ a dx fs, x = .ref a ∧ H a = some (.ins C dx fs)) ∨ ∃ i, x = .int i := by
    rcases h with ⟨a, dx, fs, _, _, _, rfl, _, ha, _⟩ | ⟨a, dx, fs, _, rfl, _, ha, _⟩ | ⟨_, _, _, i, rfl, _⟩
    · exact .inl ⟨a, dx, fs, rfl, ha⟩
    · exact .inl ⟨a, dx, fs, rfl, ha⟩
    · exact .inr ⟨i, rfl⟩
  rcases left with ⟨a, dx, fs, rfl, ha⟩ | ⟨i, rfl⟩
  · cases (show v = Value.ref a from rx)
    obtain ⟨od, J, _⟩ := inst_at I ha
    obtain ⟨cd, hc, hm⟩ := N.mro
    exact iop_of (ta := .ref C) J.type (nofi_C I.kIn hc hm N.n1 N.n2) one
  · obtain ⟨t, rfl⟩ := (show ∃ t, v = Value.int i t from rx)
    exact iop_of (ta := .type "int") (W.Looks.of_pure rfl) (nofi_T I.kIn N.n3) one
/-- an instance on the left: the turned def does not matter -/
theorem op_left (B : OwnBin X.K C op.info.2 f g) (F : FnOk X.prog X.w X.K X.mg X.base CX k f fd ps sp) (hb : Binds X.K fd ps []) (hx : Passes CX X E) (hr : Room k X.A) : OpR X (binaryOp op) (rBin C sp (fun _ _ _ _ => False) E) :=
  fun pins s σ H x y v u Q I rx ry h => bin_of (b1_own B F hb hx hr (fun ⟨_, _, _, _, _, _, _, z⟩ => z.elim) (fun ⟨_, _, _, _, _, _, _, z⟩ => z.elim) I rx ry h)
/-- -x -/
theorem un_own (hs : W.findIn X.K (.ref C) "__neg__" = some (some (.ref f))) (hf : W.isFn X.K (.ref f) = true) (F : FnOk X.prog X.w X.K X.mg X.base CX k f fd ps sp) (hb : Binds X.K fd ps []) (hx : Passes CX X E) (hr : Room k X.A) :
    UnR X (unaryOp .USub) (fun x H Q => ∃ a dx fs, x = .ref a ∧ H a = some (.ins C dx fs) ∧ sp [x] H Q E) := fun pins s σ H x v Q I rx h => by
  obtain ⟨a, dx, fs, rfl, ha, q⟩ := h
  cases (show v = Value.ref a from rx)
  obtain ⟨od, J, _⟩ := inst_at I ha
  obtain ⟨m, hF⟩ := I.fr
  exact W.ksp_neg hF I.ok.mod.kin J hs hf (run_fn (us := [.ref a]) (vs := [.ref a]) F hr hb .nil hx I (.cons rfl .nil) (by simpa using q))
end
end Oo

set_option Elab.async false
set_option linter.all false
set_option maxRecDepth 100000
set_option maxHeartbeats 1000000
/-! abs, bool, str, repr of own instances; a staticmethod called by its class; // of great numbers of either sign. -/
namespace Oo
open PySem PySem.Spec PySem.W PyProof.Rows
section
variable {prog : Program} {w : World} {A : Around} {E : Value → Shared → Prop} {s : Shared} {K : Frag} {x y C f g : Addr} {ox oy : Obj} {od oe : Option Obj} {nm T : String}
theorem abs_own {Q : Value → Shared → Prop} (X : K.In s.heap) (I : InstAt s.heap x ox C od) (hs : findIn K (.ref C) "__abs__" = some (some (.ref f))) (hf : isFn K (.ref f) = true)
    (h : wpAny (model prog w) A.in1 (call (.ref f) [.ref x]) Q E s) : wpAny (model prog w) A (call (.builtin "abs") [.ref x]) Q E s := by
  refine Calls.call_function_entry kind_abs plain_abs entry_abs (args_abs _) ?_
  unfold Builtin.«abs»
  refine wpAny_bind (m := oneArg "abs" _) (wpAny_pure ?_)
  refine wpAny_bind (m := callSpecial? (.ref x) (Str.ofString "__abs__")) (special_fn X I hs (beq_iff_eq.mp hf) (wpAny_mono h (fun r s' hr => ?_) fun _ _ y => y))
  exact wpAny_pure ⟨_, rfl, hr⟩
theorem bool_own {Q : Value → Shared → Prop} (h : wpAny (model prog w) A.in1.in1 (truthy (.ref x)) (fun b s' => Q (.bool b) s') E s) : wpAny (model prog w) A (call (.type "bool") [.ref x]) Q E s := by
  refine callType_codes (T := "bool") (Bi := Builtin.«object.__init__») (Q₁ := fun r s₁ => ∃ b, r = Value.bool b ∧ Q r s₁) PySem.F.called_bool (PySem.F.typeCall_bool_1 _) PySem.F.entry_object_init ?_ ?_
  · refine codeAny_of_tree ?_
    show wpAny _ A.in1.in1 (do checkBuiltinCall "bool.__new__" ⟨[.type "bool", .ref x], []⟩; again (.builtin "bool.__new__" ⟨[.type "bool", .ref x], []⟩)) _ _ s
    refine wpAny_bind (wpAny_of_eq (PySem.F.newCall_bool_1 _) (wpAny_pure ⟨plainId_quiet (by decide +kernel) _, codeAny_builtin PySem.F.entry_bool_new ?_⟩))
    rw [Around.under_plainId (by decide +kernel) _]
    unfold Builtin.«bool.__new__»
    refine wpAny_bind (wpAny_of_eq (a := true) rfl ?_)
    refine PySem.W.KFB.if_not rfl ?_
    refine wpAny_bind (wpAny_of_eq (a := true) PySem.F.conv_sub_bool ?_)
    refine PySem.W.KFB.if_not rfl ?_
    refine wpAny_bind (wpAny_of_eq (a := [Value.ref x]) rfl ?_)
    refine wpAny_bind (wpAny_mono h (fun b s₁ hb => ?_) fun _ _ y => y)
    exact wpAny_pure ⟨_, rfl, hb⟩
  · rintro obj s₁ ⟨b, rfl, hq⟩
    exact ⟨PySem.typeIs_bool _ _, PySem.F.args_object_init_2 _ _, object_init_meets PySem.F.called_bool.init.lookup PySem.F.called_bool.made (by decide) prog w A.in1 _ s₁ ⟨PySem.typeIs_bool _ _, rfl, hq⟩⟩
end
end Oo
namespace Oo
open PySem PySem.Spec PyProof.Rows L2
section
variable {X : Cx} {CX : CXT} {pins : List (Addr × Obj)} {σ : L2.St} {H : Hp} {s : Shared} {C f : Addr} {k : Nat} {sp : Sp} {E : XK} {fd : FuncData} {ps : List Str}
/-- a def called below the running body -/
theorem run_atO {A : Around} {Q : VK} {us : List Value} {ws : List V} (F : FnOk X.prog X.w X.K X.mg X.base CX k f fd ps sp) (hb : Binds X.K fd ps []) (hr : Room k A) (e0 : Env0 X.prog X.w X.K X.mg X.base A X.stack s H) (hx : Passes CX X E) (I : Inv X pins σ H s)
    (r : Vals ws us) (h : sp ws H Q E) : wpAny (model X.prog X.w) A (call (.ref f) us) (EP X pins σ Q) X.xe s := by
  have hl : (us ++ []).length = ps.length := by rw [List.append_nil, ← r.length]; exact F.len _ _ _ _ h
  refine wpAny_call (codeAny_mono (F.run A X.stack s H ⟨us, []⟩ us ws Q E hr e0 (by simpa using hb s us I.kIn hl) r h) fun r s' hq => ?_)
  cases r with
  | error e => exact hx pins σ H s e s' I hq
  | ok fl =>
    cases fl with
    | ret u => exact I.after hq
    | next => exact False.elim hq
    | brk => exact False.elim hq
    | cont => exact False.elim hq
def rOne (C : Addr) (sp : Sp) (E : XK) (ok : V → Prop) : List V → Hp → VK → Prop := fun xs H Q => ∃ a dx fs, xs = [V.ref a] ∧ H a = some (.ins C dx fs) ∧ sp [.ref a] H (fun z H' => ok z ∧ Q z H') E
theorem call_absO (hs : W.findIn X.K (.ref C) "__abs__" = some (some (.ref f))) (hf : W.isFn X.K (.ref f) = true) (F : FnOk X.prog X.w X.K X.mg X.base CX k f fd ps sp) (hb : Binds X.K fd ps []) (hr : Room (k + 1) X.A) (hx : Passes CX X E) :
    CallR X (.builtin "abs") (rOne C sp E fun _ => True) := by
  intro pins s σ H xs us Q I r h
  obtain ⟨a, dx, fs, rfl, ha, q⟩ := h
  obtain ⟨u, rfl, ru⟩ := r.one
  cases (show u = Value.ref a from ru)
  obtain ⟨od, J, _⟩ := inst_at I ha
  exact abs_own I.kIn J hs hf (wpAny_mono (run_atO (us := [.ref a]) (ws := [.ref a]) F hb hr.in1 I.env0.in1 hx I (.cons rfl .nil) q) (fun v s' ⟨z, H', I', rz, _, qz⟩ => ⟨z, H', I', rz, qz⟩) fun _ _ z => z)
theorem call_reprO (hs : W.findIn X.K (.ref C) "__repr__" = some (some (.ref f))) (hf : W.isFn X.K (.ref f) = true) (F : FnOk X.prog X.w X.K X.mg X.base CX k f fd ps sp) (hb : Binds X.K fd ps []) (hr : Room (k + 1) X.A) (hx : Passes CX X E) :
    CallR X (.builtin "repr") (rOne C sp E fun z => ∃ t, z = .str t) := by
  intro pins s σ H xs us Q I r h
  obtain ⟨a, dx, fs, rfl, ha, q⟩ := h
  obtain ⟨u, rfl, ru⟩ := r.one
  cases (show u = Value.ref a from ru)
  obtain ⟨od, J, _⟩ := inst_at I ha
  obtain ⟨m, hF⟩ := I.fr
  refine W.repr_K (Room.in1 hr).units0 hF I.ok.mod.kin J hs hf (wpAny_mono (run_atO (us := [.ref a]) (ws := [.ref a]) F hb hr.in1 I.env0.in1 hx I (.cons rfl .nil) q) (fun v s' ⟨z, H', I', rz, ⟨t, ez⟩, qz⟩ => ?_) fun _ _ z => z)
  subst ez
  obtain ⟨t', rfl⟩ := (show ∃ t', v = Value.str t t' from rz)
  exact ⟨.str t, H', I', ⟨t', rfl⟩, qz⟩
theorem call_strO (hs : W.findIn X.K (.ref C) "__str__" = some (some (.ref f))) (hf : W.isFn X.K (.ref f) = true) (F : FnOk X.prog X.w X.K X.mg X.base CX k f fd ps sp) (hb : Binds X.K fd ps []) (hr : Room (k + 2) X.A) (hx : Passes CX X E) :
    CallR X (.type "str") (rOne C sp E fun z => ∃ t, z = .str t) := by
  intro pins s σ H xs us Q I r h
  obtain ⟨a, dx, fs, rfl, ha, q⟩ := h
  obtain ⟨u, rfl, ru⟩ := r.one
  cases (show u = Value.ref a from ru)
  obtain ⟨od, J, _⟩ := inst_at I ha
  have hr2 : Room k X.A.in1.in1 := (show Room (k + 1) X.A.in1 from Room.in1 hr).in1
  refine W.kso_call hr2.units0 I.kIn J hs hf (wpAny_mono (run_atO (us := [.ref a]) (ws := [.ref a]) F hb hr2 I.env0.in1.in1 hx I (.cons rfl .nil) q) (fun v s' ⟨z, H', I', rz, ⟨t, ez⟩, qz⟩ => ?_) fun _ _ z => z)
  subst ez
  obtain ⟨t', rfl⟩ := (show ∃ t', v = Value.str t t' from rz)
  exact ⟨.str t, H', I', ⟨t', rfl⟩, qz⟩
theorem call_boolO (hs : W.findIn X.K (.ref C) "__bool__" = some (some (.ref f))) (hf : W.isFn X.K (.ref f) = true) (F : FnOk X.prog X.w X.K X.mg X.base CX k f fd ps sp) (hb : Binds X.K fd ps []) (hr : Room (k + 2) X.A) (hx : Passes CX X E) :
    CallR X (.type "bool") (rOne C sp E fun z => ∃ t, z = .bl t) := by
  intro pins s σ H xs us Q I r h
  obtain ⟨a, dx, fs, rfl, ha, q⟩ := h
  obtain ⟨u, rfl, ru⟩ := r.one
  cases (show u = Value.ref a from ru)
  obtain ⟨od, J, _⟩ := inst_at I ha
  obtain ⟨m, hF⟩ := I.fr
  have hr2 : Room k X.A.in1.in1 := (show Room (k + 1) X.A.in1 from Room.in1 hr).in1
  refine bool_own (W.truthy_K hF I.ok.mod.kin J hs hf (wpAny_mono (run_atO (us := [.ref a]) (ws := [.ref a]) F hb hr2 I.env0.in1.in1 hx I (.cons rfl .nil) q) (fun v s' ⟨z, H', I', rz, ⟨t, ez⟩, qz⟩ => ?_) fun _ _ z => z))
  subst ez
  cases (show v = Value.bool t from rz)
  exact ⟨.bl t, H', I', rfl, qz⟩
/-- a // b, b not 0, of any sign -/
def CDivX (_ j : Int) : Prop := j ≠ 0 ∧ j.natAbs.log2 < 9000
theorem op_fdivX : OpR X (binaryOp .FloorDiv) (rI CDivX fun i j => .int (i.fdiv j)) := opI fun i j _ _ _ _ _ hc q => by
  exact floordiv_int hc.1 q (.inl (PyProof.noPylong_of_log2 hc.2))
/-- C.m(..), m a staticmethod: its record at p, its def at g -/
structure SMet (K : W.Frag) (C : Addr) (mc : Value) (m : Str) (p g : Addr) : Prop where
  at_ : W.findCls K (.ref C) mc m = some (.get (.builtin "staticmethod.__get__") (.ref p) .none (.ref C))
  ty : W.typeIn K (.ref C) = some mc
  rc : ∃ rest, W.recIn K p "staticmethod" = some (.ref g :: rest)
  kp : W.keepIn K (.ref g) = true
def tSMeth (C : Addr) (sp : Sp) (E : XK) (ta : TE) (t : TA) : TE := fun σ H Q => ta σ H fun x H1 => x = .ref C ∧ t σ H1 fun vs H2 => sp vs H2 Q E
theorem pe_smeth {o e : Expr} {es : List Expr} {m : Str} {pos apos : Pos} {ta : TE} {t : TA} {pl : Sem Bool} {p : Addr} {mc : Value} (he : PE X o ta) (r : ClX.CRead X.K C mc) (c : SMet X.K C mc m p f) (F : FnOk X.prog X.w X.K X.mg X.base CX k f fd ps sp) (hb : Binds X.K fd ps [])
    (hr : Room k X.A) (hx : Passes CX X E) (ha : PA X (e :: es) t)
    (hst : starEach (e :: es) X.env = (false, eval e X.env) :: starEach es X.env := by rfl) (hpl : (backTo pos (starEach es X.env)).any (·.1) = false := by rfl)
    (ht : eval (.Call (.Attribute o m apos) (e :: es) [] pos) X.env = (do
      let ov ← eval o X.env
      standAt apos.atName
      let (f, first) ← holding [ov] (getMethod ov m pl)
      callWith pos f first (backTo pos (starEach (e :: es) X.env)) (backToKw pos (keywordEach [] X.env))) := by rfl) :
    PE X (.Call (.Attribute o m apos) (e :: es) [] pos) (tSMeth C sp E ta t) := by
  refine ⟨fun pins s σ H Q I h => ?_⟩
  refine PySem.W.methodCall_KW (pl := pl) (thn (he.run pins s σ H _ I h) fun u s1 ⟨x, H1, I1, rx, ex, q⟩ => ?_) ht
  subst ex
  obtain rfl : u = Value.ref C := rx
  obtain ⟨rest, hp⟩ := c.rc
  obtain ⟨m1, hF⟩ := I1.fr
  refine PySem.W.method_cls I1.kIn r.ga (PySem.W.cls_sm hF I1.ok.mod.kin c.ty r.rd c.at_ hp rfl ?_)
  have I2 : Inv X pins σ H1 { s1 with toks := s1.toks + 1 } := I1.tok _
  refine PySem.W.callWith_K (first := []) (h₀ := X.base) I2.ok.mod.kin c.kp (thn (ha.run pos pins _ σ H1 _ I2 q) fun us s2 ⟨vs, H2, I3, rv, q2⟩ => ⟨I3.kIn, ?_⟩) hst hpl
  exact run_fn F hr hb .nil hx I3 rv (by simpa using q2)
end
end Oo

set_option Elab.async false
set_option linter.all false
set_option maxRecDepth 100000
set_option maxHeartbeats 1000000
/-! Amounts: instances that hold a rational number in lowest terms. -/
namespace Am
open PySem PySem.Spec PyProof.Rows L2 Oo
/-- all that stands, stands on -/
def Ext (H H' : Hp) : Prop := ∀ b o, H b = some o → H' b = some o
theorem Ext.refl (H : Hp) : Ext H H := fun _ _ h => h
theorem Ext.trans {H H1 H2 : Hp} (a : Ext H H1) (b : Ext H1 H2) : Ext H H2 := fun c o h => b c o (a c o h)
theorem Ext.new {H : Hp} {a : Addr} {o : HO} (n : H a = none) : Ext H (upd H a o) := fun b u e => by rw [upd_ne (ne_of_none e n)]; exact e
theorem Ext.then {H H' : Hp} {a : Addr} {o : HO} (x : Ext H H') (n : H' a = none) : Ext H (upd H' a o) := x.trans (Ext.new n)
theorem Ext.seq {K : W.Frag} {H H' : Hp} {p : Addr} {xs : List V} (e : Ext H H') (h : SqL K H p xs) : SqL K H' p xs := by
  rcases h with (h | ⟨o, h⟩) | h
  · exact .inl (.inl (e _ _ h))
  · exact .inl (.inr ⟨o, e _ _ h⟩)
  · exact .inr h
theorem Ext.gone {H H' : Hp} {p : Addr} (e : Ext H H') (h : H' p = none) : H p = none := by
  cases z : H p with
  | none => rfl
  | some o => rw [e p o z] at h; cases h
def flds (q : Rat) : List (Str × V) := [("_top", .int q.num), ("_bottom", .int q.den)]
theorem ntb : ("_bottom" : Str) ≠ "_top" := by decide +kernel
theorem lk_top (q : Rat) : (flds q).lookup ("_top" : Str) = some (.int q.num) := by
  show List.lookup ("_top" : Str) (("_top", V.int q.num) :: _) = _
  rw [List.lookup_cons_self]
theorem lk_bot (q : Rat) : (flds q).lookup ("_bottom" : Str) = some (.int q.den) := by
  show List.lookup ("_bottom" : Str) [("_top", V.int q.num), ("_bottom", V.int q.den)] = _
  rw [List.lookup_cons, beq_eq_false_iff_ne.mpr ntb, List.lookup_cons_self]
theorem flds_of (n d : Int) (q : Rat) (hn : n = q.num) (hd : d = q.den) : putF "_bottom" (.int d) (putF "_top" (.int n) []) = flds q := by
  subst hn hd
  show (if ("_top" : Str) = "_bottom" then _ else (("_top" : Str), V.int q.num) :: [(("_bottom" : Str), V.int q.den)]) = _
  rw [if_neg (Ne.symm ntb)]
  rfl
/-- an Amount of the class at C stands at a: the number q -/
def Is (C : Addr) (H : Hp) (a : Addr) (q : Rat) : Prop := ∃ dx, H a = some (.ins C dx (flds q))
theorem Is.ext {C a : Addr} {H H' : Hp} {q : Rat} (h : Is C H a q) (e : Ext H H') : Is C H' a q := let ⟨dx, z⟩ := h; ⟨dx, e _ _ z⟩
theorem Is.ins {C a : Addr} {H : Hp} {q : Rat} (h : Is C H a q) : ∃ dx fs, H a = some (.ins C dx fs) := let ⟨dx, z⟩ := h; ⟨dx, _, z⟩
/-- v is a NUMBER: q -/
def Num (C : Addr) (H : Hp) (v : V) (q : Rat) : Prop := (∃ i : Int, v = .int i ∧ q = (i : Rat)) ∨ ∃ a, v = .ref a ∧ Is C H a q
theorem Num.ext {C : Addr} {H H' : Hp} {v : V} {q : Rat} (h : Num C H v q) (e : Ext H H') : Num C H' v q := h.imp (fun z => z) fun ⟨a, z, i⟩ => ⟨a, z, i.ext e⟩
theorem Num.is {C a : Addr} {H : Hp} {q : Rat} (h : Is C H a q) : Num C H (.ref a) q := .inr ⟨a, rfl, h⟩
theorem Num.int {C : Addr} {H : Hp} (i : Int) : Num C H (.int i) (i : Rat) := .inl ⟨i, rfl, rfl⟩
/-- no larger than the machine takes -/
def Sz (q : Rat) : Prop := q.num.natAbs < 2 ^ 4000 ∧ q.den < 2 ^ 4000
/-- a new Amount -/
def New (C : Addr) (H : Hp) (Q : VK) (q : Rat) : Prop := ∀ (r : Addr) (H' : Hp), Ext H H' → H r = none → Is C H' r q → Q (.ref r) H'
/-- what the text says of the class -/
structure Cl (K : W.Frag) (C : Addr) : Prop where
  cl : Cls K C
  nT : NoAttr K C "_top"
  nB : NoAttr K C "_bottom"
/-! ### promises -/
def spGet (C : Addr) (g : Rat → V) : Sp := fun vs H Q _ => ∃ a q, vs = [.ref a] ∧ Is C H a q ∧ Q (g q) H
def spInit (C : Addr) : Sp := fun vs H Q _ => ∃ (x dx : Addr) (n d : Int), vs = [.ref x, .int n, .int d] ∧ H x = some (.ins C dx []) ∧ d ≠ 0 ∧ n.natAbs < 2 ^ 8999 ∧ d.natAbs < 2 ^ 8999 ∧
  Q .non (upd H x (.ins C dx (flds (Rat.divInt n d))))
def spOf (C : Addr) : Sp := fun vs H Q _ => ∃ v q, vs = [v] ∧ Num C H v q ∧ Sz q ∧ ∀ (r : Addr) (H' : Hp), Ext H H' → Is C H' r q → Q (.ref r) H'
def spOp (C : Addr) (f : Rat → Rat → Rat) : Sp := fun vs H Q _ => ∃ a y q p, vs = [.ref a, y] ∧ Is C H a q ∧ Num C H y p ∧ Sz q ∧ Sz p ∧ New C H Q (f q p)
def spUn (C : Addr) (f : Rat → Rat) : Sp := fun vs H Q _ => ∃ a q, vs = [.ref a] ∧ Is C H a q ∧ Sz q ∧ New C H Q (f q)
/-- .. of a divisor: 0 is refused by the error of the class at Z, which tells None -/
def Zero (Z : Addr) (H : Hp) (E : XK) : Prop := ∀ e d : Addr, H e = none → H d = none → d ≠ e → E (.ref Z) (some d) (Gx.leftH H Z e d [("rule", .non)])
/-! ### rules -/
def tGet (C : Addr) (g : Rat → V) (ta : TE) : TE := fun σ H Q => ta σ H fun x H1 => ∃ a q, x = .ref a ∧ Is C H1 a q ∧ Q (g q) H1
section
variable {X : Cx} {CX : CXT} {C : Addr} {e : Expr} {pos : Pos} {ta : TE} {k : Nat} {sp : Sp} {E : XK}
theorem pe_top (T : Cl X.K C) (he : PE X e ta) (hb : attributeBase e "_top" X.env (eval e X.env) = eval e X.env := by rfl) : PE X (.Attribute e "_top" pos) (tGet C (fun q => .int q.num) ta) := by
  refine ⟨fun pins s σ H Q I h => ?_⟩
  refine attr_of hb (thn (he.run pins s σ H _ I h) fun u s1 ⟨x, H1, I1, rx, a, q, ex, ⟨dx, ea⟩, z⟩ => ?_)
  subst ex
  obtain rfl : u = Value.ref a := rx
  exact getattr_ok I1 ea T.cl T.nT (lk_top q) fun u' s2 I2 ru => ⟨_, H1, I2, ru, z⟩
theorem pe_bot (T : Cl X.K C) (he : PE X e ta) (hb : attributeBase e "_bottom" X.env (eval e X.env) = eval e X.env := by rfl) : PE X (.Attribute e "_bottom" pos) (tGet C (fun q => .int q.den) ta) := by
  refine ⟨fun pins s σ H Q I h => ?_⟩
  refine attr_of hb (thn (he.run pins s σ H _ I h) fun u s1 ⟨x, H1, I1, rx, a, q, ex, ⟨dx, ea⟩, z⟩ => ?_)
  subst ex
  obtain rfl : u = Value.ref a := rx
  exact getattr_ok I1 ea T.cl T.nB (lk_bot q) fun u' s2 I2 ru => ⟨_, H1, I2, ru, z⟩
theorem pe_pr {f : Str} {p g : Addr} {gv : Rat → V} {fd : FuncData} {ps : List Str} (T : Cl X.K C) (hp : PropOf X.K C f p g) (F : FnOk X.prog X.w X.K X.mg X.base CX0 k g fd ps (spGet C gv)) (hb2 : Binds X.K fd ps []) (hr : Room (k + 1) X.A) (he : PE X e ta)
    (hb : attributeBase e f X.env (eval e X.env) = eval e X.env := by rfl) : PE X (.Attribute e f pos) (tGet C gv ta) := by
  refine ⟨fun pins s σ H Q I h => ?_⟩
  refine attr_of hb (thn (he.run pins s σ H _ I h) fun u s1 ⟨x, H1, I1, rx, a, q, ex, ia, z⟩ => ?_)
  subst ex
  obtain rfl : u = Value.ref a := rx
  obtain ⟨dx, ea⟩ := id ia
  exact getprop_ok (E := E0) I1 ea T.cl hp F hr hb2 .nil pass0 ⟨a, q, rfl, ia, z⟩
end
/-! ### arithmetic -/
theorem bits {n : Nat} {i : Int} (h : i.natAbs < 2 ^ n) (hn : n ≤ 8999) : i.natAbs.log2 < 9000 := by
  by_cases z : i.natAbs = 0
  · rw [z]; decide
  · exact Nat.lt_of_lt_of_le ((Nat.log2_lt z).mpr h) (by omega)
theorem mul_bits {n m : Nat} {i j : Int} (hi : i.natAbs < 2 ^ n) (hj : j.natAbs < 2 ^ m) : (i * j).natAbs < 2 ^ (n + m) := wide_lt hi hj
theorem mulOk {n m : Nat} {i j : Int} (hi : i.natAbs < 2 ^ n) (hj : j.natAbs < 2 ^ m) (hn : n ≤ 8999) (hm : m ≤ 8999) : CMulW i j := by
  have a := bits hi hn
  have b := bits hj hm
  show i.natAbs.log2 + j.natAbs.log2 < 1000000
  omega
theorem add_bits {n : Nat} {i j : Int} (hi : i.natAbs < 2 ^ n) (hj : j.natAbs < 2 ^ n) : (i + j).natAbs < 2 ^ (n + 1) := by
  have h2 : (2 : Nat) ^ (n + 1) = 2 ^ n + 2 ^ n := by rw [Nat.pow_succ]; omega
  rw [h2]
  omega
theorem more_bits {n m : Nat} {i : Int} (hi : i.natAbs < 2 ^ n) (h : n ≤ m) : i.natAbs < 2 ^ m := Nat.lt_of_lt_of_le hi (Nat.pow_le_pow_right (by decide) h)
/-- what the class's two divisions give -/
theorem low_num (n d : Int) (h : d ≠ 0) : n.fdiv (if d < 0 then -((n.natAbs.gcd d.natAbs : Nat) : Int) else ((n.natAbs.gcd d.natAbs : Nat) : Int)) = (Rat.divInt n d).num := by
  rw [Rat.num_divInt]
  have e : d.gcd n = n.natAbs.gcd d.natAbs := by
    show d.natAbs.gcd n.natAbs = _
    exact Nat.gcd_comm _ _
  have dv : ((n.natAbs.gcd d.natAbs : Nat) : Int) ∣ n := Int.ofNat_dvd_left.mpr (Nat.gcd_dvd_left _ _)
  have g0 : ((n.natAbs.gcd d.natAbs : Nat) : Int) ≠ 0 := by
    have : 0 < n.natAbs.gcd d.natAbs := Nat.gcd_pos_of_pos_right _ (by omega)
    omega
  rw [e]
  generalize ((n.natAbs.gcd d.natAbs : Nat) : Int) = g at dv g0 ⊢
  obtain ⟨k, rfl⟩ := dv
  by_cases hd : d < 0
  · rw [if_pos hd, Int.sign_eq_neg_one_of_neg hd]
    have e1 : g * k = (-g) * (-k) := by rw [Int.neg_mul_neg]
    have e2 : -1 * (g * k) = g * (-k) := by rw [Int.neg_one_mul, Int.mul_neg]
    rw [e2, Int.mul_ediv_cancel_left _ g0, e1, Int.mul_fdiv_cancel_left _ (by omega)]
  · rw [if_neg hd, Int.sign_eq_one_of_pos (by omega), Int.one_mul, Int.mul_ediv_cancel_left _ g0, Int.mul_fdiv_cancel_left _ g0]
theorem low_den (n d : Int) (h : d ≠ 0) : d.fdiv (if d < 0 then -((n.natAbs.gcd d.natAbs : Nat) : Int) else ((n.natAbs.gcd d.natAbs : Nat) : Int)) = ((Rat.divInt n d).den : Int) := by
  rw [Rat.den_divInt, if_neg h]
  have e : d.gcd n = n.natAbs.gcd d.natAbs := by
    show d.natAbs.gcd n.natAbs = _
    exact Nat.gcd_comm _ _
  have g0 : 0 < n.natAbs.gcd d.natAbs := Nat.gcd_pos_of_pos_right _ (by omega)
  obtain ⟨k, hk⟩ : n.natAbs.gcd d.natAbs ∣ d.natAbs := Nat.gcd_dvd_right _ _
  rw [e]
  have key : ∀ g k : Nat, 0 < g → d.natAbs = g * k → d.fdiv (if d < 0 then -(g : Int) else (g : Int)) = ((d.natAbs / g : Nat) : Int) := by
    intro g k g0 hk
    rw [hk, Nat.mul_div_cancel_left _ g0]
    have gz : (g : Int) ≠ 0 := by omega
    have this : ((d.natAbs : Nat) : Int) = ((g * k : Nat) : Int) := by rw [hk]
    rw [Int.natCast_mul] at this
    by_cases hd : d < 0
    · rw [if_pos hd]
      have ed : d = (-(g : Int)) * (k : Int) := by
        rw [Int.neg_mul]
        omega
      rw [ed, Int.mul_fdiv_cancel_left _ (by omega)]
    · rw [if_neg hd]
      have ed : d = (g : Int) * (k : Int) := by omega
      rw [ed, Int.mul_fdiv_cancel_left _ gz]
  exact key _ k g0 hk
theorem add_rat (q p : Rat) : Rat.divInt (q.num * (p.den : Int) + p.num * (q.den : Int)) ((q.den : Int) * (p.den : Int)) = q + p := by
  conv => rhs; rw [← Rat.num_divInt_den q, ← Rat.num_divInt_den p]
  rw [Rat.divInt_add_divInt _ _ (by have := q.den_pos; omega) (by have := p.den_pos; omega)]
theorem mul_rat (q p : Rat) : Rat.divInt (q.num * p.num) ((q.den : Int) * (p.den : Int)) = q * p := by
  conv => rhs; rw [← Rat.num_divInt_den q, ← Rat.num_divInt_den p]
  rw [Rat.divInt_mul_divInt]
theorem neg_rat (q : Rat) : Rat.divInt (-q.num) (q.den : Int) = -q := by
  conv => rhs; rw [← Rat.num_divInt_den q]
  rw [Rat.neg_divInt]
theorem div_rat (q p : Rat) : Rat.divInt (q.num * (p.den : Int)) ((q.den : Int) * p.num) = q / p := by
  rw [Rat.div_def, Rat.inv_def]
  conv => rhs; rw [← Rat.num_divInt_den q]
  rw [Rat.divInt_mul_divInt]
theorem int_rat (i : Int) : Rat.divInt i 1 = (i : Rat) := by
  rw [show (1 : Int) = ((1 : Nat) : Int) from rfl, Rat.divInt_ofNat]
  exact Rat.ext (by simp [Rat.num_mkRat]) (by simp [Rat.den_mkRat])

/-! ### the class's own call -/
/-- what a body asks of the class's making -/
structure Base (P : Program) (w : World) (K : W.Frag) (mg : Str → Option Value) (base : Heap) (C : Addr) : Prop where
  T : Cl K C
  mgA : mg "Amount" = some (.ref C)
  make : ∃ fI fd, Mk K C fI ∧ FnOk P w K mg base CX0 2 fI fd ["self", "top", "bottom"] (spInit C) ∧ Binds K fd ["self", "top", "bottom"] [] ∧ ∃ ds, Vals [V.int 1] ds ∧ Binds K fd ["self", "top", "bottom"] ds
  top : ∃ p g fd, PropOf K C "top" p g ∧ FnOk P w K mg base CX0 1 g fd ["self"] (spGet C fun q => .int q.num) ∧ Binds K fd ["self"] []
  bot : ∃ p g fd, PropOf K C "bottom" p g ∧ FnOk P w K mg base CX0 1 g fd ["self"] (spGet C fun q => .int q.den) ∧ Binds K fd ["self"] []
  sgn : ∃ p g fd, PropOf K C "sign" p g ∧ FnOk P w K mg base CX0 1 g fd ["self"] (spGet C fun q => .int q.num.sign) ∧ Binds K fd ["self"] []
structure Of (P : Program) (w : World) (K : W.Frag) (mg : Str → Option Value) (base : Heap) (C : Addr) : Prop where
  of : ∃ mc p g fd, ClX.CRead K C mc ∧ SMet K C mc "of" p g ∧ FnOk P w K mg base CX0 4 g fd ["number"] (spOf C) ∧ Binds K fd ["number"] []
def tMk2 (C : Addr) (t : TA) : TE := fun σ H Q => t σ H fun vs H1 => ∃ n d : Int, vs = [.int n, .int d] ∧ d ≠ 0 ∧ n.natAbs < 2 ^ 8999 ∧ d.natAbs < 2 ^ 8999 ∧ New C H1 Q (Rat.divInt n d)
def tMk1 (C : Addr) (t : TA) : TE := fun σ H Q => t σ H fun vs H1 => ∃ n : Int, vs = [.int n] ∧ n.natAbs < 2 ^ 8999 ∧ New C H1 Q (n : Rat)
def tOf (C : Addr) (ta : TE) (t : TA) : TE := tSMeth C (spOf C) E0 ta t
section
variable {X : Cx} {C : Addr} {p pos apos : Pos} {e e2 o : Expr} {es : List Expr} {t : TA} {ta : TE} {k : Nat}
theorem new_made {H : Hp} {Q : VK} {q : Rat} {n d : Int} (hd : d ≠ 0) (hq : q = Rat.divInt n d) (h1 : n.natAbs < 2 ^ 8999) (h2 : d.natAbs < 2 ^ 8999) (h : New C H Q q) :
    ∀ x dx, H x = none → H dx = none → dx ≠ x → spInit C (V.ref x :: ([V.int n, V.int d])) (upd (upd H dx (.own x)) x (.ins C dx [])) (fun v H2 => v = .non ∧ Q (.ref x) H2) E0 := by
  intro x dx hx hdx ne
  refine ⟨x, dx, n, d, rfl, upd_same, hd, h1, h2, rfl, h x _ ?_ hx ⟨dx, ?_⟩⟩
  · intro b u e
    have nx := ne_of_none e hx
    rw [upd_ne nx, upd_ne nx, upd_ne (ne_of_none e hdx)]
    exact e
  · rw [upd_same, hq]
theorem pe_mk2 (B : Base X.prog X.w X.K X.mg X.base C) (hr : Room 3 X.A) (hg : Gl X "Amount") (ha : PA X (e :: es) t) (he : starEach (e :: es) X.env = (false, eval e X.env) :: starEach es X.env := by rfl) (hpl : (backTo pos (starEach es X.env)).any (·.1) = false := by rfl) :
    PE X (.Call (.Name "Amount" p) (e :: es) [] pos) (tMk2 C t) := by
  obtain ⟨fI, fd, M, F, b2, _⟩ := B.make
  refine ⟨fun pins s σ H Q I h => ?_⟩
  refine wpAny_Call_Name_kw (ld_glob I hg B.mgA ?_ (by decide))
  refine PySem.W.callWith_K (h₀ := X.base) I.ok.mod.kin M.kp (thn (ha.run pos pins s σ H _ I h) fun us s1 ⟨vs, H1, I1, r, n, d, ev, hd, h1, h2, q⟩ => ⟨I1.kIn, ?_⟩) he hpl
  subst ev
  exact run_make (E := E0) M F hr b2 .nil pass0 I1 r (by simpa using new_made hd rfl h1 h2 q)
theorem pe_mk1 (B : Base X.prog X.w X.K X.mg X.base C) (hr : Room 3 X.A) (hg : Gl X "Amount") (ha : PA X (e :: es) t) (he : starEach (e :: es) X.env = (false, eval e X.env) :: starEach es X.env := by rfl) (hpl : (backTo pos (starEach es X.env)).any (·.1) = false := by rfl) :
    PE X (.Call (.Name "Amount" p) (e :: es) [] pos) (tMk1 C t) := by
  obtain ⟨fI, fd, M, F, _, ds, hv, b1⟩ := B.make
  refine ⟨fun pins s σ H Q I h => ?_⟩
  refine wpAny_Call_Name_kw (ld_glob I hg B.mgA ?_ (by decide))
  refine PySem.W.callWith_K (h₀ := X.base) I.ok.mod.kin M.kp (thn (ha.run pos pins s σ H _ I h) fun us s1 ⟨vs, H1, I1, r, n, ev, h1, q⟩ => ⟨I1.kIn, ?_⟩) he hpl
  subst ev
  exact run_make (E := E0) M F hr b1 hv pass0 I1 r (by simpa using new_made (d := 1) (by decide) (int_rat n).symm h1 (by decide) q)
theorem pe_of (O : Of X.prog X.w X.K X.mg X.base C) (hr : Room 4 X.A) (ho : PE X o ta) (ha : PA X [e] t) {pl : Sem Bool}
    (hst : starEach [e] X.env = (false, eval e X.env) :: starEach [] X.env := by rfl) (hpl : (backTo pos (starEach [] X.env)).any (·.1) = false := by rfl)
    (ht : eval (.Call (.Attribute o "of" apos) [e] [] pos) X.env = (do
      let ov ← eval o X.env
      standAt apos.atName
      let (f, first) ← holding [ov] (getMethod ov "of" pl)
      callWith pos f first (backTo pos (starEach [e] X.env)) (backToKw pos (keywordEach [] X.env))) := by rfl) : PE X (.Call (.Attribute o "of" apos) [e] [] pos) (tOf C ta t) := by
  obtain ⟨mc, p, g, fd, R, S, F, b⟩ := O.of
  exact pe_smeth (pl := pl) ho R S F b hr pass0 ha hst hpl ht
theorem pe_pTop (B : Base X.prog X.w X.K X.mg X.base C) (hr : Room 2 X.A) (he : PE X e ta) (hb : attributeBase e "top" X.env (eval e X.env) = eval e X.env := by rfl) : PE X (.Attribute e "top" pos) (tGet C (fun q => .int q.num) ta) := by
  obtain ⟨p, g, fd, hp, F, b⟩ := B.top
  exact pe_pr B.T hp F b hr he hb
theorem pe_pBot (B : Base X.prog X.w X.K X.mg X.base C) (hr : Room 2 X.A) (he : PE X e ta) (hb : attributeBase e "bottom" X.env (eval e X.env) = eval e X.env := by rfl) : PE X (.Attribute e "bottom" pos) (tGet C (fun q => .int q.den) ta) := by
  obtain ⟨p, g, fd, hp, F, b⟩ := B.bot
  exact pe_pr B.T hp F b hr he hb
theorem pe_pSgn (B : Base X.prog X.w X.K X.mg X.base C) (hr : Room 2 X.A) (he : PE X e ta) (hb : attributeBase e "sign" X.env (eval e X.env) = eval e X.env := by rfl) : PE X (.Attribute e "sign" pos) (tGet C (fun q => .int q.num.sign) ta) := by
  obtain ⟨p, g, fd, hp, F, b⟩ := B.sgn
  exact pe_pr B.T hp F b hr he hb
end
/-! ### operators by values -/
/-- x op y, x an Amount, y a NUMBER -/
def rL (C : Addr) (f : Rat → Rat → Rat) : R2 := fun x y H Q => ∃ a q p, x = .ref a ∧ Is C H a q ∧ Num C H y p ∧ Sz q ∧ Sz p ∧ New C H Q (f q p)
/-- x op y, both NUMBERS, one an Amount -/
def rN (C : Addr) (f : Rat → Rat → Rat) : R2 := fun x y H Q => ∃ q p, Num C H x q ∧ Num C H y p ∧ ((∃ a, x = .ref a) ∨ ∃ a, y = .ref a) ∧ Sz q ∧ Sz p ∧ New C H Q (f q p)
section
variable {X : Cx} {C f g : Addr} {k : Nat} {op : Operator} {fd gd : FuncData} {ps qs : List Str} {h : Rat → Rat → Rat}
theorem op_L {go : Option Addr} (B : OwnBin X.K C op.info.2 f go) (F : FnOk X.prog X.w X.K X.mg X.base CX0 k f fd ps (spOp C h)) (hb : Binds X.K fd ps []) (hr : Room k X.A) : OpR X (binaryOp op) (rL C h) := fun pins s σ H x y v u Q I rx ry hh => by
  obtain ⟨a, q, p, rfl, ia, ny, sq, sp, nw⟩ := hh
  obtain ⟨dx, ea⟩ := id ia
  have prom : spOp C h [V.ref a, y] H Q E0 := ⟨a, y, q, p, rfl, ia, ny, sq, sp, nw⟩
  have one : rBin C (spOp C h) (fun _ _ _ _ => False) E0 (.ref a) y H Q := by
    rcases id ny with ⟨i, rfl, _⟩ | ⟨b, rfl, dy, eb⟩
    · exact .inr (.inl ⟨a, dx, _, i, rfl, rfl, ea, prom⟩)
    · exact .inl ⟨a, dx, _, b, dy, _, rfl, rfl, ea, eb, prom⟩
  exact op_left B F hb pass0 hr pins s σ H _ _ v u Q I rx ry one
theorem conv_bin {H : Hp} {x y : V} {Q : VK} {sp sq : Sp} {E : XK} (hsp : ∀ a y q p, Is C H a q → Num C H y p → Sz q → Sz p → New C H Q (h q p) → sp [V.ref a, y] H Q E) (hsq : ∀ a y q p, Is C H a q → Num C H y p → Sz q → Sz p → New C H Q (h p q) → sq [V.ref a, y] H Q E)
    (hh : rN C h x y H Q) : rBin C sp sq E x y H Q := by
  obtain ⟨q, p, nx, ny, one, sq', sp', nw⟩ := hh
  rcases id nx with ⟨i, rfl, _⟩ | ⟨a, rfl, ia⟩
  · rcases id ny with ⟨j, rfl, _⟩ | ⟨b, rfl, ib⟩
    · rcases one with ⟨_, z⟩ | ⟨_, z⟩ <;> cases z
    · obtain ⟨dy, eb⟩ := id ib
      exact .inr (.inr ⟨b, dy, _, i, rfl, rfl, eb, hsq b _ p q ib nx sp' sq' nw⟩)
  · obtain ⟨dx, ea⟩ := id ia
    have z := hsp a y q p ia ny sq' sp' nw
    rcases id ny with ⟨j, rfl, _⟩ | ⟨b, rfl, dy, eb⟩
    · exact .inr (.inl ⟨a, dx, _, j, rfl, rfl, ea, z⟩)
    · exact .inl ⟨a, dx, _, b, dy, _, rfl, rfl, ea, eb, z⟩
theorem op_N (h5 : Five op) (B : OwnBin X.K C op.info.2 f (some g)) (F : FnOk X.prog X.w X.K X.mg X.base CX0 k f fd ps (spOp C h)) (hb : Binds X.K fd ps []) (G : FnOk X.prog X.w X.K X.mg X.base CX0 k g gd qs (spOp C fun q p => h p q)) (hb2 : Binds X.K gd qs []) (hr : Room k X.A) :
    OpR X (binaryOp op) (rN C h) := fun pins s σ H x y v u Q I rx ry hh =>
  op_bin (E := E0) h5 B F hb G hb2 pass0 hr pins s σ H x y v u Q I rx ry (conv_bin (fun a y q p i n z z' w => ⟨a, y, q, p, rfl, i, n, z, z', w⟩) (fun a y q p i n z z' w => ⟨a, y, q, p, rfl, i, n, z, z', w⟩) hh)
theorem iop_N (h5 : Five op) (B : OwnBin X.K C op.info.2 f (some g)) (N : NoIn X.K C op.info.2) (F : FnOk X.prog X.w X.K X.mg X.base CX0 k f fd ps (spOp C h)) (hb : Binds X.K fd ps []) (G : FnOk X.prog X.w X.K X.mg X.base CX0 k g gd qs (spOp C fun q p => h p q)) (hb2 : Binds X.K gd qs []) (hr : Room k X.A) :
    OpR X (inplaceOp op) (rN C h) := fun pins s σ H x y v u Q I rx ry hh =>
  iop_bin (E := E0) h5 B N F hb G hb2 pass0 hr pins s σ H x y v u Q I rx ry (conv_bin (fun a y q p i n z z' w => ⟨a, y, q, p, rfl, i, n, z, z', w⟩) (fun a y q p i n z z' w => ⟨a, y, q, p, rfl, i, n, z, z', w⟩) hh)
end
end Am

set_option Elab.async false
set_option linter.all false
set_option maxRecDepth 100000
set_option maxHeartbeats 1000000
/-! The methods of Amount. -/
namespace KA
open PySem PySem.Spec PyProof.Rows L2 Oo Gd Am
section
variable {P : Program} {w : World} {K : W.Frag} {mg : Str → Option Value} {base : Heap} {C f : Addr} {fd : FuncData}
/-! ### is_whole -/
def spWhole : Sp := fun vs H Q _ => ∃ i : Int, vs = [.int i] ∧ Q (.bl true) H
theorem scWhole : FnScope ["value"] ["value"] (defScope (top 18)) := ⟨rfl, rfl, rfl, by decide +kernel, rfl, by decide +kernel, by decide +kernel⟩
theorem ok_whole (fr : Frees mg) (F : Fun K "is_whole" "is_whole" (top 18) f fd) : FnOk P w K mg base CX0 1 f fd ["value"] spWhole := by
  refine F.ok scWhole (fun vs H Q E h => ?_) (fun cdv A outer s H vs Q E hr h => ?_)
  · obtain ⟨i, rfl, _⟩ := h
    rfl
  · obtain ⟨i, rfl, q⟩ := h
    refine ⟨_, pss_one (ps_ret (pe_and (pe_callB call_isi rfl (fr.h _ (by decide +kernel)) (by decide +kernel) (pa_cons (pv 0) (pa_cons (pe_bltn (v := V.ty "int") rfl (fr.h _ (by decide +kernel)) (by rfl) rfl) pa_nil)))
      (pe_one (pe_not (pe_callB call_isi rfl (fr.h _ (by decide +kernel)) (by decide +kernel) (pa_cons (pv 0) (pa_cons (pe_bltn (v := V.ty "bool") rfl (fr.h _ (by decide +kernel)) (by rfl) rfl) pa_nil))))))), ?_⟩
    refine ⟨_, rfl, _, _, _, _, true, rfl, ClsV.ty "int", TyX.base (TyOf.int i), kit_ty (by decide +kernel), true, rfl, ?_⟩
    refine ⟨_, rfl, _, _, _, _, false, rfl, ClsV.ty "bool", TyX.base (TyOf.int i), kit_ty (by decide +kernel), false, rfl, q⟩
/-! ### __init__ -/
theorem scInit : FnScope ["self", "top", "bottom", "shared"] ["self", "top", "bottom"] (defScope (am 0)) := ⟨rfl, rfl, rfl, by decide +kernel, rfl, by decide +kernel, by decide +kernel⟩
abbrev FunI (K : W.Frag) (f : Addr) (fd : FuncData) : Prop := FunD K "__init__" "Amount.__init__" (defArgs (am 0)) (defBody (am 0)) (defScope (am 0)) [V.int 1] [] f fd
theorem ok_init (T : Cl K C) (DW : Dn P w K mg base CX0 1 "is_whole" ["value"] spWhole) (mgG : mg "gcd" = some (.builtin "math.gcd")) (F : FunI K f fd) :
    FnOk P w K mg base CX0 2 f fd ["self", "top", "bottom"] (spInit C) := by
  refine F.ok scInit (fun vs H Q E h => ?_) (fun cdv A outer s H vs Q E hr h => ?_)
  · obtain ⟨x, dx, n, d, rfl, _⟩ := h
    rfl
  · obtain ⟨x, dx, n, d, rfl, hx, d0, hn, hd, q⟩ := h
    have nd := scInit.nd
    refine ⟨_, PSs.nox (pss_cons (ps_if (pt_not (pt_val (pe_dn DW hr (by rfl) (by decide) (pa_cons (pv 1) pa_nil)))) (pss_one ps_never) pss_nil)
      (pss_cons (ps_if (PW.pt (pw_or (pt_not (pt_val (pe_dn DW hr (by rfl) (by decide) (pa_cons (pv 2) pa_nil)))) (pw_or1 (pt_cmpR op_eq (pv 2) pe_int (nomark _))))) (pss_one ps_never) pss_nil)
      (pss_cons (ps_set (i := 3) nd rfl (.inl rfl) (pe_callBfun cr_gcd rfl mgG (pa_cons (pv 1) (pa_cons (pv 2) pa_nil))))
      (C8.pss_cut (ps_if (pt_cmpR op_lt (pv 2) pe_int (nomark _)) (pss_one (ps_set (i := 3) nd rfl (.inl rfl) (pe_un un_neg (pv 3)))) pss_nil)
      (pss_cons (ps_fld (pv 0) (pe_op op_fdivX (pv 1) (pv 3)) rfl)
      (pss_one (ps_fld (pv 0) (pe_op op_fdivX (pv 2) (pv 3)) rfl))))))), ?_⟩
    refine ⟨_, rfl, n, rfl, _, rfl, iteF ?_⟩
    refine ⟨_, rfl, d, rfl, _, rfl, iteF ⟨_, rfl, rfl, _, rfl, ?_⟩⟩
    refine ite2 (fun h => absurd h (by simpa using d0)) (fun _ => ?_)
    refine ⟨_, rfl, _, rfl, n, d, rfl, ?_⟩
    refine ⟨fun σ H' => H' = H ∧ σ = (L2.start ["self", "top", "bottom", "shared"] [V.ref x, V.int n, V.int d]).set 3 (some (.int (if d < 0 then -((n.natAbs.gcd d.natAbs : Nat) : Int) else ((n.natAbs.gcd d.natAbs : Nat) : Int)))), ?_, ?_⟩
    · refine ⟨_, rfl, _, _, rfl, rfl, _, rfl, ite2 (fun h => ?_) (fun h => ?_)⟩
      · have h' : d < 0 := by simpa using h
        refine ⟨_, rfl, _, rfl, rfl, ?_⟩
        rw [if_pos h']
        rfl
      · have h' : ¬ d < 0 := by simpa using h
        refine ⟨rfl, ?_⟩
        rw [if_neg h']
    · rintro σ H' ⟨rfl, rfl⟩
      have gl : ∀ {g : Int}, g = (if d < 0 then -((n.natAbs.gcd d.natAbs : Nat) : Int) else ((n.natAbs.gcd d.natAbs : Nat) : Int)) → g ≠ 0 ∧ g.natAbs.log2 < 9000 := by
        intro g hg
        have g1 : n.natAbs.gcd d.natAbs ≤ d.natAbs := Nat.gcd_le_right _ (by omega)
        have g0 : 0 < n.natAbs.gcd d.natAbs := Nat.gcd_pos_of_pos_right _ (by omega)
        have e : g.natAbs = n.natAbs.gcd d.natAbs := by
          rw [hg]
          split <;> omega
        refine ⟨by omega, bits (n := 8999) (by omega) (by omega)⟩
      obtain ⟨z0, zl⟩ := gl rfl
      have e1 := low_num n d d0
      have e2 := low_den n d d0
      generalize (if d < 0 then -((n.natAbs.gcd d.natAbs : Nat) : Int) else ((n.natAbs.gcd d.natAbs : Nat) : Int)) = g at z0 zl e1 e2 ⊢
      refine ⟨_, rfl, _, rfl, n, g, rfl, rfl, ⟨z0, zl⟩, _, rfl, x, C, dx, [], rfl, hx, T.cl, T.nT, (by decide), ?_⟩
      refine ⟨_, rfl, _, rfl, d, g, rfl, rfl, ⟨z0, zl⟩, _, rfl, x, C, dx, _, rfl, upd_same, T.cl, T.nB, (by show 1 < 1000; decide), ?_⟩
      show Q .non (upd (upd H' x _) x (HO.ins C dx (putF "_bottom" (V.int (d.fdiv g)) (putF "_top" (V.int (n.fdiv g)) []))))
      rw [upd_upd, e1, e2, flds_of _ _ (Rat.divInt n d) rfl rfl]
      exact q
/-! ### properties -/
theorem sc1 (j : Nat) (h : FnScope ["self"] ["self"] (defScope (am j))) : FnScope ["self"] ["self"] (defScope (am j)) := h
theorem scTop : FnScope ["self"] ["self"] (defScope (am 3)) := ⟨rfl, rfl, rfl, by decide +kernel, rfl, by decide +kernel, by decide +kernel⟩
theorem scBot : FnScope ["self"] ["self"] (defScope (am 4)) := ⟨rfl, rfl, rfl, by decide +kernel, rfl, by decide +kernel, by decide +kernel⟩
theorem scSgn : FnScope ["self"] ["self"] (defScope (am 5)) := ⟨rfl, rfl, rfl, by decide +kernel, rfl, by decide +kernel, by decide +kernel⟩
theorem ok_top (T : Cl K C) (F : Fun K "top" "Amount.top" (am 3) f fd) : FnOk P w K mg base CX0 1 f fd ["self"] (spGet C fun q => .int q.num) := by
  refine F.ok scTop (fun vs H Q E h => ?_) (fun cdv A outer s H vs Q E hr h => ?_)
  · obtain ⟨a, q, rfl, _⟩ := h
    rfl
  · obtain ⟨a, q, rfl, ia, z⟩ := h
    exact ⟨_, pss_one (ps_ret (pe_top T (pv 0))), ⟨_, rfl, a, q, rfl, ia, z⟩⟩
theorem ok_bot (T : Cl K C) (F : Fun K "bottom" "Amount.bottom" (am 4) f fd) : FnOk P w K mg base CX0 1 f fd ["self"] (spGet C fun q => .int q.den) := by
  refine F.ok scBot (fun vs H Q E h => ?_) (fun cdv A outer s H vs Q E hr h => ?_)
  · obtain ⟨a, q, rfl, _⟩ := h
    rfl
  · obtain ⟨a, q, rfl, ia, z⟩ := h
    exact ⟨_, pss_one (ps_ret (pe_bot T (pv 0))), ⟨_, rfl, a, q, rfl, ia, z⟩⟩
theorem ok_sgn (T : Cl K C) (F : Fun K "sign" "Amount.sign" (am 5) f fd) : FnOk P w K mg base CX0 1 f fd ["self"] (spGet C fun q => .int q.num.sign) := by
  refine F.ok scSgn (fun vs H Q E h => ?_) (fun cdv A outer s H vs Q E hr h => ?_)
  · obtain ⟨a, q, rfl, _⟩ := h
    rfl
  · obtain ⟨a, q, rfl, ia, z⟩ := h
    refine ⟨_, pss_cons (ps_if (pt_cmpR op_lt (pe_top T (pv 0)) pe_int (nomark _)) (pss_one (ps_ret (pe_un un_neg pe_int))) pss_nil)
      (pss_one (ps_ret (pe_ifExp (pt_cmpR op_gt (pe_top T (pv 0)) pe_int (nomark _)) pe_int pe_int))), ?_⟩
    replace z : Q (.int q.num.sign) H := z
    refine ⟨_, rfl, a, q, rfl, ia, _, _, rfl, rfl, _, rfl, ite2 (fun h => ?_) (fun h => ?_)⟩
    · have h' : q.num < 0 := by simpa using h
      rw [Int.sign_eq_neg_one_of_neg h'] at z
      exact ⟨_, rfl, z⟩
    · have h' : ¬ q.num < 0 := by simpa using h
      refine ⟨_, rfl, a, q, rfl, ia, _, _, rfl, rfl, _, rfl, ite2 (fun h2 => ?_) (fun h2 => ?_)⟩
      · have h3 : 0 < q.num := by simpa using h2
        rw [Int.sign_eq_one_of_pos h3] at z
        exact z
      · have h3 : ¬ 0 < q.num := by simpa using h2
        have e : q.num = 0 := by omega
        rw [e] at z
        exact z
/-! ### of -/
structure Cl2 (K : W.Frag) (C : Addr) : Prop where
  ins : C8.InsC K C
  kI : W.kitOne K (.type "int") (.ref C) = some false
theorem is_inst (T2 : Cl2 K C) {H : Hp} {Q : VK} {a : Addr} {q : Rat} (ia : Is C H a q) (z : Q (.bl true) H) : rIsi K [.ref a, .ref C] H Q := by
  obtain ⟨dx, ea⟩ := ia
  exact ⟨_, _, _, _, true, rfl, ClsV.own C, TyX.base (TyOf.ins ea T2.ins.cl T2.ins.ha T2.ins.hn T2.ins.htk T2.ins.hm), T2.ins.me, z⟩
theorem is_int (T2 : Cl2 K C) {H : Hp} {Q : VK} {i : Int} (z : Q (.bl false) H) : rIsi K [.int i, .ref C] H Q := ⟨_, _, _, _, false, rfl, ClsV.own C, TyX.base (TyOf.int i), T2.kI, z⟩
theorem scOf : FnScope ["number"] ["number"] (defScope (am 1)) := ⟨rfl, rfl, rfl, by decide +kernel, rfl, by decide +kernel, by decide +kernel⟩
theorem sz_num {q : Rat} (h : Sz q) : q.num.natAbs < 2 ^ 8999 := more_bits h.1 (by decide)
theorem sz_den {q : Rat} (h : Sz q) : (q.den : Int).natAbs < 2 ^ 4000 := by
  rw [Int.natAbs_natCast]
  exact h.2
theorem den0 (q : Rat) : (q.den : Int) ≠ 0 := by
  have := q.den_pos
  omega
theorem ok_of (fr : Frees mg) (B : Base P w K mg base C) (T2 : Cl2 K C) (F : Fun K "of" "Amount.of" (am 1) f fd) : FnOk P w K mg base CX0 4 f fd ["number"] (spOf C) := by
  refine F.ok scOf (fun vs H Q E h => ?_) (fun cdv A outer s H vs Q E hr h => ?_)
  · obtain ⟨v, q, rfl, _⟩ := h
    rfl
  · obtain ⟨v, q, rfl, nv, sz, nw⟩ := h
    refine ⟨_, pss_cons (ps_if (pt_val (pe_callB call_isi rfl (fr.h _ (by decide +kernel)) (by decide +kernel) (pa_cons (pv 0) (pa_cons (pe_glob (v := V.ref C) rfl B.mgA rfl) pa_nil)))) (pss_one (ps_ret (pv 0))) pss_nil)
      (pss_one (ps_ret (pe_mk1 B hr rfl (pa_cons (pv 0) pa_nil)))), ?_⟩
    rcases nv with ⟨i, rfl, rfl⟩ | ⟨a, rfl, ia⟩
    · refine ⟨_, rfl, ?_⟩
      exact ⟨_, _, _, _, false, rfl, ClsV.own C, TyX.base (TyOf.int i), T2.kI, _, rfl, iteF ⟨_, rfl, i, rfl, sz_num sz, fun r H' e n z => nw r H' e z⟩⟩
    · refine ⟨_, rfl, ?_⟩
      obtain ⟨dx, ea⟩ := id ia
      exact ⟨_, _, _, _, true, rfl, ClsV.own C, TyX.base (TyOf.ins ea T2.ins.cl T2.ins.ha T2.ins.hn T2.ins.htk T2.ins.hm), T2.ins.me, _, rfl, iteT ⟨_, rfl, nw a H (Ext.refl H) ia⟩⟩
/-! ### -x, abs, bool -/
theorem scNeg : FnScope ["self"] ["self"] (defScope (am 18)) := ⟨rfl, rfl, rfl, by decide +kernel, rfl, by decide +kernel, by decide +kernel⟩
theorem ok_neg (T : Cl K C) (B : Base P w K mg base C) (F : Fun K "__neg__" "Amount.__neg__" (am 18) f fd) : FnOk P w K mg base CX0 4 f fd ["self"] (spUn C fun q => -q) := by
  refine F.ok scNeg (fun vs H Q E h => ?_) (fun cdv A outer s H vs Q E hr h => ?_)
  · obtain ⟨a, q, rfl, _⟩ := h
    rfl
  · obtain ⟨a, q, rfl, ia, sz, nw⟩ := h
    refine ⟨_, pss_one (ps_ret (pe_mk2 B hr rfl (pa_cons (pe_un un_neg (pe_top T (pv 0))) (pa_cons (pe_bot T (pv 0)) pa_nil)))), ?_⟩
    refine ⟨_, rfl, a, q, rfl, ia, _, rfl, _, rfl, a, q, rfl, ia, _, _, rfl, den0 q, (by rw [Int.natAbs_neg]; exact sz_num sz), more_bits (sz_den sz) (by decide), ?_⟩
    rw [neg_rat]
    exact nw
def aq (q : Rat) : Rat := if q.num < 0 then -q else q
theorem abs_rat (q : Rat) : Rat.divInt (if q.num < 0 then -q.num else q.num) (q.den : Int) = aq q := by
  unfold aq
  split
  · exact neg_rat q
  · exact Rat.num_divInt_den q
theorem scAbs : FnScope ["self"] ["self"] (defScope (am 19)) := ⟨rfl, rfl, rfl, by decide +kernel, rfl, by decide +kernel, by decide +kernel⟩
theorem ok_abs (fr : Frees mg) (T : Cl K C) (B : Base P w K mg base C) (F : Fun K "__abs__" "Amount.__abs__" (am 19) f fd) : FnOk P w K mg base CX0 4 f fd ["self"] (spUn C aq) := by
  refine F.ok scAbs (fun vs H Q E h => ?_) (fun cdv A outer s H vs Q E hr h => ?_)
  · obtain ⟨a, q, rfl, _⟩ := h
    rfl
  · obtain ⟨a, q, rfl, ia, sz, nw⟩ := h
    refine ⟨_, pss_one (ps_ret (pe_mk2 B hr rfl (pa_cons (pe_callB call_abs rfl (fr.h _ (by decide +kernel)) (by decide +kernel) (pa_cons (pe_top T (pv 0)) pa_nil)) (pa_cons (pe_bot T (pv 0)) pa_nil)))), ?_⟩
    refine ⟨_, rfl, a, q, rfl, ia, _, rfl, _, rfl, a, q, rfl, ia, _, _, rfl, den0 q, (by have := sz_num sz; split <;> omega), more_bits (sz_den sz) (by decide), ?_⟩
    rw [abs_rat]
    exact nw
def spBool (C : Addr) : Sp := fun vs H Q _ => ∃ a q, vs = [.ref a] ∧ Is C H a q ∧ Q (.bl (decide (q.num ≠ 0))) H
theorem scBool : FnScope ["self"] ["self"] (defScope (am 20)) := ⟨rfl, rfl, rfl, by decide +kernel, rfl, by decide +kernel, by decide +kernel⟩
theorem ok_bool (fr : Frees mg) (T : Cl K C) (F : Fun K "__bool__" "Amount.__bool__" (am 20) f fd) : FnOk P w K mg base CX0 1 f fd ["self"] (spBool C) := by
  refine F.ok scBool (fun vs H Q E h => ?_) (fun cdv A outer s H vs Q E hr h => ?_)
  · obtain ⟨a, q, rfl, _⟩ := h
    rfl
  · obtain ⟨a, q, rfl, ia, z⟩ := h
    refine ⟨_, pss_one (ps_ret (pe_callTy call_bool1 rfl (fr.h _ (by decide +kernel)) (by decide +kernel) (pa_cons (pe_cmpR op_ne (pe_top T (pv 0)) pe_int (nomark _)) pa_nil))), ?_⟩
    refine ⟨_, rfl, a, q, rfl, ia, rfl, .inr ⟨_, rfl, ?_⟩⟩
    have e : (!decide (V.int q.num = V.int 0)) = decide (q.num ≠ 0) := by simp
    rw [e]
    exact z
end
end KA

set_option Elab.async false
set_option linter.all false
set_option maxRecDepth 100000
set_option maxHeartbeats 1000000
set_option exponentiation.threshold 9000
/-! The arithmetic of Amount. -/
namespace KA
open PySem PySem.Spec PyProof.Rows L2 Oo Gd Am
section
variable {P : Program} {w : World} {K : W.Frag} {mg : Str → Option Value} {base : Heap} {C f : Addr} {fd : FuncData}
theorem num_bits {q : Rat} (h : Sz q) : q.num.natAbs < 2 ^ 4000 := h.1
theorem top_bits {q p : Rat} (h : Sz q) (h' : Sz p) : (q.num * (p.den : Int)).natAbs < 2 ^ 8000 := mul_bits h.1 (sz_den h')
theorem den_bits {q p : Rat} (h : Sz q) (h' : Sz p) : ((q.den : Int) * (p.den : Int)).natAbs < 2 ^ 8000 := mul_bits (sz_den h) (sz_den h')
theorem den_den (q p : Rat) : (q.den : Int) * (p.den : Int) ≠ 0 := Int.mul_ne_zero (den0 q) (den0 p)
theorem neg_sz {q : Rat} (h : Sz q) : Sz (-q) := by
  have e1 : (-q).num = -q.num := rfl
  have e2 : (-q).den = q.den := rfl
  exact ⟨by rw [e1, Int.natAbs_neg]; exact h.1, by rw [e2]; exact h.2⟩
/-- an operator's def, with its promise -/
structure Op (P : Program) (w : World) (K : W.Frag) (mg : Str → Option Value) (base : Heap) (C : Addr) (nm : String) (k : Nat) (h : Rat → Rat → Rat) : Prop where
  of : ∃ f g fd ps, OwnBin K C nm f g ∧ FnOk P w K mg base CX0 k f fd ps (spOp C h) ∧ Binds K fd ps []
theorem op_O {X : Cx} {op : Operator} {k : Nat} {h : Rat → Rat → Rat} (O : Op X.prog X.w X.K X.mg X.base C op.info.2 k h) (hr : Room k X.A) : OpR X (binaryOp op) (rL C h) := by
  obtain ⟨f, g, fd, ps, B, F, b⟩ := O.of
  exact op_L B F b hr
structure Neg (P : Program) (w : World) (K : W.Frag) (mg : Str → Option Value) (base : Heap) (C : Addr) : Prop where
  of : ∃ f fd, W.findIn K (.ref C) "__neg__" = some (some (.ref f)) ∧ W.isFn K (.ref f) = true ∧ FnOk P w K mg base CX0 4 f fd ["self"] (spUn C fun q => -q) ∧ Binds K fd ["self"] []
theorem un_N {X : Cx} (O : Neg X.prog X.w X.K X.mg X.base C) (hr : Room 4 X.A) : UnR X (unaryOp .USub) (fun x H Q => ∃ a q, x = .ref a ∧ Is C H a q ∧ Sz q ∧ New C H Q (-q)) := fun pins s σ H x v Q I rx h => by
  obtain ⟨f, fd, hs, hf, F, b⟩ := O.of
  obtain ⟨a, q, rfl, ia, sz, nw⟩ := h
  obtain ⟨dx, ea⟩ := id ia
  exact un_own (E := E0) hs hf F b pass0 hr pins s σ H _ v Q I rx ⟨a, dx, _, rfl, ea, a, q, rfl, ia, sz, nw⟩
/-! ### + and * -/
theorem scAdd : FnScope ["self", "other", "number"] ["self", "other"] (defScope (am 6)) := ⟨rfl, rfl, rfl, by decide +kernel, rfl, by decide +kernel, by decide +kernel⟩
theorem ok_add (B : Base P w K mg base C) (O : Of P w K mg base C) (F : Fun K "__add__" "Amount.__add__" (am 6) f fd) : FnOk P w K mg base CX0 5 f fd ["self", "other"] (spOp C fun q p => q + p) := by
  refine F.ok scAdd (fun vs H Q E h => ?_) (fun cdv A outer s H vs Q E hr h => ?_)
  · obtain ⟨a, y, q, p, rfl, _⟩ := h
    rfl
  · obtain ⟨a, y, q, p, rfl, ia, ny, sq, sp, nw⟩ := h
    have nd := scAdd.nd
    have T := B.T
    have h2 := hr.mono (show 2 ≤ 4 by decide)
    have h3 := hr.mono (show 3 ≤ 4 by decide)
    refine ⟨_, pss_cons (ps_set (i := 2) nd rfl (.inl rfl) (pe_of O hr (pe_glob (v := V.ref C) rfl B.mgA rfl) (pa_cons (pv 1) pa_nil)))
      (pss_one (ps_ret (pe_mk2 B h3 rfl (pa_cons (pe_op op_add (pe_op op_mulW (pe_top T (pv 0)) (pe_pBot B h2 (pv 2))) (pe_op op_mulW (pe_pTop B h2 (pv 2)) (pe_bot T (pv 0))))
        (pa_cons (pe_op op_mulW (pe_bot T (pv 0)) (pe_pBot B h2 (pv 2))) pa_nil))))), ?_⟩
    refine ⟨rfl, _, rfl, y, p, rfl, ny, sp, fun r H1 e1 ir => ?_⟩
    have ia1 := ia.ext e1
    have cm : ∀ {i j : Int}, i.natAbs < 2 ^ 4000 → j.natAbs < 2 ^ 4000 → CMulW i j := fun h h' => mulOk h h' (by decide) (by decide)
    refine ⟨_, rfl, a, q, rfl, ia1, _, rfl, r, p, rfl, ir, _, _, rfl, rfl, cm sq.1 (sz_den sp), _, rfl, r, p, rfl, ir, _, rfl, a, q, rfl, ia1, _, _, rfl, rfl, cm sp.1 (sz_den sq), _, _, rfl, rfl, ?_⟩
    refine ⟨_, rfl, a, q, rfl, ia1, _, rfl, r, p, rfl, ir, _, _, rfl, rfl, cm (sz_den sq) (sz_den sp), _, _, rfl, den_den q p, more_bits (add_bits (top_bits sq sp) (top_bits sp sq)) (by decide), more_bits (den_bits sq sp) (by decide), ?_⟩
    rw [add_rat]
    exact fun r2 H2 e2 n2 i2 => nw r2 H2 (e1.trans e2) (e1.gone n2) i2
theorem scMul : FnScope ["self", "other", "number"] ["self", "other"] (defScope (am 10)) := ⟨rfl, rfl, rfl, by decide +kernel, rfl, by decide +kernel, by decide +kernel⟩
theorem ok_mul (B : Base P w K mg base C) (O : Of P w K mg base C) (F : Fun K "__mul__" "Amount.__mul__" (am 10) f fd) : FnOk P w K mg base CX0 5 f fd ["self", "other"] (spOp C fun q p => q * p) := by
  refine F.ok scMul (fun vs H Q E h => ?_) (fun cdv A outer s H vs Q E hr h => ?_)
  · obtain ⟨a, y, q, p, rfl, _⟩ := h
    rfl
  · obtain ⟨a, y, q, p, rfl, ia, ny, sq, sp, nw⟩ := h
    have nd := scMul.nd
    have T := B.T
    have h2 := hr.mono (show 2 ≤ 4 by decide)
    have h3 := hr.mono (show 3 ≤ 4 by decide)
    refine ⟨_, pss_cons (ps_set (i := 2) nd rfl (.inl rfl) (pe_of O hr (pe_glob (v := V.ref C) rfl B.mgA rfl) (pa_cons (pv 1) pa_nil)))
      (pss_one (ps_ret (pe_mk2 B h3 rfl (pa_cons (pe_op op_mulW (pe_top T (pv 0)) (pe_pTop B h2 (pv 2)))
        (pa_cons (pe_op op_mulW (pe_bot T (pv 0)) (pe_pBot B h2 (pv 2))) pa_nil))))), ?_⟩
    refine ⟨rfl, _, rfl, y, p, rfl, ny, sp, fun r H1 e1 ir => ?_⟩
    have ia1 := ia.ext e1
    have cm : ∀ {i j : Int}, i.natAbs < 2 ^ 4000 → j.natAbs < 2 ^ 4000 → CMulW i j := fun h h' => mulOk h h' (by decide) (by decide)
    refine ⟨_, rfl, a, q, rfl, ia1, _, rfl, r, p, rfl, ir, _, _, rfl, rfl, cm sq.1 sp.1, ?_⟩
    refine ⟨_, rfl, a, q, rfl, ia1, _, rfl, r, p, rfl, ir, _, _, rfl, rfl, cm (sz_den sq) (sz_den sp), _, _, rfl, den_den q p, more_bits (mul_bits sq.1 sp.1) (by decide), more_bits (den_bits sq sp) (by decide), ?_⟩
    rw [mul_rat]
    exact fun r2 H2 e2 n2 i2 => nw r2 H2 (e1.trans e2) (e1.gone n2) i2
/-! ### - -/
theorem scSub : FnScope ["self", "other"] ["self", "other"] (defScope (am 8)) := ⟨rfl, rfl, rfl, by decide +kernel, rfl, by decide +kernel, by decide +kernel⟩
theorem ok_sub (B : Base P w K mg base C) (O : Of P w K mg base C) (N : Neg P w K mg base C) (A1 : Op P w K mg base C (Operator.Add).info.2 5 fun q p => q + p) (F : Fun K "__sub__" "Amount.__sub__" (am 8) f fd) :
    FnOk P w K mg base CX0 6 f fd ["self", "other"] (spOp C fun q p => q - p) := by
  refine F.ok scSub (fun vs H Q E h => ?_) (fun cdv A outer s H vs Q E hr h => ?_)
  · obtain ⟨a, y, q, p, rfl, _⟩ := h
    rfl
  · obtain ⟨a, y, q, p, rfl, ia, ny, sq, sp, nw⟩ := h
    have h4 := hr.mono (show 4 ≤ 5 by decide)
    refine ⟨_, pss_one (ps_ret (pe_op (op_O A1 hr) (pv 0) (pe_un (un_N N h4) (pe_of O h4 (pe_glob (v := V.ref C) rfl B.mgA rfl) (pa_cons (pv 1) pa_nil))))), ?_⟩
    refine ⟨_, rfl, rfl, _, rfl, y, p, rfl, ny, sp, fun r H1 e1 ir => ⟨r, p, rfl, ir, sp, fun r2 H2 e2 n2 ir2 => ⟨a, q, -p, rfl, (ia.ext e1).ext e2, Num.is ir2, sq, neg_sz sp, ?_⟩⟩⟩
    show New C H2 Q (q + -p)
    rw [← Rat.sub_eq_add_neg]
    exact fun r3 H3 e3 n3 i3 => nw r3 H3 ((e1.trans e2).trans e3) ((e1.trans e2).gone n3) i3
/-! ### the turned ones -/
end
end KA

set_option Elab.async false
set_option linter.all false
set_option maxRecDepth 100000
set_option maxHeartbeats 1000000
set_option exponentiation.threshold 9000
/-! Turned operators, powers, ==. -/
namespace KA
open PySem PySem.Spec PyProof.Rows L2 Oo Gd Am
section
variable {P : Program} {w : World} {K : W.Frag} {mg : Str → Option Value} {base : Heap} {C f : Addr} {fd : FuncData}
theorem scRadd : FnScope ["self", "other"] ["self", "other"] (defScope (am 7)) := ⟨rfl, rfl, rfl, by decide +kernel, rfl, by decide +kernel, by decide +kernel⟩
theorem scRsub : FnScope ["self", "other"] ["self", "other"] (defScope (am 9)) := ⟨rfl, rfl, rfl, by decide +kernel, rfl, by decide +kernel, by decide +kernel⟩
theorem scRmul : FnScope ["self", "other"] ["self", "other"] (defScope (am 11)) := ⟨rfl, rfl, rfl, by decide +kernel, rfl, by decide +kernel, by decide +kernel⟩
theorem ok_radd (B : Base P w K mg base C) (O : Of P w K mg base C) (A : Op P w K mg base C (Operator.Add).info.2 5 fun q p => q + p) (F : Fun K "__radd__" "Amount.__radd__" (am 7) f fd) : FnOk P w K mg base CX0 6 f fd ["self", "other"] (spOp C fun q p => p + q) := by
  refine F.ok scRadd (fun vs H Q E h => ?_) (fun cdv A' outer s H vs Q E hr hh => ?_)
  · obtain ⟨a, y, q, p, rfl, _⟩ := h
    rfl
  · obtain ⟨a, y, q, p, rfl, ia, ny, sq, sp, nw⟩ := hh
    refine ⟨_, pss_one (ps_ret (pe_op (op_O A hr) (pe_of O (hr.mono (by decide)) (pe_glob (v := V.ref C) rfl B.mgA rfl) (pa_cons (pv 1) pa_nil)) (pv 0))), ?_⟩
    exact ⟨rfl, _, rfl, y, p, rfl, ny, sp, fun r H1 e1 ir => ⟨_, rfl, r, p, q, rfl, ir, Num.is (ia.ext e1), sp, sq, fun r2 H2 e2 n2 i2 => nw r2 H2 (e1.trans e2) (e1.gone n2) i2⟩⟩
theorem ok_rsub (B : Base P w K mg base C) (O : Of P w K mg base C) (A : Op P w K mg base C (Operator.Sub).info.2 6 fun q p => q - p) (F : Fun K "__rsub__" "Amount.__rsub__" (am 9) f fd) : FnOk P w K mg base CX0 7 f fd ["self", "other"] (spOp C fun q p => p - q) := by
  refine F.ok scRsub (fun vs H Q E h => ?_) (fun cdv A' outer s H vs Q E hr hh => ?_)
  · obtain ⟨a, y, q, p, rfl, _⟩ := h
    rfl
  · obtain ⟨a, y, q, p, rfl, ia, ny, sq, sp, nw⟩ := hh
    refine ⟨_, pss_one (ps_ret (pe_op (op_O A hr) (pe_of O (hr.mono (by decide)) (pe_glob (v := V.ref C) rfl B.mgA rfl) (pa_cons (pv 1) pa_nil)) (pv 0))), ?_⟩
    exact ⟨rfl, _, rfl, y, p, rfl, ny, sp, fun r H1 e1 ir => ⟨_, rfl, r, p, q, rfl, ir, Num.is (ia.ext e1), sp, sq, fun r2 H2 e2 n2 i2 => nw r2 H2 (e1.trans e2) (e1.gone n2) i2⟩⟩
theorem ok_rmul (B : Base P w K mg base C) (O : Of P w K mg base C) (A : Op P w K mg base C (Operator.Mult).info.2 5 fun q p => q * p) (F : Fun K "__rmul__" "Amount.__rmul__" (am 11) f fd) : FnOk P w K mg base CX0 6 f fd ["self", "other"] (spOp C fun q p => p * q) := by
  refine F.ok scRmul (fun vs H Q E h => ?_) (fun cdv A' outer s H vs Q E hr hh => ?_)
  · obtain ⟨a, y, q, p, rfl, _⟩ := h
    rfl
  · obtain ⟨a, y, q, p, rfl, ia, ny, sq, sp, nw⟩ := hh
    refine ⟨_, pss_one (ps_ret (pe_op (op_O A hr) (pe_of O (hr.mono (by decide)) (pe_glob (v := V.ref C) rfl B.mgA rfl) (pa_cons (pv 1) pa_nil)) (pv 0))), ?_⟩
    exact ⟨rfl, _, rfl, y, p, rfl, ny, sp, fun r H1 e1 ir => ⟨_, rfl, r, p, q, rfl, ir, Num.is (ia.ext e1), sp, sq, fun r2 H2 e2 n2 i2 => nw r2 H2 (e1.trans e2) (e1.gone n2) i2⟩⟩
/-! ### is_count, ** -/
def spCount : Sp := fun vs H Q _ => ∃ i : Int, vs = [.int i] ∧ Q (.bl (decide (0 ≤ i))) H
theorem scCount : FnScope ["value"] ["value"] (defScope (top 19)) := ⟨rfl, rfl, rfl, by decide +kernel, rfl, by decide +kernel, by decide +kernel⟩
theorem ok_count (DW : Dn P w K mg base CX0 1 "is_whole" ["value"] spWhole) (F : Fun K "is_count" "is_count" (top 19) f fd) : FnOk P w K mg base CX0 2 f fd ["value"] spCount := by
  refine F.ok scCount (fun vs H Q E h => ?_) (fun cdv A outer s H vs Q E hr h => ?_)
  · obtain ⟨i, rfl, _⟩ := h
    rfl
  · obtain ⟨i, rfl, q⟩ := h
    refine ⟨_, pss_one (ps_ret (pe_and (pe_dn DW hr (by rfl) (by decide) (pa_cons (pv 0) pa_nil)) (pe_one (pe_cmpR op_ge (pv 0) pe_int (nomark _))))), ?_⟩
    exact ⟨_, rfl, i, rfl, true, rfl, _, rfl, _, _, rfl, rfl, q⟩
def Low (n : Nat) (q : Rat) : Prop := q.num.natAbs < 2 ^ n ∧ q.den < 2 ^ n
def spPow (C : Addr) : Sp := fun vs H Q _ => ∃ a q i, vs = [.ref a, .int i] ∧ Is C H a q ∧ Low 330 q ∧ 0 ≤ i ∧ i ≤ 12 ∧ New C H Q (q ^ i.toNat)
theorem pow_low {q : Rat} (h : Low 330 q) {i : Nat} (hi : i ≤ 12) : Sz (q ^ i) := by
  have e : 330 * i ≤ 3960 := by omega
  have pw : ∀ {n : Nat}, n < 2 ^ 330 → n ^ i ≤ 2 ^ (330 * i) := fun {n} hn => by
    rw [Nat.pow_mul]
    exact Nat.pow_le_pow_left (Nat.le_of_lt hn) i
  have big : (2 : Nat) ^ (330 * i) < 2 ^ 4000 := Nat.pow_lt_pow_right (by decide) (by omega)
  refine ⟨?_, ?_⟩
  · rw [Rat.num_pow, Int.natAbs_pow]
    exact Nat.lt_of_le_of_lt (pw h.1) big
  · rw [Rat.den_pow]
    exact Nat.lt_of_le_of_lt (pw h.2) big
theorem scPow : FnScope ["self", "other", "result", "_"] ["self", "other"] (defScope (am 17)) := ⟨rfl, rfl, rfl, by decide +kernel, rfl, by decide +kernel, by decide +kernel⟩
theorem ok_pow {t : Tok} (fr : Frees mg) (B : Base P w K mg base C) (DC : Dn P w K mg base CX0 2 "is_count" ["value"] spCount) (mgP : mg "MOST_POWER" = some (.int 12 t)) (A : Op P w K mg base C (Operator.Mult).info.2 5 fun q p => q * p) (F : Fun K "__pow__" "Amount.__pow__" (am 17) f fd) :
    FnOk P w K mg base CX0 6 f fd ["self", "other"] (spPow C) := by
  refine F.ok scPow (fun vs H Q E h => ?_) (fun cdv A' outer s H vs Q E hr h => ?_)
  · obtain ⟨a, q, i, rfl, _⟩ := h
    rfl
  · obtain ⟨a, q, i, rfl, ia, lw, i0, i12, nw⟩ := h
    have nd := scPow.nd
    have h3 := hr.mono (show 3 ≤ 5 by decide)
    have h2 := hr.mono (show 2 ≤ 5 by decide)
    refine ⟨_, pss_cons (ps_if (PW.pt (pw_or (pt_not (pt_val (pe_dn DC h2 (by rfl) (by decide) (pa_cons (pv 1) pa_nil)))) (pw_or1 (pt_cmpR op_gt (pv 1) (pe_glob (v := V.int 12) rfl mgP ⟨t, rfl⟩) (nomark _))))) (pss_one ps_never) pss_nil)
      (pss_cons (ps_set (i := 2) nd rfl (.inl rfl) (pe_mk1 B h3 rfl (pa_cons pe_int pa_nil)))
      (pss_cons (ps_for PassesOwn.never rfl (pi_range1 rfl (fr.h _ (by decide +kernel)) (pa_cons (pv 1) pa_nil)) (pg_name (i := 3) nd rfl (.inl rfl))
        (pss_one (ps_set (i := 2) nd rfl (.inl rfl) (pe_op (op_O A hr) (pv 2) (pv 0)))))
      (pss_one (ps_ret (pv 2))))), ?_⟩
    refine ⟨_, rfl, i, rfl, _, rfl, ?_⟩
    rw [decide_eq_true i0]
    refine iteF ⟨_, rfl, _, _, rfl, rfl, _, rfl, ite2 (fun h => absurd h (by simpa using i12)) (fun _ => ?_)⟩
    refine ⟨1, rfl, (by decide), fun r H1 e1 n1 i1 => ⟨_, rfl, i, rfl, (by omega), (by omega), ?_⟩⟩
    refine for_range (lo := 0) (n := i.toNat) (fun j σ H' => ∃ r, σ[0]? = some (some (.ref a)) ∧ σ[2]? = some (some (.ref r)) ∧ σ.length = 4 ∧ Am.Ext H H' ∧ H r = none ∧ Is C H' r (q ^ j)) ?_ ?_ ?_
    · exact ⟨r, rfl, rfl, rfl, e1, n1, by rw [Rat.pow_zero]; exact i1⟩
    · rintro j σ H' hj ⟨r, s0, s2, sl, e, nr, ir⟩
      have hj' : j < 12 := by omega
      refine ⟨_, ?_, _, ?_, r, q ^ j, q, rfl, ir, Num.is (ia.ext e), pow_low lw (by omega), ⟨Nat.lt_trans lw.1 (by decide), Nat.lt_trans lw.2 (by decide)⟩, fun r2 H2 e2 n2 ir2 => ?_⟩
      · rw [List.getElem?_set_ne (by decide)]
        exact s2
      · rw [List.getElem?_set_ne (by decide)]
        exact s0
      · refine ⟨r2, ?_, ?_, ?_, e.trans e2, e.gone n2, ?_⟩
        · rw [List.getElem?_set_ne (by decide), List.getElem?_set_ne (by decide)]
          exact s0
        · rw [List.getElem?_set_self (by rw [List.length_set]; omega)]
        · rw [List.length_set, List.length_set]
          exact sl
        · rw [Rat.pow_succ]
          exact ir2
    · rintro σ H' ⟨r, s0, s2, sl, e, nr, ir⟩
      exact ⟨_, s2, nw r H' e nr ir⟩
/-! ### == -/
def spEq (C : Addr) : Sp := fun vs H Q _ => ∃ a b q p, vs = [.ref a, .ref b] ∧ Is C H a q ∧ Is C H b p ∧ Q (.bl (decide (q = p))) H
theorem scEq : FnScope ["self", "other"] ["self", "other"] (defScope (am 21)) := ⟨rfl, rfl, rfl, by decide +kernel, rfl, by decide +kernel, by decide +kernel⟩
theorem ok_eq (fr : Frees mg) (B : Base P w K mg base C) (T2 : Cl2 K C) (F : Fun K "__eq__" "Amount.__eq__" (am 21) f fd) : FnOk P w K mg base CX0 1 f fd ["self", "other"] (spEq C) := by
  refine F.ok scEq (fun vs H Q E h => ?_) (fun cdv A' outer s H vs Q E hr h => ?_)
  · obtain ⟨a, b, q, p, rfl, _⟩ := h
    rfl
  · obtain ⟨a, b, q, p, rfl, ia, ib, z⟩ := h
    have T := B.T
    refine ⟨_, pss_one (ps_ret (pe_and (pe_callB call_isi rfl (fr.h _ (by decide +kernel)) (by decide +kernel) (pa_cons (pv 1) (pa_cons (pe_glob (v := V.ref C) rfl B.mgA rfl) pa_nil)))
      (pe_and (pe_cmpR op_eq (pe_top T (pv 0)) (pe_top T (pv 1)) (nomark _)) (pe_one (pe_cmpR op_eq (pe_bot T (pv 0)) (pe_bot T (pv 1)) (nomark _)))))), ?_⟩
    obtain ⟨dx, eb⟩ := id ib
    refine ⟨_, rfl, _, _, _, _, true, rfl, ClsV.own C, TyX.base (TyOf.ins eb T2.ins.cl T2.ins.ha T2.ins.hn T2.ins.htk T2.ins.hm), T2.ins.me, true, rfl, ?_⟩
    refine ⟨_, rfl, a, q, rfl, ia, _, rfl, b, p, rfl, ib, rfl, ?_⟩
    have key : (decide (q = p)) = (decide (V.int q.num = V.int p.num) && decide (V.int (q.den : Int) = V.int (p.den : Int))) := by
      by_cases e1 : q.num = p.num
      · by_cases e2 : q.den = p.den
        · have e := Rat.ext e1 e2
          subst e
          simp
        · have ne : q ≠ p := fun e => e2 (by rw [e])
          simp [ne, e1]
          omega
      · have ne : q ≠ p := fun e => e1 (by rw [e])
        simp [ne, e1]
    rw [key] at z
    refine ⟨_, rfl, ?_⟩
    cases h1 : decide (V.int q.num = V.int p.num) with
    | true =>
      rw [h1, Bool.true_and] at z
      exact ⟨_, rfl, a, q, rfl, ia, _, rfl, b, p, rfl, ib, rfl, z⟩
    | false =>
      rw [h1, Bool.false_and] at z
      exact z
end
end KA

set_option Elab.async false
set_option linter.all false
set_option maxRecDepth 100000
set_option maxHeartbeats 1000000
set_option exponentiation.threshold 9000
/-! over, //, % of Amounts: 0 is refused. -/
namespace KA
open PySem PySem.Spec PyProof.Rows L2 Oo Gd Am
theorem divInt_le (n d : Int) (h : d ≠ 0) : (Rat.divInt n d).num.natAbs ≤ n.natAbs ∧ (Rat.divInt n d).den ≤ d.natAbs := by
  obtain ⟨m, m0, e1, e2⟩ := Rat.divInt_num_den (n' := (Rat.divInt n d).num) (d' := (Rat.divInt n d).den) (z' := (Rat.divInt n d).den_nz) (c := (Rat.divInt n d).reduced) h rfl
  have m1 : 1 ≤ m.natAbs := by omega
  refine ⟨?_, ?_⟩
  · conv => rhs; rw [e1]
    rw [Int.natAbs_mul]
    exact Nat.le_mul_of_pos_right _ m1
  · conv => rhs; rw [e2]
    rw [Int.natAbs_mul, Int.natAbs_natCast]
    exact Nat.le_mul_of_pos_right _ m1
/-- 0 is refused: the error of the class at Z, which tells None, lies in a heap where all stands on -/
def Refuse (Z : Addr) (H : Hp) (E : XK) : Prop := ∀ (d : Addr) (H' : Hp), Am.Ext H H' → H d = none → H' d = some (.xd [("rule", .non)]) → E (.ref Z) (some d) H'
theorem Refuse.on {Z : Addr} {H H1 : Hp} {E : XK} (r : Refuse Z H E) (e : Am.Ext H H1) : Refuse Z H1 E := fun d H' x n h => r d H' (e.trans x) (e.gone n) h
theorem left_ext {H : Hp} {Z e d : Addr} {fs : List (Str × V)} (he : H e = none) (hd : H d = none) : Am.Ext H (Gx.leftH H Z e d fs) ∧ Gx.leftH H Z e d fs d = some (.xd fs) := by
  refine ⟨fun b o h => ?_, upd_same⟩
  have n1 := ne_of_none h hd
  have n2 := ne_of_none h he
  show upd (L2.del (Ge.withErr H Z e d fs) e) d (.xd fs) b = some o
  rw [upd_ne n1]
  unfold L2.del
  rw [if_neg n2]
  show upd (upd H d _) e _ b = some o
  rw [upd_ne n2, upd_ne n1]
  exact h
section
variable {P : Program} {w : World} {K : W.Frag} {mg : Str → Option Value} {base : Heap} {C Z f : Addr} {fd : FuncData}
/-- what the text says of DividedByZero -/
structure Zr (K : W.Frag) (mg : Str → Option Value) (Z : Addr) : Prop where
  e1 : Ge.E1 K Z "rule"
  mgZ : mg "DividedByZero" = some (.ref Z)
  rs : ∀ {X : Cx}, X.K = K → Raises X (.ref Z)
def spDiv (n : Nat) (C Z : Addr) (R : Rat → Rat → Hp → VK → Prop) : Sp := fun vs H Q E => ∃ a y q p, vs = [.ref a, y] ∧ Is C H a q ∧ Num C H y p ∧ Low n q ∧ Low n p ∧ (p ≠ 0 → R q p H Q) ∧ (p = 0 → Refuse Z H E)
def Whole (q : Rat) (H : Hp) (Q : VK) : Prop := ∀ H', Am.Ext H H' → Q (.int q.floor) H'
theorem low_sz {n : Nat} {q : Rat} (h : Low n q) (hn : n ≤ 4000) : Sz q := ⟨Nat.lt_of_lt_of_le h.1 (Nat.pow_le_pow_right (by decide) hn), Nat.lt_of_lt_of_le h.2 (Nat.pow_le_pow_right (by decide) hn)⟩
theorem scOver : FnScope ["self", "other", "number"] ["self", "other"] (defScope (am 12)) := ⟨rfl, rfl, rfl, by decide +kernel, rfl, by decide +kernel, by decide +kernel⟩
theorem ok_over (B : Base P w K mg base C) (O : Of P w K mg base C) (ZR : Zr K mg Z) (F : Fun K "over" "Amount.over" (am 12) f fd) : FnOk P w K mg base (L2.CX P w) 5 f fd ["self", "other"] (spDiv 4000 C Z fun q p H Q => New C H Q (q / p)) := by
  refine F.okX scOver (fun vs H Q E h => ?_) (fun cdv A outer s H vs Q E hr h => ?_)
  · obtain ⟨a, y, q, p, rfl, _⟩ := h
    rfl
  · obtain ⟨a, y, q, p, rfl, ia, ny, sq, sp, hn, hz⟩ := h
    have nd := scOver.nd
    have T := B.T
    have h2 := hr.mono (show 2 ≤ 4 by decide)
    have h3 := hr.mono (show 3 ≤ 4 by decide)
    refine ⟨_, pss_cons (ps_set (i := 2) nd rfl (.inl rfl) (pe_of O hr (pe_glob (v := V.ref C) rfl B.mgA rfl) (pa_cons (pv 1) pa_nil)))
      (pss_cons (ps_if (pt_cmpR op_eq (pe_pTop B h2 (pv 2)) pe_int (nomark _)) (pss_one (ps_raise rfl (takes_of rfl rfl rfl rfl) (Gx.pmk1 ZR.e1 (ZR.rs rfl) hr rfl ZR.mgZ (pa_cons pe_non pa_nil)))) pss_nil)
      (pss_one (ps_ret (pe_mk2 B h3 rfl (pa_cons (pe_op op_mulW (pe_top T (pv 0)) (pe_pBot B h2 (pv 2)))
        (pa_cons (pe_op op_mulW (pe_bot T (pv 0)) (pe_pTop B h2 (pv 2))) pa_nil)))))), ?_⟩
    refine ⟨rfl, _, rfl, y, p, rfl, ny, sp, fun r H1 e1 ir => ?_⟩
    have ia1 := ia.ext e1
    refine ⟨_, rfl, r, p, rfl, ir, rfl, _, rfl, ite2 (fun h => ?_) (fun h => ?_)⟩
    · have p0 : p = 0 := Rat.num_eq_zero.mp (by simpa using h)
      refine ⟨_, rfl, fun e d he hd ne => ?_⟩
      obtain ⟨x1, x2⟩ := left_ext (Z := Z) (fs := [("rule", V.non)]) he hd
      exact (hz p0).on e1 d _ x1 hd x2
    · have p0 : p ≠ 0 := fun e => h (by rw [e]; rfl)
      have pn : p.num ≠ 0 := fun e => p0 (Rat.num_eq_zero.mp e)
      have cm : ∀ {i j : Int}, i.natAbs < 2 ^ 4000 → j.natAbs < 2 ^ 4000 → CMulW i j := fun h h' => mulOk h h' (by decide) (by decide)
      refine ⟨_, rfl, a, q, rfl, ia1, _, rfl, r, p, rfl, ir, _, _, rfl, rfl, cm sq.1 (sz_den sp), ?_⟩
      refine ⟨_, rfl, a, q, rfl, ia1, _, rfl, r, p, rfl, ir, _, _, rfl, rfl, cm (sz_den sq) sp.1, _, _, rfl, Int.mul_ne_zero (den0 q) pn, more_bits (top_bits sq sp) (by decide), more_bits (mul_bits (sz_den sq) sp.1) (by decide), ?_⟩
      rw [div_rat]
      exact fun r2 H2 e2 n2 i2 => hn p0 r2 H2 (e1.trans e2) (e1.gone n2) i2
/-! ### // and % -/
structure Over (P : Program) (w : World) (K : W.Frag) (mg : Str → Option Value) (base : Heap) (C Z : Addr) : Prop where
  of : ∃ f fd, Meth K C "over" f ∧ FnOk P w K mg base (L2.CX P w) 5 f fd ["self", "other"] (spDiv 4000 C Z fun q p H Q => New C H Q (q / p)) ∧ Binds K fd ["self", "other"] []
theorem no_over (q : Rat) : (flds q).lookup ("over" : Str) = none := by
  show List.lookup ("over" : Str) [("_top", V.int q.num), ("_bottom", V.int q.den)] = _
  have n1 : ("over" : Str) ≠ "_top" := by decide +kernel
  have n2 : ("over" : Str) ≠ "_bottom" := by decide +kernel
  rw [List.lookup_cons, beq_eq_false_iff_ne.mpr n1, List.lookup_cons, beq_eq_false_iff_ne.mpr n2]
  rfl
theorem div_low {q p : Rat} (sq : Sz q) (sp : Sz p) (p0 : p ≠ 0) : (q / p).num.natAbs < 2 ^ 8000 ∧ (q / p).den < 2 ^ 8000 := by
  rw [← div_rat]
  have pn : p.num ≠ 0 := fun e => p0 (Rat.num_eq_zero.mp e)
  obtain ⟨h1, h2⟩ := divInt_le (q.num * (p.den : Int)) ((q.den : Int) * p.num) (Int.mul_ne_zero (den0 q) pn)
  exact ⟨Nat.lt_of_le_of_lt h1 (top_bits sq sp), Nat.lt_of_le_of_lt h2 (mul_bits (sz_den sq) sp.1)⟩
theorem floor_eq (q : Rat) : q.num.fdiv (q.den : Int) = q.floor := by
  rw [Rat.floor_def, Int.fdiv_eq_ediv_of_nonneg _ (by omega)]
theorem scFd : FnScope ["self", "other", "quotient"] ["self", "other"] (defScope (am 13)) := ⟨rfl, rfl, rfl, by decide +kernel, rfl, by decide +kernel, by decide +kernel⟩
theorem ok_fdiv (B : Base P w K mg base C) (V1 : Over P w K mg base C Z) (F : Fun K "__floordiv__" "Amount.__floordiv__" (am 13) f fd) : FnOk P w K mg base (L2.CX P w) 6 f fd ["self", "other"] (spDiv 4000 C Z fun q p H Q => Whole (q / p) H Q) := by
  refine F.okX scFd (fun vs H Q E h => ?_) (fun cdv A outer s H vs Q E hr h => ?_)
  · obtain ⟨a, y, q, p, rfl, _⟩ := h
    rfl
  · obtain ⟨a, y, q, p, rfl, ia, ny, sq, sp, hn, hz⟩ := h
    have nd := scFd.nd
    have h2 := hr.mono (show 2 ≤ 5 by decide)
    obtain ⟨fo, fdo, hm, G, b⟩ := V1.of
    refine ⟨_, pss_cons (ps_set (i := 2) nd rfl (.inl rfl) (pe_meth (pv 0) B.T.cl hm G hr b .nil (passes_call (takes_of rfl rfl rfl rfl) fun _ _ _ _ h => h) (pa_cons (pv 1) pa_nil)))
      (pss_one (ps_ret (pe_op op_fdivX (pe_pTop B h2 (pv 2)) (pe_pBot B h2 (pv 2))))), ?_⟩
    obtain ⟨dx, ea⟩ := id ia
    refine ⟨_, rfl, a, dx, _, rfl, ea, no_over q, _, rfl, a, y, q, p, rfl, ia, ny, sq, sp, fun p0 => ?_, hz⟩
    obtain ⟨b1, b2⟩ := div_low sq sp p0
    intro r H1 e1 n1 ir
    refine ⟨_, rfl, r, q / p, rfl, ir, _, rfl, r, q / p, rfl, ir, _, _, rfl, rfl, ⟨den0 _, bits (n := 8000) (by rw [Int.natAbs_natCast]; exact b2) (by decide)⟩, ?_⟩
    show Q (.int ((q / p).num.fdiv ((q / p).den : Int))) H1
    rw [floor_eq]
    exact hn p0 H1 e1
/-- the def of // (of %), with its promise -/
structure Dv (P : Program) (w : World) (K : W.Frag) (mg : Str → Option Value) (base : Heap) (C Z : Addr) (nm : String) (n k : Nat) (R : Rat → Rat → Hp → VK → Prop) : Prop where
  of : ∃ f g fd ps, OwnBin K C nm f g ∧ FnOk P w K mg base (L2.CX P w) k f fd ps (spDiv n C Z R) ∧ Binds K fd ps []
def rD (n : Nat) (C Z : Addr) (R : Rat → Rat → Hp → VK → Prop) (E : XK) : R2 := fun x y H Q => ∃ a q p, x = .ref a ∧ Is C H a q ∧ Num C H y p ∧ Low n q ∧ Low n p ∧ (p ≠ 0 → R q p H Q) ∧ (p = 0 → Refuse Z H E)
theorem op_D {X : Cx} {op : Operator} {n k : Nat} {R : Rat → Rat → Hp → VK → Prop} {E : XK} (D : Dv X.prog X.w X.K X.mg X.base C Z op.info.2 n k R) (hx : Passes (L2.CX X.prog X.w) X E) (hr : Room k X.A) : OpR X (binaryOp op) (rD n C Z R E) := fun pins s σ H x y v u Q I rx ry hh => by
  obtain ⟨f, g, fd, ps, B, F, b⟩ := D.of
  obtain ⟨a, q, p, rfl, ia, ny, sq, sp, hn, hz⟩ := hh
  obtain ⟨dx, ea⟩ := id ia
  have prom : spDiv n C Z R [V.ref a, y] H Q E := ⟨a, y, q, p, rfl, ia, ny, sq, sp, hn, hz⟩
  have one : rBin C (spDiv n C Z R) (fun _ _ _ _ => False) E (.ref a) y H Q := by
    rcases id ny with ⟨i, rfl, _⟩ | ⟨b, rfl, dy, eb⟩
    · exact .inr (.inl ⟨a, dx, _, i, rfl, rfl, ea, prom⟩)
    · exact .inl ⟨a, dx, _, b, dy, _, rfl, rfl, ea, eb, prom⟩
  exact op_left B F b hx hr pins s σ H _ _ v u Q I rx ry one
theorem scMod : FnScope ["self", "other", "number"] ["self", "other"] (defScope (am 15)) := ⟨rfl, rfl, rfl, by decide +kernel, rfl, by decide +kernel, by decide +kernel⟩
theorem floor_bits {q p : Rat} (sq : Low 900 q) (sp : Low 900 p) (p0 : p ≠ 0) : (q / p).floor.natAbs < 2 ^ 1801 := by
  have pn : p.num ≠ 0 := fun e => p0 (Rat.num_eq_zero.mp e)
  have h1 : (q / p).num.natAbs ≤ (q.num * (p.den : Int)).natAbs := by
    rw [← div_rat]
    exact (divInt_le _ _ (Int.mul_ne_zero (den0 q) pn)).1
  have h2 : (q.num * (p.den : Int)).natAbs < 2 ^ 1800 := mul_bits sq.1 (show ((p.den : Int)).natAbs < 2 ^ 900 by rw [Int.natAbs_natCast]; exact sp.2)
  rw [Rat.floor_def]
  have h3 : ((q / p).num / ((q / p).den : Int)).natAbs ≤ (q / p).num.natAbs + 1 := by
    have := (q / p).den_pos
    generalize (q / p).num = n
    generalize hd : ((q / p).den : Int) = d
    have d1 : 1 ≤ d := by omega
    have a1 := Int.ediv_mul_le n (show d ≠ 0 by omega)
    have a2 := Int.lt_ediv_add_one_mul_self n (show 0 < d by omega)
    rcases Int.lt_or_le n 0 with hn | hn
    · have u : n / d < 0 := Int.ediv_neg_of_neg_of_pos hn (by omega)
      have l : n ≤ n / d := by
        rcases Int.lt_or_le (n / d) n with z | z
        · exfalso
          have : (n / d + 1) * d ≤ (n / d + 1) * 1 := by
            have w1 : n / d + 1 ≤ 0 := by omega
            exact Int.mul_le_mul_of_nonpos_left w1 d1
          omega
        · exact z
      omega
    · have l : 0 ≤ n / d := Int.ediv_nonneg hn (by omega)
      have u : n / d ≤ n := Int.ediv_le_self d hn
      omega
  have e : (2 : Nat) ^ 1801 = 2 ^ 1800 + 2 ^ 1800 := Nat.two_pow_succ 1800
  have big : (1 : Nat) ≤ 2 ^ 1800 := Nat.one_le_two_pow
  rw [e]
  omega
theorem ok_mod (B : Base P w K mg base C) (O : Of P w K mg base C) (M : Op P w K mg base C (Operator.Mult).info.2 5 fun q p => q * p) (S : Op P w K mg base C (Operator.Sub).info.2 6 fun q p => q - p)
    (D : Dv P w K mg base C Z (Operator.FloorDiv).info.2 4000 6 fun q p H Q => Whole (q / p) H Q) (F : Fun K "__mod__" "Amount.__mod__" (am 15) f fd) :
    FnOk P w K mg base (L2.CX P w) 7 f fd ["self", "other"] (spDiv 900 C Z fun q p H Q => New C H Q (q - p * ((q / p).floor : Rat))) := by
  refine F.okX scMod (fun vs H Q E h => ?_) (fun cdv A outer s H vs Q E hr h => ?_)
  · obtain ⟨a, y, q, p, rfl, _⟩ := h
    rfl
  · obtain ⟨a, y, q, p, rfl, ia, ny, sq, sp, hn, hz⟩ := h
    have nd := scMod.nd
    have h5 := hr.mono (show 5 ≤ 6 by decide)
    have h4 := hr.mono (show 4 ≤ 6 by decide)
    have zq := low_sz sq (by decide)
    have zp := low_sz sp (by decide)
    refine ⟨_, pss_cons (ps_set (i := 2) nd rfl (.inl rfl) (pe_of O h4 (pe_glob (v := V.ref C) rfl B.mgA rfl) (pa_cons (pv 1) pa_nil)))
      (pss_one (ps_ret (pe_op (op_O S hr) (pv 0) (pe_op (op_O M h5) (pv 2) (pe_op (op_D (E := E) D (passes_call (takes_of rfl rfl rfl rfl) fun _ _ _ _ h => h) hr) (pv 0) (pv 2)))))), ?_⟩
    refine ⟨rfl, _, rfl, y, p, rfl, ny, zp, fun r H1 e1 ir => ?_⟩
    refine ⟨_, rfl, _, rfl, _, rfl, _, rfl, a, q, p, rfl, ia.ext e1, Num.is ir, zq, zp, fun p0 => ?_, fun p0 => (hz p0).on e1⟩
    intro H2 e2
    have fb := floor_bits sq sp p0
    have fz : Sz (((q / p).floor : Int) : Rat) := ⟨Nat.lt_trans fb (by decide), (by show 1 < 2 ^ 4000; decide)⟩
    refine ⟨r, p, _, rfl, ir.ext e2, Num.int _, zp, fz, fun r3 H3 e3 n3 i3 => ?_⟩
    have mz : Sz (p * (((q / p).floor : Int) : Rat)) := by
      rw [← mul_rat]
      have dd : (p.den : Int) * ((((q / p).floor : Int) : Rat).den : Int) ≠ 0 := den_den _ _
      obtain ⟨h1, h2⟩ := divInt_le (p.num * (((q / p).floor : Int) : Rat).num) ((p.den : Int) * ((((q / p).floor : Int) : Rat).den : Int)) dd
      refine ⟨Nat.lt_of_le_of_lt h1 (more_bits (mul_bits sp.1 fb) (by decide)), Nat.lt_of_le_of_lt h2 ?_⟩
      rw [show (((((q / p).floor : Int) : Rat).den : Nat) : Int) = 1 from rfl, Int.mul_one, Int.natAbs_natCast]
      exact zp.2
    refine ⟨a, q, _, rfl, ((ia.ext e1).ext e2).ext e3, Num.is i3, zq, mz, fun r4 H4 e4 n4 i4 => hn p0 r4 H4 (((e1.trans e2).trans e3).trans e4) (((e1.trans e2).trans e3).gone n4) i4⟩
/-! ### the turned ones -/
theorem scRfd : FnScope ["self", "other"] ["self", "other"] (defScope (am 14)) := ⟨rfl, rfl, rfl, by decide +kernel, rfl, by decide +kernel, by decide +kernel⟩
theorem scRmod : FnScope ["self", "other"] ["self", "other"] (defScope (am 16)) := ⟨rfl, rfl, rfl, by decide +kernel, rfl, by decide +kernel, by decide +kernel⟩
def spDivR (n : Nat) (C Z : Addr) (R : Rat → Rat → Hp → VK → Prop) : Sp := fun vs H Q E => ∃ a y q p, vs = [.ref a, y] ∧ Is C H a p ∧ Num C H y q ∧ Low n q ∧ Low n p ∧ (p ≠ 0 → R q p H Q) ∧ (p = 0 → Refuse Z H E)
theorem ok_rfdiv (B : Base P w K mg base C) (O : Of P w K mg base C) (D : Dv P w K mg base C Z (Operator.FloorDiv).info.2 4000 6 fun q p H Q => Whole (q / p) H Q) (F : Fun K "__rfloordiv__" "Amount.__rfloordiv__" (am 14) f fd) :
    FnOk P w K mg base (L2.CX P w) 7 f fd ["self", "other"] (spDivR 4000 C Z fun q p H Q => Whole (q / p) H Q) := by
  refine F.okX scRfd (fun vs H Q E h => ?_) (fun cdv A outer s H vs Q E hr h => ?_)
  · obtain ⟨a, y, q, p, rfl, _⟩ := h
    rfl
  · obtain ⟨a, y, q, p, rfl, ia, ny, sq, sp, hn, hz⟩ := h
    refine ⟨_, pss_one (ps_ret (pe_op (op_D (E := E) D (passes_call (takes_of rfl rfl rfl rfl) fun _ _ _ _ h => h) hr) (pe_of O (hr.mono (by decide)) (pe_glob (v := V.ref C) rfl B.mgA rfl) (pa_cons (pv 1) pa_nil)) (pv 0))), ?_⟩
    exact ⟨rfl, _, rfl, y, q, rfl, ny, sq, fun r H1 e1 ir => ⟨_, rfl, r, q, p, rfl, ir, Num.is (ia.ext e1), sq, sp, fun p0 H2 e2 => hn p0 H2 (e1.trans e2), fun p0 => (hz p0).on e1⟩⟩
theorem ok_rmod (B : Base P w K mg base C) (O : Of P w K mg base C) (D : Dv P w K mg base C Z (Operator.Mod).info.2 900 7 fun q p H Q => New C H Q (q - p * ((q / p).floor : Rat))) (F : Fun K "__rmod__" "Amount.__rmod__" (am 16) f fd) :
    FnOk P w K mg base (L2.CX P w) 8 f fd ["self", "other"] (spDivR 900 C Z fun q p H Q => New C H Q (q - p * ((q / p).floor : Rat))) := by
  refine F.okX scRmod (fun vs H Q E h => ?_) (fun cdv A outer s H vs Q E hr h => ?_)
  · obtain ⟨a, y, q, p, rfl, _⟩ := h
    rfl
  · obtain ⟨a, y, q, p, rfl, ia, ny, sq, sp, hn, hz⟩ := h
    refine ⟨_, pss_one (ps_ret (pe_op (op_D (E := E) D (passes_call (takes_of rfl rfl rfl rfl) fun _ _ _ _ h => h) hr) (pe_of O (hr.mono (by decide)) (pe_glob (v := V.ref C) rfl B.mgA rfl) (pa_cons (pv 1) pa_nil)) (pv 0))), ?_⟩
    exact ⟨rfl, _, rfl, y, q, rfl, ny, low_sz sq (by decide), fun r H1 e1 ir => ⟨_, rfl, r, q, p, rfl, ir, Num.is (ia.ext e1), sq, sp, fun p0 r2 H2 e2 n2 i2 => hn p0 r2 H2 (e1.trans e2) (e1.gone n2) i2, fun p0 => (hz p0).on e1⟩⟩
end
end KA

set_option Elab.async false
set_option linter.all false
set_option maxRecDepth 100000
set_option maxHeartbeats 1000000
set_option exponentiation.threshold 20000
/-! Texts of great numbers; str, repr of Amounts. -/
namespace Am
open PySem PySem.Spec PyProof.Rows L2 Oo
theorem lim10 : (2 : Nat) ^ 8000 < 10 ^ 4300 := by
  have h : ((2 : Nat) ^ 80) ^ 100 < (10 ^ 43) ^ 100 := Nat.pow_lt_pow_left (by decide) (by decide)
  rw [← Nat.pow_mul, ← Nat.pow_mul] at h
  exact h
theorem big_len {i : Int} (h : i.natAbs < 2 ^ 8000) : (Str.ofString (toString i)).length ≤ 8001 := by
  have l : i.natAbs.log2 < 8000 := by
    by_cases z : i.natAbs = 0
    · rw [z]; decide
    · exact (Nat.log2_lt z).mpr h
  have e := int_text_length_le (a := i) (k := 8000) (by decide) l
  rw [PySem.ofString_length]
  exact e
section
variable {X : Cx}
theorem nd_at {pins : List (Addr × Obj)} {σ : L2.St} {H : Hp} {s : Shared} (I : Inv X pins σ H s) (nb : X.base.NoDigits) : s.heap.NoDigits := nb.keeps I.bk
/-- str(n) -/
def rStrI : List V → Hp → VK → Prop := fun xs H Q => ∃ i : Int, xs = [.int i] ∧ i.natAbs < 2 ^ 8000 ∧ Q (.str (toString i)) H
theorem call_strI (nb : X.base.NoDigits) (hc : X.calm = true) : CallR X (.type "str") rStrI := by
  intro pins s σ H xs us Q I r h
  obtain ⟨i, rfl, hz, q⟩ := h
  obtain ⟨u, rfl, t, rfl⟩ := vals1 r
  exact str_of_int_or (I.ok.hd hc) (nd_at I nb) (fun _ => ⟨.str _, H, I.tok _, ⟨_, rfl⟩, q⟩) fun hge => absurd (Nat.lt_trans hz lim10) (Nat.not_lt.mpr hge)
/-- {n} in an f-string -/
def tFmtI (te : TE) : TE := fun σ H Q => te σ H fun x H1 => ∃ i : Int, x = .int i ∧ i.natAbs < 2 ^ 8000 ∧ Q (.str (toString i)) H1
theorem pe_fmtI (nb : X.base.NoDigits) (hc : X.calm = true) {e : Expr} {te : TE} {pos : Pos} (he : PE X e te) : PE X (.FormattedValue e (-1) none pos) (tFmtI te) := by
  refine ⟨fun pins s σ H Q I h => ?_⟩
  refine wpAny_FormattedValue_plain (thn (he.run pins s σ H _ I h) fun v s1 hv => ?_)
  obtain ⟨x, H1, I1, r1, i, rfl, hz, q⟩ := hv
  obtain ⟨t, rfl⟩ := r1
  exact formatField_int (I1.ok.hd hc) (nd_at I1 nb) (fun _ => ⟨.str (toString i), H1, I1.tok _, ⟨_, rfl⟩, q⟩) fun hge => absurd (Nat.lt_trans hz lim10) (Nat.not_lt.mpr hge)
end
/-! ### the texts -/
/-- 'Amount(t, b)' -/
def shown (q : Rat) : Str := Str.empty ++ "Amount(" ++ (toString q.num : String) ++ ", " ++ (toString (q.den : Int) : String) ++ ")"
def written (q : Rat) : Str := if (q.den : Int) = 1 then (toString q.num : String) else Str.empty ++ (toString q.num : String) ++ "/" ++ (toString (q.den : Int) : String)
end Am
namespace KA
open PySem PySem.Spec PyProof.Rows L2 Oo Gd Am
section
variable {P : Program} {w : World} {K : W.Frag} {mg : Str → Option Value} {base : Heap} {C f : Addr} {fd : FuncData}
def spText (C : Addr) (g : Rat → Str) : Sp := fun vs H Q _ => ∃ a q, vs = [.ref a] ∧ Is C H a q ∧ Low 8000 q ∧ Q (.str (g q)) H
theorem scStr : FnScope ["self"] ["self"] (defScope (am 26)) := ⟨rfl, rfl, rfl, by decide +kernel, rfl, by decide +kernel, by decide +kernel⟩
theorem scRepr : FnScope ["self"] ["self"] (defScope (am 27)) := ⟨rfl, rfl, rfl, by decide +kernel, rfl, by decide +kernel, by decide +kernel⟩
theorem low_den {n : Nat} {q : Rat} (h : Low n q) : ((q.den : Int)).natAbs < 2 ^ n := by
  rw [Int.natAbs_natCast]
  exact h.2
theorem line_ge : (20000 : Nat) ≤ sizeLine := by decide
theorem ok_str (nb : base.NoDigits) (fr : Frees mg) (T : Cl K C) (F : Fun K "__str__" "Amount.__str__" (am 26) f fd) : FnOk P w K mg base CX0 1 f fd ["self"] (spText C written) := by
  refine F.ok scStr (fun vs H Q E h => ?_) (fun cdv A outer s H vs Q E hr h => ?_)
  · obtain ⟨a, q, rfl, _⟩ := h
    rfl
  · obtain ⟨a, q, rfl, ia, lw, z⟩ := h
    refine ⟨_, pss_cons (ps_if (pt_cmpR op_eq (pe_bot T (pv 0)) pe_int (nomark _)) (pss_one (ps_ret (pe_callTy (call_strI nb rfl) rfl (fr.h _ (by decide +kernel)) (by decide +kernel) (pa_cons (pe_top T (pv 0)) pa_nil)))) pss_nil)
      (pss_one (ps_ret (pe_joined (.cons (pe_fmtI nb rfl (pe_top T (pv 0))) (.cons pe_str (.cons (pe_fmtI nb rfl (pe_bot T (pv 0))) .nil)))))), ?_⟩
    have l1 := big_len lw.1
    have l2 := big_len (low_den lw)
    refine ⟨_, rfl, a, q, rfl, ia, rfl, _, rfl, ite2 (fun h => ?_) (fun h => ?_)⟩
    · have e : (q.den : Int) = 1 := by simpa using h
      unfold written at z
      rw [if_pos e] at z
      exact ⟨_, rfl, a, q, rfl, ia, _, rfl, lw.1, z⟩
    · have e : ¬ (q.den : Int) = 1 := fun e => h (by simpa using e)
      unfold written at z
      rw [if_neg e] at z
      have k1 : (Str.ofString "/").length = 1 := by decide
      have k0 : (Str.empty).length = 0 := by decide
      refine ⟨_, rfl, a, q, rfl, ia, _, rfl, lw.1, _, rfl, ?_, _, rfl, ?_, _, rfl, a, q, rfl, ia, _, rfl, low_den lw, _, rfl, ?_, z⟩ <;> (simp only [strLen_append, k1, k0]; have := line_ge; omega)
theorem ok_repr (nb : base.NoDigits) (fr : Frees mg) (T : Cl K C) (F : Fun K "__repr__" "Amount.__repr__" (am 27) f fd) : FnOk P w K mg base CX0 1 f fd ["self"] (spText C shown) := by
  refine F.ok scRepr (fun vs H Q E h => ?_) (fun cdv A outer s H vs Q E hr h => ?_)
  · obtain ⟨a, q, rfl, _⟩ := h
    rfl
  · obtain ⟨a, q, rfl, ia, lw, z⟩ := h
    refine ⟨_, pss_one (ps_ret (pe_joined (.cons pe_str (.cons (pe_fmtI nb rfl (pe_top T (pv 0))) (.cons pe_str (.cons (pe_fmtI nb rfl (pe_bot T (pv 0))) (.cons pe_str .nil))))))), ?_⟩
    have l1 := big_len lw.1
    have l2 := big_len (low_den lw)
    have k1 : (Str.ofString "Amount(").length = 7 := by decide
    have k2 : (Str.ofString ", ").length = 2 := by decide
    have k3 : (Str.ofString ")").length = 1 := by decide
    have k0 : (Str.empty).length = 0 := by decide
    refine ⟨_, rfl, ?_, _, rfl, a, q, rfl, ia, _, rfl, lw.1, _, rfl, ?_, _, rfl, ?_, _, rfl, a, q, rfl, ia, _, rfl, low_den lw, _, rfl, ?_, _, rfl, ?_, z⟩ <;> (simp only [strLen_append, k1, k2, k3, k0]; have := line_ge; omega)
end
end KA

set_option Elab.async false
set_option linter.all false
set_option maxRecDepth 100000
set_option maxHeartbeats 1000000
set_option exponentiation.threshold 20000
/-! rounded. -/
namespace Am
open PySem PySem.Spec PyProof.Rows L2 Oo
theorem emp (x : Str) : Str.empty ++ x = x := by
  cases x with
  | mk a =>
    show Str.mk (#[] ++ a) = Str.mk a
    rw [Array.empty_append]
/-- filled up with zeros to m signs -/
def zf (x : Str) (m : Nat) : Str := ⟨Array.replicate (m - x.length) 48 ++ x.cps⟩
theorem zf_len (x : Str) (m : Nat) : (zf x m).length = (m - x.length) + x.length := by
  show (Array.replicate (m - x.length) 48 ++ x.cps).size = _
  rw [Array.size_append, Array.size_replicate]
  rfl
theorem zfill_nat (n m : Nat) : Txt.zfill (Str.ofString (toString (n : Int))) (m : Int) = zf (Str.ofString (toString (n : Int))) m := by
  have hs := PySem.W.KIN.signs_num n
  have hd : ∀ c ∈ (Str.ofString (toString (n : Int))).cps.toList, 48 ≤ c ∧ c ≤ 57 := by
    intro c hc
    rw [hs] at hc
    obtain ⟨ch, hch, e⟩ := List.mem_map.mp hc
    have r := digit_range (Nat.isDigit_of_mem_toDigits (by decide) (by decide) hch)
    rw [← e]
    exact r
  generalize Str.ofString (toString (n : Int)) = x at hd
  clear hs
  unfold Txt.zfill zf
  by_cases h : (m : Int) ≤ x.length
  · rw [if_pos h, show m - x.length = 0 by omega]
    cases x with
    | mk a =>
      show Str.mk a = Str.mk (Array.replicate 0 48 ++ a)
      simp
  · rw [if_neg h, Int.toNat_natCast]
    unfold zfilled
    split
    · rename_i e
      have := hd 43 (by rw [← Array.getElem?_toList] at e; exact List.mem_of_getElem? e)
      omega
    · rename_i e
      have := hd 45 (by rw [← Array.getElem?_toList] at e; exact List.mem_of_getElem? e)
      omega
    · show Str.mk (Array.replicate (m - x.length) 48 ++ x.cps ++ Array.replicate 0 48) = _
      simp
def steps (q : Rat) (k : Nat) : Int := (q.num * 10 ^ k) / (q.den : Int)
def mark (n : Int) : Str := if n < 0 then "-" else ""
def digs (n : Int) (k : Nat) : Str := zf (toString (if n < 0 then -n else n)) (k + 1)
def dec (q : Rat) (k : Nat) : Str :=
  if k = 0 then mark (steps q k) ++ digs (steps q k) k
  else mark (steps q k) ++ cutS (digs (steps q k) k) none (some (((digs (steps q k) k).length : Int) - k)) ++ "." ++ cutS (digs (steps q k) k) (some (((digs (steps q k) k).length : Int) - k)) none
theorem steps_bits {q : Rat} {k : Nat} (h : q.num.natAbs < 2 ^ 4000) (hk : k ≤ 12) : (steps q k).natAbs < 2 ^ 4042 := by
  have p : ((10 : Int) ^ k).natAbs < 2 ^ 40 := by
    rw [Int.natAbs_pow]
    exact Nat.lt_of_le_of_lt (Nat.pow_le_pow_right (by decide) hk) (by decide)
  have m := mul_bits h p
  have d1 := q.den_pos
  unfold steps
  generalize q.num * 10 ^ k = n at m ⊢
  generalize hd : (q.den : Int) = d
  have dp : 1 ≤ d := by omega
  have e : (n / d).natAbs ≤ n.natAbs + 1 := by
    have a1 := Int.ediv_mul_le n (show d ≠ 0 by omega)
    have a2 := Int.lt_ediv_add_one_mul_self n (show 0 < d by omega)
    rcases Int.lt_or_le n 0 with hn | hn
    · have u : n / d < 0 := Int.ediv_neg_of_neg_of_pos hn (by omega)
      have l : n ≤ n / d := by
        rcases Int.lt_or_le (n / d) n with z | z
        · exfalso
          have : (n / d + 1) * d ≤ (n / d + 1) * 1 := Int.mul_le_mul_of_nonpos_left (by omega) dp
          omega
        · exact z
      omega
    · have l : 0 ≤ n / d := Int.ediv_nonneg hn (by omega)
      have u : n / d ≤ n := Int.ediv_le_self d hn
      omega
  have b1 : (2 : Nat) ^ 4041 = 2 ^ 4040 + 2 ^ 4040 := Nat.two_pow_succ 4040
  have b2 : (2 : Nat) ^ 4042 = 2 ^ 4041 + 2 ^ 4041 := Nat.two_pow_succ 4041
  have b3 : (1 : Nat) ≤ 2 ^ 4040 := Nat.one_le_two_pow
  omega
theorem digs_eq (n : Int) (k : Nat) : Txt.zfill (Str.ofString (toString (if n < 0 then -n else n))) ((k : Int) + 1) = digs n k := by
  have e : (if n < 0 then -n else n) = ((n.natAbs : Nat) : Int) := by split <;> omega
  unfold digs
  rw [e]
  exact zfill_nat n.natAbs (k + 1)
theorem digs_len {n : Int} {k : Nat} (h : n.natAbs < 2 ^ 4042) (hk : k ≤ 12) : (digs n k).length ≤ 9000 ∧ k < (digs n k).length := by
  have e : (if n < 0 then -n else n).natAbs = n.natAbs := by split <;> omega
  have l := big_len (i := if n < 0 then -n else n) (by rw [e]; exact Nat.lt_trans h (by decide))
  unfold digs
  rw [zf_len]
  omega
theorem cut_len (x : Str) (lo hi : Option Int) : (cutS x lo hi).length ≤ x.length := by
  show ((x.cps.toList.drop _).take _).toArray.size ≤ _
  rw [List.size_toArray, List.length_take, List.length_drop]
  have : x.cps.toList.length = x.length := rfl
  omega
end Am
namespace KA
open PySem PySem.Spec PyProof.Rows L2 Oo Gd Am
section
variable {P : Program} {w : World} {K : W.Frag} {mg : Str → Option Value} {base : Heap} {C f : Addr} {fd : FuncData}
def spRound (C : Addr) : Sp := fun vs H Q _ => ∃ a q, ∃ k : Nat, vs = [.ref a, .int k] ∧ Is C H a q ∧ Low 4000 q ∧ k ≤ 12 ∧ Q (.str (dec q k)) H
end
end KA

set_option Elab.async false
set_option linter.all false
set_option maxRecDepth 100000
set_option maxHeartbeats 1000000
set_option exponentiation.threshold 20000
/-! The law's own small defs. -/
namespace KA
open PySem PySem.Spec PyProof.Rows L2 Oo Gd Am

/-! ### derivations by the text's shape -/
local macro_rules | `(tactic| walk_at "gd nd") => `(tactic| assumption)
local macro_rules | `(tactic| walk_at "gd lo") => `(tactic| first | exact Or.inl rfl | exact Or.inr rfl)
local macro_rules | `(tactic| walk_at "gd var") => `(tactic| first | exact pv 0 | exact pv 1 | exact pv 2 | exact pv 3 | exact pv 4 | exact pv 5 | exact pv 6 | exact pv 7 | exact pv 8 | exact pv 9 | exact pv 10 | exact pv 11 | exact pv 12 | exact pv 13 | exact pe_glob rfl (by assumption) rfl | exact pe_glob (v := V.ref (He.ga _ _)) rfl (Globs.h (by assumption) _ (by decide +kernel)) rfl | exact pe_bltn (v := V.ty _) rfl (Frees.h (by assumption) _ (by decide +kernel)) (by rfl) rfl | exact pe_bltn rfl (Frees.h (by assumption) _ (by decide +kernel)) (by decide +kernel) rfl)
local macro_rules | `(tactic| walk_at "gd a") => `(tactic| first | exact pa_nil | (refine' pa_cons ?k1 ?k2; (case k1 => walk_at "gd e"); (case k2 => walk_at "gd a")))
local macro_rules | `(tactic| walk_at "gd blt") => `(tactic| first
  | ((with_reducible show PE _ (Expr.Call (Expr.Name "abs" _) _ _ _) _); refine' pe_callB call_abs rfl (Frees.h (by assumption) _ (by decide +kernel)) (by decide +kernel) ?k1; (case k1 => walk_at "gd a"))
  | ((with_reducible show PE _ (Expr.Call (Expr.Name "max" _) _ _ _) _); refine' pe_callB (call_max2 rfl) rfl (Frees.h (by assumption) _ (by decide +kernel)) (by decide +kernel) ?k1; (case k1 => walk_at "gd a"))
  | ((with_reducible show PE _ (Expr.Call (Expr.Name "min" _) _ _ _) _); refine' pe_callB (call_min2 rfl) rfl (Frees.h (by assumption) _ (by decide +kernel)) (by decide +kernel) ?k1; (case k1 => walk_at "gd a"))
  | ((with_reducible show PE _ (Expr.Call (Expr.Name "len" _) _ _ _) _); refine' pe_callB (lenK (by assumption)) rfl (Frees.h (by assumption) _ (by decide +kernel)) (by decide +kernel) ?k1; (case k1 => walk_at "gd a"))
  | ((with_reducible show PE _ (Expr.Call (Expr.Name "divmod" _) _ _ _) _); refine' pe_callB call_divmodW rfl (Frees.h (by assumption) _ (by decide +kernel)) (by decide +kernel) ?k1; (case k1 => walk_at "gd a"))
  | ((with_reducible show PE _ (Expr.Call (Expr.Name "all" _) _ _ _) _); refine' pe_callB (allK (by assumption) rfl) rfl (Frees.h (by assumption) _ (by decide +kernel)) (by decide +kernel) ?k1; (case k1 => walk_at "gd a"))
  | ((with_reducible show PE _ (Expr.Call (Expr.Name "isinstance" _) _ _ _) _); refine' pe_callB (isXK (by assumption)) rfl (Frees.h (by assumption) _ (by decide +kernel)) (by decide +kernel) ?k1; (case k1 => walk_at "gd a"))
  | ((with_reducible show PE _ (Expr.Call (Expr.Name "repr" _) _ _ _) _); refine' pe_callB (call_repr (by assumption) (by assumption)) rfl (Frees.h (by assumption) _ (by decide +kernel)) (by decide +kernel) ?k1; (case k1 => walk_at "gd a"))
  | ((with_reducible show PE _ (Expr.Call (Expr.Name "int" _) _ _ _) _); refine' pe_callTy call_int1 rfl (Frees.h (by assumption) _ (by decide +kernel)) (by decide +kernel) ?k1; (case k1 => walk_at "gd a"))
  | ((with_reducible show PE _ (Expr.Call (Expr.Name "str" _) _ _ _) _); refine' pe_callTy (call_strI (by assumption) rfl) rfl (Frees.h (by assumption) _ (by decide +kernel)) (by decide +kernel) ?k1; (case k1 => walk_at "gd a"))
  | ((with_reducible show PE _ (Expr.Call (Expr.Name "bool" _) _ _ _) _); refine' pe_callTy call_bool1 rfl (Frees.h (by assumption) _ (by decide +kernel)) (by decide +kernel) ?k1; (case k1 => walk_at "gd a"))
  | ((with_reducible show PE _ (Expr.Call (Expr.Name "tuple" _) _ _ _) _); refine' pe_callTy (tupK (by assumption)) rfl (Frees.h (by assumption) _ (by decide +kernel)) (by decide +kernel) ?k1; (case k1 => walk_at "gd a")))
local macro_rules | `(tactic| walk_at "gd call") => `(tactic| first
  | walk_at "gd blt"
  | (refine' pe_dn (by assumption) (by assumption) rfl (by first | decide | omega) ?k1; (case k1 => walk_at "gd a"))
  | (refine' pe_dnG (by assumption) (by assumption) (by assumption) rfl (by first | decide | omega) ?k1; (case k1 => walk_at "gd a"))
  | walk_at "gd own")
local macro_rules | `(tactic| walk_at "gd own") => `(tactic| fail)
local macro_rules | `(tactic| walk_at "gd it") => `(tactic| fail)
local macro_rules | `(tactic| walk_at "gd i") => `(tactic| first
  | ((with_reducible show PI _ _ (Expr.Call (Expr.Name "range" _) [_] _ _) _); refine' pi_range1 rfl (Frees.h (by assumption) _ (by decide +kernel)) ?k1; (case k1 => walk_at "gd a"))
  | walk_at "gd it")
local macro_rules | `(tactic| walk_at "gd cv") => `(tactic| fail)
local macro_rules | `(tactic| walk_at "gd lc") => `(tactic| walk_at "gd cv")
local macro_rules | `(tactic| walk_at "gd e") => `(tactic| first
  | ((with_reducible show PE _ (Expr.Constant _ _ _) _); first | exact pe_int | exact pe_str | exact pe_bl | exact pe_non)
  | ((with_reducible show PE _ (Expr.Name _ _) _); walk_at "gd var")
  | ((with_reducible show PE _ (Expr.BinOp _ Operator.Add _ _) _); refine' pe_op op_addA ?k1 ?k2; (case k1 => walk_at "gd e"); (case k2 => walk_at "gd e"))
  | ((with_reducible show PE _ (Expr.BinOp _ Operator.Sub _ _) _); refine' pe_op op_sub ?k1 ?k2; (case k1 => walk_at "gd e"); (case k2 => walk_at "gd e"))
  | ((with_reducible show PE _ (Expr.BinOp _ Operator.Mult _ _) _); refine' pe_op op_mulA ?k1 ?k2; (case k1 => walk_at "gd e"); (case k2 => walk_at "gd e"))
  | ((with_reducible show PE _ (Expr.BinOp _ Operator.Mod _ _) _); refine' pe_op op_mod ?k1 ?k2; (case k1 => walk_at "gd e"); (case k2 => walk_at "gd e"))
  | ((with_reducible show PE _ (Expr.BinOp _ Operator.FloorDiv _ _) _); refine' pe_op op_fdivW ?k1 ?k2; (case k1 => walk_at "gd e"); (case k2 => walk_at "gd e"))
  | ((with_reducible show PE _ (Expr.BinOp _ Operator.Pow _ _) _); refine' pe_op op_pow ?k1 ?k2; (case k1 => walk_at "gd e"); (case k2 => walk_at "gd e"))
  | ((with_reducible show PE _ (Expr.UnaryOp UnaryOp.USub _ _) _); refine' pe_un un_neg ?k1; (case k1 => walk_at "gd e"))
  | ((with_reducible show PE _ (Expr.UnaryOp UnaryOp.Not _ _) _); refine' pe_not ?k1; (case k1 => walk_at "gd e"))
  | ((with_reducible show PE _ (Expr.Compare _ [CmpOp.Lt] _ _) _); refine' pe_cmpR op_lt ?k1 ?k2 (by rfl); (case k1 => walk_at "gd e"); (case k2 => walk_at "gd e"))
  | ((with_reducible show PE _ (Expr.Compare _ [CmpOp.LtE] _ _) _); refine' pe_cmpR op_le ?k1 ?k2 (by rfl); (case k1 => walk_at "gd e"); (case k2 => walk_at "gd e"))
  | ((with_reducible show PE _ (Expr.Compare _ [CmpOp.Gt] _ _) _); refine' pe_cmpR op_gt ?k1 ?k2 (by rfl); (case k1 => walk_at "gd e"); (case k2 => walk_at "gd e"))
  | ((with_reducible show PE _ (Expr.Compare _ [CmpOp.GtE] _ _) _); refine' pe_cmpR op_ge ?k1 ?k2 (by rfl); (case k1 => walk_at "gd e"); (case k2 => walk_at "gd e"))
  | ((with_reducible show PE _ (Expr.Compare _ [CmpOp.Eq] _ _) _); refine' pe_cmpR (eqK (by assumption) (by assumption)) ?k1 ?k2 (by rfl); (case k1 => walk_at "gd e"); (case k2 => walk_at "gd e"))
  | ((with_reducible show PE _ (Expr.Compare _ [CmpOp.NotEq] _ _) _); refine' pe_cmpR (neK (by assumption) (by assumption)) ?k1 ?k2 (by rfl); (case k1 => walk_at "gd e"); (case k2 => walk_at "gd e"))
  | ((with_reducible show PE _ (Expr.Compare _ [CmpOp.In] _ _) _); refine' pe_cmpR (inK (by assumption)) ?k1 ?k2 (by rfl); (case k1 => walk_at "gd e"); (case k2 => walk_at "gd e"))
  | ((with_reducible show PE _ (Expr.Compare _ [CmpOp.NotIn] _ _) _); refine' pe_cmpR (niK (by assumption)) ?k1 ?k2 (by rfl); (case k1 => walk_at "gd e"); (case k2 => walk_at "gd e"))
  | ((with_reducible show PE _ (Expr.IfExp _ _ _ _) _); refine' pe_ifExp ?k1 ?k2 ?k3; (case k1 => walk_at "gd t"); (case k2 => walk_at "gd e"); (case k3 => walk_at "gd e"))
  | ((with_reducible show PE _ (Expr.Subscript _ (Expr.Slice none (some _) none _) _) _); refine' pe_slice sl_str ?k1 po_none (po_some ?k2); (case k1 => walk_at "gd e"); (case k2 => walk_at "gd e"))
  | ((with_reducible show PE _ (Expr.Subscript _ _ _) _); refine' pe_ix (ixK (by assumption)) ?k1 ?k2 (fun _ _ => rfl); (case k1 => walk_at "gd e"); (case k2 => walk_at "gd e"))
  | ((with_reducible show PE _ (Expr.List _ _) _); refine' pe_lst ?k1; (case k1 => walk_at "gd a"))
  | ((with_reducible show PE _ (Expr.Tuple _ _ _) _); refine' pe_tup ?k1; (case k1 => walk_at "gd a"))
  | ((with_reducible show PE _ (Expr.Dict [] [] _) _); exact pe_dnewK)
  | ((with_reducible show PE _ (Expr.Dict [_] [_] _) _); refine' pe_disp (pps_cons ?k1 ?k2 pps_nil) rfl rfl (fun z => by cases z) (by decide); (case k1 => walk_at "gd e"); (case k2 => walk_at "gd e"))
  | ((with_reducible show PE _ (Expr.Call (Expr.Attribute _ "join" _) _ _ _) _); refine' joinK (by assumption) ?k1 ?k2; (case k1 => walk_at "gd e"); (case k2 => walk_at "gd e"))
  | ((with_reducible show PE _ (Expr.Call (Expr.Attribute _ "append" _) _ _ _) _); refine' pe_bm PySem.F.plainAttrs_list PySem.F.slot_list_append PySem.F.type_list_append mt_append ?k1 ?k2; (case k1 => walk_at "gd e"); (case k2 => walk_at "gd a"))
  | ((with_reducible show PE _ (Expr.Attribute _ _ _) _); refine' efK (by assumption) ?k1; (case k1 => walk_at "gd e"))
  | ((with_reducible show PE _ (Expr.ListComp _ _ _ _) _); walk_at "gd lc")
  | walk_at "gd call")
local macro_rules | `(tactic| walk_at "gd t") => `(tactic| first
  | ((with_reducible show PT _ (Expr.UnaryOp UnaryOp.Not _ _) _); refine' pt_not ?k1; (case k1 => walk_at "gd t"))
  | ((with_reducible show PT _ (Expr.BoolOp BoolOp.And [_, _] _) _); refine' PW.pt (pw_and ?k1 (pw_and1 ?k2)); (case k1 => walk_at "gd t"); (case k2 => walk_at "gd t"))
  | ((with_reducible show PT _ (Expr.BoolOp BoolOp.Or [_, _] _) _); refine' PW.pt (pw_or ?k1 (pw_or1 ?k2)); (case k1 => walk_at "gd t"); (case k2 => walk_at "gd t"))
  | ((with_reducible show PT _ (Expr.Compare _ [CmpOp.Lt] _ _) _); refine' pt_cmpR op_lt ?k1 ?k2 (by rfl); (case k1 => walk_at "gd e"); (case k2 => walk_at "gd e"))
  | ((with_reducible show PT _ (Expr.Compare _ [CmpOp.LtE] _ _) _); refine' pt_cmpR op_le ?k1 ?k2 (by rfl); (case k1 => walk_at "gd e"); (case k2 => walk_at "gd e"))
  | ((with_reducible show PT _ (Expr.Compare _ [CmpOp.Gt] _ _) _); refine' pt_cmpR op_gt ?k1 ?k2 (by rfl); (case k1 => walk_at "gd e"); (case k2 => walk_at "gd e"))
  | ((with_reducible show PT _ (Expr.Compare _ [CmpOp.GtE] _ _) _); refine' pt_cmpR op_ge ?k1 ?k2 (by rfl); (case k1 => walk_at "gd e"); (case k2 => walk_at "gd e"))
  | ((with_reducible show PT _ (Expr.Compare _ [CmpOp.Eq] _ _) _); refine' pt_cmpR (eqK (by assumption) (by assumption)) ?k1 ?k2 (by rfl); (case k1 => walk_at "gd e"); (case k2 => walk_at "gd e"))
  | ((with_reducible show PT _ (Expr.Compare _ [CmpOp.NotEq] _ _) _); refine' pt_cmpR (neK (by assumption) (by assumption)) ?k1 ?k2 (by rfl); (case k1 => walk_at "gd e"); (case k2 => walk_at "gd e"))
  | ((with_reducible show PT _ (Expr.Compare _ [CmpOp.In] _ _) _); refine' pt_cmpR (inK (by assumption)) ?k1 ?k2 (by rfl); (case k1 => walk_at "gd e"); (case k2 => walk_at "gd e"))
  | ((with_reducible show PT _ (Expr.Compare _ [CmpOp.NotIn] _ _) _); refine' pt_cmpR (niK (by assumption)) ?k1 ?k2 (by rfl); (case k1 => walk_at "gd e"); (case k2 => walk_at "gd e"))
  | (refine' pt_val ?k1; (case k1 => walk_at "gd e")))
local macro_rules | `(tactic| walk_at "gd g") => `(tactic| first
  | ((with_reducible show PG _ (Expr.Name _ _) _); first | exact pg_name (i := 0) (by walk_at "gd nd") rfl (by walk_at "gd lo") | exact pg_name (i := 1) (by walk_at "gd nd") rfl (by walk_at "gd lo") | exact pg_name (i := 2) (by walk_at "gd nd") rfl (by walk_at "gd lo") | exact pg_name (i := 3) (by walk_at "gd nd") rfl (by walk_at "gd lo") | exact pg_name (i := 4) (by walk_at "gd nd") rfl (by walk_at "gd lo") | exact pg_name (i := 5) (by walk_at "gd nd") rfl (by walk_at "gd lo") | exact pg_name (i := 6) (by walk_at "gd nd") rfl (by walk_at "gd lo") | exact pg_name (i := 7) (by walk_at "gd nd") rfl (by walk_at "gd lo") | exact pg_name (i := 8) (by walk_at "gd nd") rfl (by walk_at "gd lo") | exact pg_name (i := 9) (by walk_at "gd nd") rfl (by walk_at "gd lo") | exact pg_name (i := 10) (by walk_at "gd nd") rfl (by walk_at "gd lo") | exact pg_name (i := 11) (by walk_at "gd nd") rfl (by walk_at "gd lo") | exact pg_name (i := 12) (by walk_at "gd nd") rfl (by walk_at "gd lo") | exact pg_name (i := 13) (by walk_at "gd nd") rfl (by walk_at "gd lo"))
  | ((with_reducible show PG _ (Expr.Subscript _ _ _) _); refine' pg_sub ?k1 ?k2 set_list; (case k1 => walk_at "gd e"); (case k2 => walk_at "gd e"))
  | ((with_reducible show PG _ (Expr.Tuple _ _ _) _); refine' pg_tup rfl ?k1; (case k1 => walk_at "gd gs")))
local macro_rules | `(tactic| walk_at "gd gs") => `(tactic| first | exact pgs_nil | (refine' pgs_cons ?k1 ?k2; (case k1 => walk_at "gd g"); (case k2 => walk_at "gd gs")))
local macro_rules | `(tactic| walk_at "gd set") => `(tactic| first | (refine' ps_set (i := 0) (by walk_at "gd nd") rfl (by walk_at "gd lo") ?k1; (case k1 => walk_at "gd e")) | (refine' ps_set (i := 1) (by walk_at "gd nd") rfl (by walk_at "gd lo") ?k1; (case k1 => walk_at "gd e")) | (refine' ps_set (i := 2) (by walk_at "gd nd") rfl (by walk_at "gd lo") ?k1; (case k1 => walk_at "gd e")) | (refine' ps_set (i := 3) (by walk_at "gd nd") rfl (by walk_at "gd lo") ?k1; (case k1 => walk_at "gd e")) | (refine' ps_set (i := 4) (by walk_at "gd nd") rfl (by walk_at "gd lo") ?k1; (case k1 => walk_at "gd e")) | (refine' ps_set (i := 5) (by walk_at "gd nd") rfl (by walk_at "gd lo") ?k1; (case k1 => walk_at "gd e")) | (refine' ps_set (i := 6) (by walk_at "gd nd") rfl (by walk_at "gd lo") ?k1; (case k1 => walk_at "gd e")) | (refine' ps_set (i := 7) (by walk_at "gd nd") rfl (by walk_at "gd lo") ?k1; (case k1 => walk_at "gd e")) | (refine' ps_set (i := 8) (by walk_at "gd nd") rfl (by walk_at "gd lo") ?k1; (case k1 => walk_at "gd e")) | (refine' ps_set (i := 9) (by walk_at "gd nd") rfl (by walk_at "gd lo") ?k1; (case k1 => walk_at "gd e")) | (refine' ps_set (i := 10) (by walk_at "gd nd") rfl (by walk_at "gd lo") ?k1; (case k1 => walk_at "gd e")) | (refine' ps_set (i := 11) (by walk_at "gd nd") rfl (by walk_at "gd lo") ?k1; (case k1 => walk_at "gd e")) | (refine' ps_set (i := 12) (by walk_at "gd nd") rfl (by walk_at "gd lo") ?k1; (case k1 => walk_at "gd e")) | (refine' ps_set (i := 13) (by walk_at "gd nd") rfl (by walk_at "gd lo") ?k1; (case k1 => walk_at "gd e")))
local macro_rules | `(tactic| walk_at "gd os") => `(tactic| fail)
local macro_rules | `(tactic| walk_at "gd slc") => `(tactic| fail)
local macro_rules | `(tactic| walk_at "gd par") => `(tactic| fail)
local macro_rules | `(tactic| walk_at "gd s") => `(tactic| first
  | ((with_reducible show PS _ (Stmt.Return (some _) _) _); refine' ps_ret ?k1; (case k1 => walk_at "gd e"))
  | ((with_reducible show PS _ (Stmt.If _ _ _ _) _); refine' ps_if ?k1 ?k2 ?k3; (case k1 => walk_at "gd t"); (case k2 => walk_at "gd ss"); (case k3 => walk_at "gd ss"))
  | ((with_reducible show PS _ (Stmt.Assign [Expr.Name _ _] (Expr.ListComp _ _ _ _) _) _); walk_at "gd slc")
  | ((with_reducible show PS _ (Stmt.Assign [Expr.Name _ _] _ _) _); walk_at "gd set")
  | ((with_reducible show PS _ (Stmt.Assign [_] _ _) _); refine' ps_asg ?k1 ?k2; (case k1 => walk_at "gd e"); (case k2 => walk_at "gd g"))
  | ((with_reducible show PS _ (Stmt.Assign [_] _ _) _); walk_at "gd par")
  | ((with_reducible show PS _ (Stmt.For _ _ _ _ _) _); refine' ps_for PassesOwn.never rfl ?k1 ?k2 ?k3; (case k1 => walk_at "gd i"); (case k2 => walk_at "gd g"); (case k3 => walk_at "gd ss"))
  | ((with_reducible show PS _ (Stmt.Expr _ _) _); refine' ps_expr ?k1; (case k1 => walk_at "gd e"))
  | walk_at "gd os")
local macro_rules | `(tactic| walk_at "gd ss") => `(tactic| first | exact pss_nil | (refine' pss_one ?k1; (case k1 => walk_at "gd s")) | (refine' pss_cons ?k1 ?k2; (case k1 => walk_at "gd s"); (case k2 => walk_at "gd ss")))
abbrev sPot : Stmt := top 50
abbrev sDraw : Stmt := top 51
abbrev sPick : Stmt := top 52
theorem scPot : FnScope ["_law_script", "_law_k", "_law_cell"] ["_law_script", "_law_k"] (defScope sPot) := ⟨rfl, rfl, rfl, by decide +kernel, rfl, by decide +kernel, by decide +kernel⟩
theorem scDraw : FnScope ["_law_pot_here", "_law_sides", "_law_digit"] ["_law_pot_here", "_law_sides"] (defScope sDraw) := ⟨rfl, rfl, rfl, by decide +kernel, rfl, by decide +kernel, by decide +kernel⟩
theorem scPick : FnScope ["_law_pot_here", "_law_some_here"] ["_law_pot_here", "_law_some_here"] (defScope sPick) := ⟨rfl, rfl, rfl, by decide +kernel, rfl, by decide +kernel, by decide +kernel⟩
/-- draw(pot, sides), of more sides -/
def spDraw11 : Sp := fun vs H Q _ => ∃ (p : Addr) (n : Int), vs = [.ref p, .int n] ∧ Pot H p ∧ 0 < n ∧ n ≤ 10000000000000 ∧ ∀ (d : Int) (H' : Hp), 0 ≤ d → d < n → Kp p H H' → Q (.int d) H'
section
variable {P : Program} {w : World} {K : W.Frag} {mg : Str → Option Value} {base : Heap} {f : Addr} {fd : FuncData}
theorem ok_draw (fr : Frees mg) (F : Fun K "_law_draw" "_law_draw" sDraw f fd) : FnOk P w K mg base CX0 1 f fd ["_law_pot_here", "_law_sides"] spDraw11 := by
  refine F.ok scDraw (fun vs H Q E h => ?_) (fun cdv A outer s H vs Q E hr h => ⟨?t, ?d, ?r⟩)
  · obtain ⟨p, n, rfl, _⟩ := h
    rfl
  case d =>
    have nd := scDraw.nd
    have isk : IsK K := ⟨trivial⟩
    walk_at "gd ss"
  case r =>
    obtain ⟨p, n, rfl, ⟨a, b, hp, ha, hb0, hb1⟩, hn0, hn1, k⟩ := h
    refine ⟨_, rfl, ix0 hp ⟨a, 0, rfl, rfl, _, rfl, ite2 (fun c => ?_) (fun c => ?_)⟩⟩
    · refine ⟨_, rfl, ix0 hp ⟨_, rfl, a, n, rfl, ⟨hn0, PyProof.noPylong_of_log2 (bits (n := 80) (by omega) (by decide))⟩, fun t ht => ?_⟩⟩
      have tp : t ≠ p := ne_of_none' hp ht
      refine ⟨t, _, rfl, SqT.of upd_same, rfl, _, _, rfl, _, rfl, p, _, 0, 0, rfl, rfl, (upd_ne (Ne.symm tp)).trans hp, rfl, _, _, rfl, rfl, _, rfl, ?_⟩
      refine k (a % n) _ (Int.emod_nonneg _ (by omega)) (Int.emod_lt_of_pos _ hn0) ⟨fun c o nc hc => ?_, a / n, b, upd_same, Int.ediv_nonneg ha (by omega), hb0, hb1⟩
      rw [upd_ne nc, upd_ne (ne_of_none hc ht)]
      exact hc
    · refine ⟨_, rfl, ix1 hp (.inl ⟨b, 40009, rfl, rfl, mulW (by omega) (by decide), .inl ⟨_, 15013, rfl, rfl, .inl ⟨_, rfl, _, 2147483587, rfl, rfl, (by show (0 : Int) < _; decide), ?_⟩⟩⟩)⟩
      refine ⟨_, rfl, p, _, 1, 1, rfl, rfl, hp, rfl, ?_⟩
      have m0 : 0 ≤ (b * 40009 + 15013) % 2147483587 := Int.emod_nonneg _ (by decide)
      have m1 : (b * 40009 + 15013) % 2147483587 < 2147483587 := Int.emod_lt_of_pos _ (by decide)
      refine ⟨_, rfl, ix1 upd_same ⟨_, rfl, ix1 upd_same (.inl ⟨_, _, rfl, rfl, mulW (by omega) (by omega), .inl ⟨_, rfl, _, 2147483549, rfl, rfl, (by show (0 : Int) < _; decide), _, 13, rfl, rfl, divW (by decide) (by decide), .inl ⟨_, rfl, _, rfl, _, n, rfl, rfl, hn0, ?_⟩⟩⟩)⟩⟩
      exact k _ _ (Int.emod_nonneg _ (by omega)) (Int.emod_lt_of_pos _ hn0) (Kp.put ha m0 (by omega))
theorem ok_pick (fr : Frees mg) (D1 : Dn P w K mg base CX0 1 "_law_draw" ["_law_pot_here", "_law_sides"] spDraw11) (F : Fun K "_law_pick" "_law_pick" sPick f fd) : FnOk P w K mg base CX0 2 f fd ["_law_pot_here", "_law_some_here"] (spPick K) := by
  refine F.ok scPick (fun vs H Q E h => ?_) (fun cdv A outer s H vs Q E hr h => ⟨?t, ?d, ?r⟩)
  · obtain ⟨p, l, xs, rfl, _⟩ := h
    rfl
  case d =>
    have nd := scPick.nd
    have isk : IsK K := ⟨trivial⟩
    walk_at "gd ss"
  case r =>
    obtain ⟨p, l, xs, rfl, hp, ne, hl, h0, h1, k⟩ := h
    have pos : 0 < xs.length := List.length_pos_iff.mpr h0
    refine ⟨_, rfl, _, rfl, _, rfl, .inl ⟨l, xs, rfl, .inl hl, p, xs.length, rfl, hp, by omega, by omega, fun d H' d0 d1 kp => ?_⟩⟩
    have hd : d.toNat < xs.length := by omega
    refine .inl ⟨l, xs, d, xs[d.toNat], rfl, rfl, kp.seq ne hl, ?_, k _ _ (List.getElem_mem _) kp⟩
    exact atI_int d0 (List.getElem?_eq_getElem hd)
theorem cube {z : Int} (h0 : 0 ≤ z) (h1 : z ≤ 300) : (z ^ 3).natAbs < 2 ^ 80 := by
  rw [Int.natAbs_pow]
  exact Nat.lt_of_le_of_lt (Nat.pow_le_pow_left (show z.natAbs ≤ 300 by omega) 3) (by decide)
theorem ok_pot (fr : Frees mg) (F : Fun K "_law_pot" "_law_pot" sPot f fd) : FnOk P w K mg base CX0 1 f fd ["_law_script", "_law_k"] (spPot K) := by
  refine F.ok scPot (fun vs H Q E h => ?_) (fun cdv A outer s H vs Q E hr h => ⟨?t, ?d, ?r⟩)
  · obtain ⟨a, ns, k, rfl, _⟩ := h
    rfl
  case d =>
    have nd := scPot.nd
    have isk : IsK K := ⟨trivial⟩
    walk_at "gd ss"
  case r =>
    obtain ⟨a, ns, k, rfl, hs, k0, k1, q⟩ := h
    have tail : ∀ (c : Int) (p : Addr), H p = none → Q (.ref p) (upd H p (.lst [.int (if c - 10 ^ (18 : Int).toNat > 0 then c - 10 ^ (18 : Int).toNat else 0), .int ((c % 2147483549 + 3) * (2 * k + 5) ^ (3 : Int).toNat % 2147483477 + 1)])) := by
      intro c p hp
      have m0 := Int.emod_nonneg ((c % 2147483549 + 3) * (2 * k + 5) ^ (3 : Int).toNat) (b := 2147483477) (by decide)
      have m1 := Int.emod_lt_of_pos ((c % 2147483549 + 3) * (2 * k + 5) ^ (3 : Int).toNat) (b := 2147483477) (by decide)
      refine q p _ hp (fun b o e => by rw [upd_ne (ne_of_none e hp)]; exact e) ⟨_, _, upd_same, ?_, by omega, by omega⟩
      split <;> omega
    have rest : ∀ c : Int, CMulW (c % 2147483549 + 3) ((2 * k + 5) ^ (3 : Int).toNat) := fun c => by
      have m0 := Int.emod_nonneg c (b := 2147483549) (by decide)
      have m1 := Int.emod_lt_of_pos c (b := 2147483549) (by decide)
      exact mulW (by omega) (cube (by omega) (by omega))
    refine ⟨_, rfl, .inl ⟨13, k, rfl, rfl, mulW (by decide) (by omega), .inl ⟨_, 7, rfl, rfl, _, rfl, _, rfl, .inl ⟨a, _, rfl, .inl hs, k, _, rfl, rfl, _, rfl, ite2 (fun c => ?_) (fun c => ?_)⟩⟩⟩⟩
    · have hk : k.toNat < ns.length := by
        have c' := of_decide_eq_true c
        rw [List.length_map] at c'
        omega
      refine ⟨_, rfl, _, rfl, .inl ⟨a, _, k, .int (ns[k.toNat]), rfl, rfl, hs, ?_, _, rfl, ?_⟩⟩
      · exact atI_int k0 (by rw [List.getElem?_map, List.getElem?_eq_getElem hk]; rfl)
      · refine ⟨_, rfl, 10, 18, rfl, rfl, ⟨by decide, by decide, by decide⟩, _, _, rfl, rfl, 0, _, rfl, _, rfl, .inl ⟨_, rfl, _, 2147483549, rfl, rfl, (by show (0 : Int) < _; decide), .inl ⟨_, 3, rfl, rfl, .inl ⟨_, rfl, _, rfl, .inl ⟨2, k, rfl, rfl, mulW (by decide) (by omega), .inl ⟨_, 5, rfl, rfl, _, 3, rfl, rfl, ⟨by decide, by decide, by omega⟩, .inl ⟨_, _, rfl, rfl, rest _, _, 2147483477, rfl, rfl, (by show (0 : Int) < _; decide), .inl ⟨_, 1, rfl, rfl, (by show 2 ≤ sizeLine; decide), fun p hp => tail _ p hp⟩⟩⟩⟩⟩⟩⟩⟩
    · refine ⟨_, rfl, 10, 18, rfl, rfl, ⟨by decide, by decide, by decide⟩, _, _, rfl, rfl, 0, _, rfl, _, rfl, .inl ⟨_, rfl, _, 2147483549, rfl, rfl, (by show (0 : Int) < _; decide), .inl ⟨_, 3, rfl, rfl, .inl ⟨_, rfl, _, rfl, .inl ⟨2, k, rfl, rfl, mulW (by decide) (by omega), .inl ⟨_, 5, rfl, rfl, _, 3, rfl, rfl, ⟨by decide, by decide, by omega⟩, .inl ⟨_, _, rfl, rfl, rest _, _, 2147483477, rfl, rfl, (by show (0 : Int) < _; decide), .inl ⟨_, 1, rfl, rfl, (by show 2 ≤ sizeLine; decide), fun p hp => tail _ p hp⟩⟩⟩⟩⟩⟩⟩⟩
/-! ### lowest -/
theorem low_num' {n d : Int} (h : 0 < d) : n / ((n.natAbs.gcd d.natAbs : Nat) : Int) = (Rat.divInt n d).num := by
  have e := low_num n d (by omega)
  rw [if_neg (by omega)] at e
  rw [← e, Int.fdiv_eq_ediv_of_nonneg _ (by omega)]
theorem low_den' {n d : Int} (h : 0 < d) : d / ((n.natAbs.gcd d.natAbs : Nat) : Int) = ((Rat.divInt n d).den : Int) := by
  have e := Am.low_den n d (by omega)
  rw [if_neg (by omega)] at e
  rw [← e, Int.fdiv_eq_ediv_of_nonneg _ (by omega)]
/-- at t the pair of q -/
def Pt (K : W.Frag) (H : Hp) (t : Addr) (q : Rat) : Prop := SqT K H t [.int q.num, .int q.den]
/-- a new pair -/
def NewP (H : Hp) (Q : VK) (q : Rat) : Prop := ∀ (t : Addr) (H' : Hp), Am.Ext H H' → H t = none → H' t = some (.tup [.int q.num, .int q.den]) → Q (.ref t) H'
theorem NewP.here {H : Hp} {Q : VK} {q : Rat} (h : NewP H Q q) {n d : Int} (hn : n = q.num) (hd : d = q.den) : ∀ t, H t = none → Q (.ref t) (upd H t (.tup [.int n, .int d])) := by
  intro t ht
  subst hn hd
  exact h t _ (Am.Ext.new ht) ht upd_same
def spLow : Sp := fun vs H Q _ => ∃ n d : Int, vs = [.int n, .int d] ∧ 0 < d ∧ n.natAbs < 2 ^ 8000 ∧ d.natAbs < 2 ^ 8000 ∧ NewP H Q (Rat.divInt n d)
abbrev nLow : List Str := ["_law_high", "_law_low", "_law_big", "_law_small"]
theorem scLow : FnScope nLow ["_law_high", "_law_low"] (defScope (top 55)) := ⟨rfl, rfl, rfl, by decide +kernel, rfl, by decide +kernel, by decide +kernel⟩
def msr (σ : L2.St) : Nat := match σ[3]? with
  | some (some (V.int s)) => s.toNat
  | _ => 0
theorem ok_low (fr : Frees mg) (F : Fun K "_law_lowest" "_law_lowest" (top 55) f fd) : FnOk P w K mg base CX0 1 f fd ["_law_high", "_law_low"] spLow := by
  refine F.ok scLow (fun vs H Q E h => ?_) (fun cdv A outer s H vs Q E hr h => ?_)
  · obtain ⟨n, d, rfl, _⟩ := h
    rfl
  · obtain ⟨n, d, rfl, d0, hn, hd, q⟩ := h
    have nd := scLow.nd
    refine ⟨_, pss_cons (ps_par (i := 2) (j := 3) rfl nd rfl rfl (by decide) rfl rfl (pa_cons (pe_callB call_abs rfl (fr.h _ (by decide +kernel)) (by decide +kernel) (pa_cons (pv 0) pa_nil)) (pa_cons (pv 1) pa_nil)) (by rfl))
      (pss_cons (ps_while PassesOwn.never (pt_cmpR op_gt (pv 3) pe_int (nomark _)) (pss_one (ps_par (i := 2) (j := 3) rfl nd rfl rfl (by decide) rfl rfl (pa_cons (pv 3) (pa_cons (pe_op op_mod (pv 2) (pv 3)) pa_nil)) (by rfl))))
      (pss_one (ps_ret (pe_tup (pa_cons (pe_op op_fdivW (pv 0) (pv 2)) (pa_cons (pe_op op_fdivW (pv 1) (pv 2)) pa_nil)))))), ?_⟩
    refine ⟨_, rfl, n, rfl, _, rfl, _, _, rfl, ?_⟩
    refine while_by (fun σ H' => H' = H ∧ ∃ B S : Nat, σ = [some (.int n), some (.int d), some (.int B), some (.int S)] ∧ B.gcd S = n.natAbs.gcd d.natAbs) (fun σ _ => msr σ) ?_ ?_ ?_
    · refine ⟨rfl, n.natAbs, d.natAbs, ?_, rfl⟩
      have e1 : (if n < 0 then -n else n) = ((n.natAbs : Nat) : Int) := by split <;> omega
      have e2 : d = ((d.natAbs : Nat) : Int) := by omega
      show [some (V.int n), some (V.int d), some (V.int (if n < 0 then -n else n)), some (V.int d)] = _
      rw [e1, ← e2]
    · rintro σ H' ⟨rfl, B, S, rfl, hg⟩
      refine ⟨_, rfl, _, _, rfl, rfl, _, rfl, ite2 (fun h => ?_) (fun h => ?_)⟩
      · have s0 : (0 : Int) < S := by simpa using h
        refine ⟨_, rfl, _, rfl, _, rfl, _, _, rfl, rfl, s0, _, _, rfl, ⟨rfl, S, B % S, ?_, ?_⟩, ?_⟩
        · show [some (V.int n), some (V.int d), some (V.int S), some (V.int ((B : Int) % (S : Int)))] = _
          rw [Int.natCast_emod]
        · rw [← hg, Nat.gcd_comm S, ← Nat.gcd_rec, Nat.gcd_comm]
        · show ((B : Int) % (S : Int)).toNat < (S : Int).toNat
          have := Int.emod_lt_of_pos (B : Int) s0
          have := Int.emod_nonneg (B : Int) (show (S : Int) ≠ 0 by omega)
          omega
      · have s0 : S = 0 := by
          have : ¬ (0 : Int) < S := by simpa using h
          omega
        subst s0
        have hB : B = n.natAbs.gcd d.natAbs := by rw [← hg, Nat.gcd_zero_right]
        have B1 : 0 < B := by
          rw [hB]
          exact Nat.gcd_pos_of_pos_right _ (by omega)
        have B2 : B ≤ d.natAbs := by
          rw [hB]
          exact Nat.gcd_le_right _ (by omega)
        have cw : ∀ x : Int, CDivW x (B : Int) := fun x => ⟨by omega, bits (n := 8000) (by rw [Int.natAbs_natCast]; omega) (by decide)⟩
        refine ⟨_, rfl, _, rfl, _, _, rfl, rfl, cw _, _, rfl, _, rfl, _, _, rfl, rfl, cw _, (by show 2 ≤ sizeLine; decide), ?_⟩
        exact q.here (by rw [hB]; exact low_num' d0) (by rw [hB]; exact low_den' d0)
    · rintro σ H Q Q' h ⟨v, e, i, j, e1, e2, b, e3, z⟩
      exact ⟨v, e, i, j, e1, e2, b, e3, h _ _ z⟩
end
end KA

set_option Elab.async false
set_option linter.all false
set_option maxRecDepth 100000
set_option maxHeartbeats 1000000
set_option exponentiation.threshold 20000
namespace KA
open PySem PySem.Spec PyProof.Rows L2 Oo Gd Am
section
variable {P : Program} {w : World} {K : W.Frag} {mg : Str → Option Value} {base : Heap} {f : Addr} {fd : FuncData}
theorem rd0 {H : Hp} {Q : VK} {t : Addr} {a b : V} (h : SqT K H t [a, b]) (z : Q a H) : rIxT K (.ref t) (.int 0) H Q := ⟨t, _, 0, _, rfl, rfl, h, rfl, z⟩
theorem rd1 {H : Hp} {Q : VK} {t : Addr} {a b : V} (h : SqT K H t [a, b]) (z : Q b H) : rIxT K (.ref t) (.int 1) H Q := ⟨t, _, 1, _, rfl, rfl, h, rfl, z⟩
theorem Pt.ext {H H' : Hp} {t : Addr} {q : Rat} (h : Pt K H t q) (e : Am.Ext H H') : Pt K H' t q := by
  rcases h with (h | ⟨o, h⟩) | h
  · exact .inl (.inl (e _ _ h))
  · exact .inl (.inr ⟨o, e _ _ h⟩)
  · exact .inr h
theorem Pt.of {H : Hp} {t : Addr} {q : Rat} (h : H t = some (.tup [.int q.num, .int q.den])) : Pt K H t q := SqT.of h
theorem Kp.pt {p : Addr} {H H' : Hp} {t : Addr} {q : Rat} (k : Kp p H H') (n : t ≠ p) (h : Pt K H t q) : Pt K H' t q := by
  rcases h with (h | ⟨o, h⟩) | h
  · exact .inl (.inl (k.1 _ _ n h))
  · exact .inl (.inr ⟨o, k.1 _ _ n h⟩)
  · exact .inr h
abbrev DnD (P : Program) (w : World) (K : W.Frag) (mg : Str → Option Value) (base : Heap) : Prop := Dn P w K mg base CX0 1 "_law_draw" ["_law_pot_here", "_law_sides"] spDraw11
abbrev DnP (P : Program) (w : World) (K : W.Frag) (mg : Str → Option Value) (base : Heap) : Prop := Dn P w K mg base CX0 2 "_law_pick" ["_law_pot_here", "_law_some_here"] (spPick K)
abbrev DnL (P : Program) (w : World) (K : W.Frag) (mg : Str → Option Value) (base : Heap) : Prop := Dn P w K mg base CX0 1 "_law_lowest" ["_law_high", "_law_low"] spLow
/-! ### great -/
def spGreat : Sp := fun vs H Q _ => ∃ p : Addr, vs = [.ref p] ∧ Pot H p ∧ ∀ (n : Int) (H' : Hp), 0 < n → n < 2 ^ 112 → Kp p H H' → Q (.int n) H'
/-! ### part -/
def spPart (K : W.Frag) : Sp := fun vs H Q _ => ∃ p : Addr, vs = [.ref p] ∧ Pot H p ∧ ∀ (t : Addr) (q : Rat) (H' : Hp), H t = none → t ≠ p → H' t = some (.tup [.int q.num, .int q.den]) → Low 112 q → Kp p H H' → Q (.ref t) H'
/-! ### sum, less, times, parted -/
def spPair (K : W.Frag) (g : Rat → Rat → Rat) : Sp := fun vs H Q _ => ∃ t u q p, vs = [.ref t, .ref u] ∧ Pt K H t q ∧ Pt K H u p ∧ Low 3900 q ∧ Low 3900 p ∧ NewP H Q (g q p)
theorem low39 {q p : Rat} (h : Low 3900 q) (h' : Low 3900 p) : (q.num * (p.den : Int)).natAbs < 2 ^ 7800 := mul_bits h.1 (KA.low_den h')
theorem den39 {q p : Rat} (h : Low 3900 q) (h' : Low 3900 p) : ((q.den : Int) * (p.den : Int)).natAbs < 2 ^ 7800 := mul_bits (KA.low_den h) (KA.low_den h')
theorem den_pos (q : Rat) : (0 : Int) < q.den := by
  have := q.den_pos
  omega
end
end KA

set_option Elab.async false
set_option linter.all false
set_option maxRecDepth 100000
set_option maxHeartbeats 1000000
set_option exponentiation.threshold 20000
/-! repr of a pair of NUMBERS. -/
namespace Am
open PySem PySem.Spec PyProof.Rows L2 Oo
section
variable {prog : Program} {w : World} {A : Around} {E : Value → Shared → Prop} {s : Shared} {K : W.Frag} {x C f : Addr} {ox : Obj} {od : Option Obj}
/-- an own __repr__, under a repr -/
theorem own_under {b : Nat} {Q : Str → Shared → Prop} (hb : b ≤ sizeLine) (hu : A.units < cLine) (X : K.In s.heap) (I : W.InstAt s.heap x ox C od) (hs : W.findIn K (.ref C) "__repr__" = some (some (.ref f))) (hf : W.isFn K (.ref f) = true)
    (h : wpAny (model prog w) A (call (.ref f) [.ref x]) (fun v s' => ∃ y u, v = .str y u ∧ Q y s') E s) : wpAny (model prog w) A (pyReprUnder b (.ref x)) Q E s := by
  refine wpAny_pyReprUnder_ref hb ?_
  unfold pyReprObjUnder pyReprObjBy
  refine wpAny_bind (wpAny_cRoomFor hu ?_)
  have L1 : W.Looks (model prog w) s.heap (specialOf (.ref x) (Str.ofString "__repr__")) (some (.ref f)) := by
    unfold specialOf
    exact I.type.andThen (f := fun t => typeLookup t (Str.ofString "__repr__")) (W.looks_findIn X hs)
  refine wpAny_bind (L1.here ?_)
  refine W.KFB.if_not rfl ?_
  refine wpAny_bind ?_
  have back : ∀ (v : Value) (s' : Shared), (∃ y u, v = .str y u ∧ Q y s') → wpAny (model prog w) A (do if ← isInstance v (.type "str") then pure v else raiseError "TypeError" s!"__repr__ returned non-string (type {← typeNameOf v})") (fun v s' => ∃ y u, v = .str y u ∧ Q y s') E s' := by
    rintro v s' ⟨y, u, rfl, q⟩
    exact wpAny_bind (wpAny_isInstance (T := "str") (b := true) rfl isSubtype_str_str (wpAny_pure ⟨y, u, rfl, q⟩))
  have fin : wpAny (model prog w) A (call (.ref f) [.ref x] >>= fun v => pure (some v)) (fun r s' => ∃ v, r = some v ∧ ∃ y u, v = .str y u ∧ Q y s') E s :=
    wpAny_bind (wpAny_mono h (fun v s' hv => wpAny_pure ⟨v, rfl, hv⟩) fun _ _ z => z)
  simp only [callSpecialIfBoundBy?, bindSpecialIfBound?]
  refine wpAny_holding (wpAny_bind (wpAny_bind (wpAny_bind (I.type.here ((W.looks_findIn X hs).here ?_)))))
  refine wpAny_bind (wpAny_askSetting (wpAny_ite ?_))
  split
  · exact wpAny_bind ((W.bind_fn X _ (beq_iff_eq.mp hf)).here (wpAny_pure (wpAny_mono fin (fun r s' ⟨v, er, hv⟩ => by subst er; exact back v s' hv) fun _ _ z => z)))
  · exact wpAny_tryCatch (wpAny_bind ((W.bind_fn X _ (beq_iff_eq.mp hf)).here (wpAny_pure (wpAny_mono fin (fun r s' ⟨v, er, hv⟩ => by subst er; exact back v s' hv) fun _ _ z => z))))
/-- where the items of a tuple are written -/
abbrev inTup (A : Around) (a : Addr) : Around := A.in1.under (.builtin "tuple.__repr__" ⟨[.ref a], []⟩)
theorem tup2 {a : Addr} {o : Obj} {u v : Value} {n : Nat} {t1 t2 : Str} {Q : Value → Shared → Prop} (ho : s.heap.get? a = some o) (hc : o.cls = .type "tuple") (hd : o.data = .seq #[u, v] n) (hg : A.guards = some []) (hu : A.units + 1 < cLine)
    (hz : (tupleText [t1, t2]).length ≤ sizeLine)
    (h : wpAny (model prog w) (inTup A a) (pyReprUnder 1 u) (fun r s1 => r = t1 ∧ wpAny (model prog w) (inTup A a) (pyReprUnder (0 + (t1.length + 2) + 1) v) (fun r s2 => r = t2 ∧ ∀ y, Q (.str (tupleText [t1, t2]) y) { s2 with toks := s2.toks + 1 }) E s1) E s) :
    wpAny (model prog w) A (call (.builtin "repr") [.ref a]) Q E s := by
  refine Gd.repr_slot (T := "tuple") ⟨o, ho, hc⟩ F.slot_tuple_repr hu ?_
  have body : wpOwn (model prog w) A.in1 (.builtin "tuple.__repr__" ⟨[Value.ref a], []⟩) (Builtin.tupleReprAt 0 ⟨[Value.ref a], []⟩) (fun fin s' => match fin with
      | .done fl => callEnd (fun r s' => (∃ x u, r = Value.str x u) ∧ Q r s') E (.ok fl) s'
      | .again c' => c'.quiet = true ∧ codeAny (model prog w) A.in1 c' (callEnd (fun r s' => (∃ x u, r = Value.str x u) ∧ Q r s') E) s') (fun e s' => callEnd (fun r s' => (∃ x u, r = Value.str x u) ∧ Q r s') E (.error e) s') s := by
    rw [tuple_repr_tree, tupleReprUnderWay_eq]
    refine wpOwn_bind (wpOwn_stackTailAny (g := []) hg (tupGuardF_off _) (tupGuardF_pos _) ?_)
    refine wpOwn_of_wpAny (show wpAny _ _ (tupleReprRest 0 (.ref a)) _ _ s from ?_)
    unfold tupleReprRest Builtin.Tuple.tupleItemsOf
    refine wpAny_bind (wpAny_bind (wpAny_seqItems ho hd (wpAny_pure ?_)))
    rw [← Array.forIn_toList, show (#[u, v] : Array Value).toList = [u, v] from rfl]
    refine wpAny_bind ?_
    rw [List.forIn_cons]
    refine wpAny_bind (wpAny_bind (wpAny_mono h (fun r s1 hr => wpAny_pure ?_) fun _ _ z => z))
    obtain ⟨e1, h2⟩ := hr
    subst e1
    show wpAny _ _ (forIn [v] _ _) _ _ s1
    rw [List.forIn_cons]
    refine wpAny_bind (wpAny_bind (wpAny_mono h2 (fun r s2 hr => wpAny_pure ?_) fun _ _ z => z))
    obtain ⟨e2, h3⟩ := hr
    subst e2
    show wpAny _ _ (forIn [] _ _) _ _ s2
    rw [List.forIn_nil]
    refine wpAny_pure ?_
    exact wpAny_bind (wpAny_mkStr (wpAny_pure ⟨⟨_, _, rfl⟩, h3 _⟩) hz)
  exact wpAny_call (codeAny_call_builtin_own (Code.quiet_builtin _ (by decide +kernel)) F.entry_tuple_repr (F.slot_tuple_repr.check _ _ _ _ _ _ _ _ ⟨o, ho, hc⟩ (F.args_tuple_repr_1 _) body))
end
/-! ### over the layer -/
theorem inTup_room {k : Nat} {A : Around} {a : Addr} (r : Room (k + 2) A) : Room k (inTup A a) :=
  ⟨r.hd, by
    have := r.dp
    have e : (inTup A a).depth = A.depth + 1 := by first | rfl | simp [inTup, Around.under, Code.weight, Code.isCreation, Code.isGuard, Code.isCaller, Code.frames, Code.isFrame, guardIds]
    rw [e]; omega, by
    have := r.un
    have e : (inTup A a).units ≤ A.units + 2 := by
      show A.in1.units + _ ≤ _
      first | exact Nat.le_refl _ | (simp [Code.cUnits, Code.frames, Code.isFrame])
    omega⟩
theorem inTup_env {P : Program} {w : World} {K : W.Frag} {mg : Str → Option Value} {base : Heap} {A : Around} {outer : List Env} {s : Shared} {H : Hp} {a : Addr} (e : Env0 P w K mg base A outer s H) : Env0 P w K mg base (inTup A a) outer s H :=
  ⟨by first | exact e.frames | (simpa [inTup, Around.under, Code.envs, Code.isFrame, pushEnvs] using e.frames), e.mod, e.bs, e.bsz, e.funs, e.frf, e.hok, e.bare⟩
theorem inTup_guards {A : Around} {a : Addr} (hg : A.guards = some []) : ∃ g, (inTup A a).guards = some g := by
  have e : A.in1.guards = some [] := hg
  exact ⟨_, guards_under_guard (isGuard_tuple_repr _) e⟩
/-- the text of a NUMBER's repr -/
def numText (v : V) (q : Rat) : Str := match v with
  | .int i => (toString i : String)
  | _ => shown q
/-- what the class's own repr promises -/
structure Rep (P : Program) (w : World) (K : W.Frag) (mg : Str → Option Value) (base : Heap) (C : Addr) : Prop where
  of : ∃ f fd, W.findIn K (.ref C) "__repr__" = some (some (.ref f)) ∧ W.isFn K (.ref f) = true ∧ FnOk P w K mg base CX0 1 f fd ["self"] (KA.spText C shown) ∧ Binds K fd ["self"] []
section
variable {X : Cx} {C : Addr} {pins : List (Addr × Obj)} {σ : L2.St} {H : Hp} {s : Shared} {k : Nat}
/-- small enough for a repr -/
def SmN (v : V) (q : Rat) : Prop := match v with
  | .int i => i.natAbs.log2 < 1920
  | _ => KA.Low 3000 q
theorem len_of {i : Int} {n : Nat} (hn : 0 < n) (h : i.natAbs < 2 ^ n) : (Str.ofString (toString i)).length ≤ n + 1 := by
  have l : i.natAbs.log2 < n := by
    by_cases z : i.natAbs = 0
    · rw [z]; exact hn
    · exact (Nat.log2_lt z).mpr h
  have e := int_text_length_le (a := i) (k := n) hn l
  rw [PySem.ofString_length]
  exact e
theorem num_len {v : V} {q : Rat} (h : SmN v q) : (numText v q).length ≤ 6100 := by
  have sh : KA.Low 3000 q → (shown q).length ≤ 6100 := fun h => by
    have l1 := len_of (by decide) h.1
    have l2 := len_of (n := 3000) (i := (q.den : Int)) (by decide) (by rw [Int.natAbs_natCast]; exact h.2)
    have k1 : (Str.ofString "Amount(").length = 7 := by decide
    have k2 : (Str.ofString ", ").length = 2 := by decide
    have k3 : (Str.ofString ")").length = 1 := by decide
    rw [shown, emp]
    simp only [strLen_append, k1, k2, k3]
    omega
  cases v with
  | int i =>
    have := int_text_len_1921 (i := i) h
    show (Str.ofString (toString i)).length ≤ 6100
    omega
  | _ => exact sh h
theorem num_under (R : Rep X.prog X.w X.K X.mg X.base C) {a : Addr} {b : Nat} {v : V} {u : Value} {q : Rat} (hr : Room (k + 3) X.A) (hG : Gd.Bare X.A) (I : Inv X pins σ H s) (nv : Num C H v q) (sm : SmN v q) (rv : RelV v u) (hb : b ≤ 10000) :
    wpAny (model X.prog X.w) (inTup X.A a) (pyReprUnder b u) (fun r s1 => r = numText v q ∧ Inv X pins σ H s1) X.xe s := by
  have hR : Room 1 (inTup X.A a) := inTup_room (hr.mono (by omega))
  rcases nv with ⟨i, rfl, _⟩ | ⟨x, rfl, ix⟩
  · obtain ⟨g, hg⟩ := inTup_guards (a := a) hG
    have rk : ReprK X.prog X.w [] s.heap 1 u (toString i : String) := (Gd.Rp.int (H := H) (as := []) (d := 1) i sm).repr I.hok u rv
    have l := num_len (v := .int i) (q := q) sm
    exact rk b (by have := KA.line_ge; show b + (numText (.int i) q).length ≤ sizeLine; omega) _ g _ s _ hg (fun b h => nomatch h) (by have := hR.units; omega) (fun _ _ e => e) fun h' tk kp => ⟨rfl, I.kept kp⟩
  · obtain rfl : u = Value.ref x := rv
    obtain ⟨f, fd, hs, hf, F, bd⟩ := R.of
    obtain ⟨dx, ex⟩ := id ix
    obtain ⟨od, J, _⟩ := inst_at I ex
    refine own_under (by have := KA.line_ge; omega) hR.units0 I.kIn J hs hf ?_
    have lw : KA.Low 8000 q := ⟨Nat.lt_trans sm.1 (by decide), Nat.lt_trans sm.2 (by decide)⟩
    refine wpAny_mono (run_atO (Q := fun z H' => z = .str (shown q) ∧ H' = H) (us := [.ref x]) (ws := [.ref x]) F bd hR (inTup_env I.env0) pass0 I (.cons rfl .nil) ⟨x, q, rfl, ix, lw, rfl, rfl⟩) (fun v s' ⟨z, H', I', rz, ez, eh⟩ => ?_) fun _ _ z => z
    subst ez eh
    obtain ⟨t, rfl⟩ := (show ∃ t, v = Value.str (shown q) t from rz)
    exact ⟨_, _, rfl, rfl, I'⟩
/-- repr of a pair of NUMBERS -/
def rPair (C : Addr) : List V → Hp → VK → Prop := fun vs H Q => ∃ (a : Addr) (x y : V) (q p : Rat), vs = [.ref a] ∧ H a = some (.tup [x, y]) ∧ Num C H x q ∧ Num C H y p ∧ SmN x q ∧ SmN y p ∧ Q (.str (tupleText [numText x q, numText y p])) H
theorem call_reprPair (R : Rep X.prog X.w X.K X.mg X.base C) (hG : Gd.Bare X.A) (hr : Room (k + 3) X.A) : CallR X (.builtin "repr") (rPair C) := by
  intro pins s σ H vs us Q I r h
  obtain ⟨a, x, y, q, p, rfl, ha, nx, ny, sx, sy, z⟩ := h
  obtain ⟨u, rfl, ru⟩ := r.one
  cases (show u = Value.ref a from ru)
  obtain ⟨_, its, rv, o, h1, h2, n, h3⟩ := (show ObjOk X.prog X.w H s.heap a (.tup [x, y]) from I.hok a _ ha)
  obtain ⟨v1, v2, rfl, r1, r2⟩ := vals2 rv
  have l1 := num_len sx
  have l2 := num_len sy
  refine tup2 (t1 := numText x q) (t2 := numText y p) h1 h2 h3 hG (by have := hr.units; omega) ?_ ?_
  · have e := Gd.tupleText_le [numText x q, numText y p]
    have e2 : piled [numText x q, numText y p] = (numText x q).length + 2 + ((numText y p).length + 2 + 0) := by
      rw [piled_cons, piled_cons]
      rfl
    have := KA.line_ge
    omega
  · refine wpAny_mono (num_under R hr hG I nx sx r1 (by decide)) (fun t s1 ⟨e1, I1⟩ => ⟨e1, ?_⟩) fun _ _ z => z
    refine wpAny_mono (num_under R hr hG I1 ny sy r2 (by omega)) (fun t s2 ⟨e2, I2⟩ => ⟨e2, fun tk => ?_⟩) fun _ _ z => z
    exact ⟨.str (tupleText [numText x q, numText y p]), H, I2.tok _, ⟨_, rfl⟩, z⟩
end
end Am

set_option Elab.async false
set_option linter.all false
set_option maxRecDepth 100000
set_option maxHeartbeats 1000000
/-! Methods and staticmethods called by keywords alone. -/
namespace Oo
open PySem PySem.Spec PyProof.Rows L2
def tMethK (C : Addr) (m : Str) (n : Nat) (sp : Sp) (gV : List V → List V → List V) (E : XK) (ta : TE) (tk : TA) : TE := fun σ H Q => ta σ H fun x H1 => ∃ a dx fs, x = .ref a ∧ H1 a = some (.ins C dx fs) ∧ fs.lookup m = none ∧
  tk σ H1 fun zs H2 => zs.length = n ∧ sp (gV [x] zs) H2 Q E
def tSMethK (C : Addr) (n : Nat) (sp : Sp) (gV : List V → List V → List V) (E : XK) (ta : TE) (tk : TA) : TE := fun σ H Q => ta σ H fun x H1 => x = .ref C ∧ tk σ H1 fun zs H2 => zs.length = n ∧ sp (gV [] zs) H2 Q E
section
variable {X : Cx} {CX : CXT} {C f p : Addr} {k : Nat} {sp : Sp} {E : XK} {fd : FuncData} {ps ks : List Str} {o : Expr} {m : Str} {apos pos : Pos} {kws : List Keyword} {ta : TE} {tk : TA} {pl : Sem Bool} {mc : Value} {g : List Value → List Value → List Value} {gV : List V → List V → List V}
theorem pe_methK (he : PE X o ta) (c : Cls X.K C) (hm : Meth X.K C m f) (F : FnOk X.prog X.w X.K X.mg X.base CX k f fd ps sp) (hr : Room k X.A) (hb : KBn X.K fd ps 1 ks g gV) (hx : Passes CX X E) (hkw : PK X kws tk)
    (hall : (backToKw pos (keywordEach kws X.env)).all (·.1.isSome) = true := by rfl) (hks : (backToKw pos (keywordEach kws X.env)).filterMap (·.1) = ks := by rfl)
    (hpl : ((backTo pos (starEach [] X.env)).any (·.1) || (backToKw pos (keywordEach kws X.env)).any (·.1.isNone)) = false := by rfl)
    (ht : eval (.Call (.Attribute o m apos) [] kws pos) X.env = (do
      let ov ← eval o X.env
      standAt apos.atName
      let (f, first) ← holding [ov] (getMethod ov m pl)
      callWith pos f first (backTo pos (starEach [] X.env)) (backToKw pos (keywordEach kws X.env))) := by rfl) : PE X (.Call (.Attribute o m apos) [] kws pos) (tMethK C m ks.length sp gV E ta tk) := by
  refine ⟨fun pins s σ H Q I h => ?_⟩
  refine PySem.W.methodCall_KW (pl := pl) (thn (he.run pins s σ H _ I h) fun u s1 ⟨x, H1, I1, rx, a, dx, fs, ex, ea, l, q⟩ => ?_) ht
  subst ex
  obtain rfl : u = Value.ref a := rx
  refine getmeth_ok I1 ea c hm l ?_
  refine PySem.W.callWith_KW0 (first := [.ref a]) (h₀ := X.base) I1.ok.mod.kin hm.kp hall ?_ hpl
  refine thn (hkw.run pos pins s1 σ H1 _ I1 q) fun ws s2 ⟨zs, H2, I2, rz, l2, q2⟩ => ⟨I2.kIn, ?_⟩
  rw [hks]
  exact run_fnN (us := [.ref a]) (vs := [.ref a]) F hr hb hx I2 (.cons rfl .nil) rz rfl l2 q2
theorem pe_smethK (he : PE X o ta) (r : ClX.CRead X.K C mc) (c : SMet X.K C mc m p f) (F : FnOk X.prog X.w X.K X.mg X.base CX k f fd ps sp) (hr : Room k X.A) (hb : KBn X.K fd ps 0 ks g gV) (hx : Passes CX X E) (hkw : PK X kws tk)
    (hall : (backToKw pos (keywordEach kws X.env)).all (·.1.isSome) = true := by rfl) (hks : (backToKw pos (keywordEach kws X.env)).filterMap (·.1) = ks := by rfl)
    (hpl : ((backTo pos (starEach [] X.env)).any (·.1) || (backToKw pos (keywordEach kws X.env)).any (·.1.isNone)) = false := by rfl)
    (ht : eval (.Call (.Attribute o m apos) [] kws pos) X.env = (do
      let ov ← eval o X.env
      standAt apos.atName
      let (f, first) ← holding [ov] (getMethod ov m pl)
      callWith pos f first (backTo pos (starEach [] X.env)) (backToKw pos (keywordEach kws X.env))) := by rfl) : PE X (.Call (.Attribute o m apos) [] kws pos) (tSMethK C ks.length sp gV E ta tk) := by
  refine ⟨fun pins s σ H Q I h => ?_⟩
  refine PySem.W.methodCall_KW (pl := pl) (thn (he.run pins s σ H _ I h) fun u s1 ⟨x, H1, I1, rx, ex, q⟩ => ?_) ht
  subst ex
  obtain rfl : u = Value.ref C := rx
  obtain ⟨rest, hp⟩ := c.rc
  obtain ⟨m1, hF⟩ := I1.fr
  refine PySem.W.method_cls I1.kIn r.ga (PySem.W.cls_sm hF I1.ok.mod.kin c.ty r.rd c.at_ hp rfl ?_)
  have I2 : Inv X pins σ H1 { s1 with toks := s1.toks + 1 } := I1.tok _
  refine PySem.W.callWith_KW0 (first := []) (h₀ := X.base) I2.ok.mod.kin c.kp hall ?_ hpl
  refine thn (hkw.run pos pins _ σ H1 _ I2 q) fun ws s2 ⟨zs, H2, I3, rz, l2, q2⟩ => ⟨I3.kIn, ?_⟩
  rw [hks]
  exact run_fnN (us := []) F hr hb hx I3 .nil rz rfl l2 q2
end
end Oo

set_option Elab.async false
set_option linter.all false
set_option maxRecDepth 100000
set_option maxHeartbeats 1000000
set_option exponentiation.threshold 20000
namespace Am
open PySem PySem.Spec PyProof.Rows L2 Oo
/-- '0' * n -/
def rZero : R2 := fun x y H Q => ∃ n : Int, x = .str "0" ∧ y = .int n ∧ -100000 ≤ n ∧ n ≤ 20 ∧ Q (.str ⟨Array.replicate n.toNat 48⟩) H
theorem zeros : ∀ m : Nat, m ≤ 20 → (List.replicate m (Str.ofString "0").cps).foldl (· ++ ·) #[] = Array.replicate m 48 := by decide +kernel
theorem op_zero {X : Cx} : OpR X (binaryOp .Mult) rZero := fun pins s σ H x y v u Q I rx ry h => by
  obtain ⟨n, rfl, rfl, n0, n1, q⟩ := h
  obtain ⟨t, rfl⟩ := (show ∃ t, v = Value.str "0" t from rx)
  obtain ⟨t', rfl⟩ := (show ∃ t', u = Value.int n t' from ry)
  have l1 : (Str.ofString "0").length = 1 := by decide
  have hn : n.toNat ≤ 20 := by omega
  refine PySem.P.mul_str ?_ ?_ ?_ ?_
  · have h1 : ¬ n < -(2 ^ 63 : Int) := by omega
    have h2 : ¬ n ≥ 2 ^ 63 := by omega
    rw [decide_eq_false h1, decide_eq_false h2]
    rfl
  · intro h1 _
    rw [l1]
    have : (1 : Int) ≤ (2 ^ 63 - 1) / n := by
      rw [Int.le_ediv_iff_mul_le (by omega)]
      omega
    omega
  · intro _ _
    rw [l1, Nat.one_mul]
    show decide (n.toNat > sizeLine) = false
    exact decide_eq_false (by have := KA.line_ge; omega)
  · by_cases h1 : n < 1
    · rw [if_pos h1]
      have e : n.toNat = 0 := by omega
      rw [e] at q
      exact ⟨by decide, .str _, H, I.tok _, ⟨_, rfl⟩, q⟩
    · rw [if_neg h1]
      by_cases h2 : (n == 1 || (Str.ofString "0").length == 0) = true
      · rw [if_pos h2]
        have e : n = 1 := by
          rw [l1] at h2
          simpa using h2
        subst e
        exact ⟨.str _, H, I, ⟨_, rfl⟩, q⟩
      · rw [if_neg h2]
        rw [← zeros _ hn] at q
        refine ⟨?_, .str _, H, I.tok _, ⟨_, rfl⟩, q⟩
        rw [zeros _ hn]
        show (Array.replicate n.toNat 48).size ≤ sizeLine
        rw [Array.size_replicate]
        have := KA.line_ge
        omega
theorem zf_app (k : Nat) (x : Str) : (⟨Array.replicate ((k : Int) + 1 - (x.length : Int)).toNat 48⟩ : Str) ++ x = zf x (k + 1) := by
  have e : ((k : Int) + 1 - (x.length : Int)).toNat = k + 1 - x.length := by omega
  rw [e]
  rfl
/-- Amount(bottom = .., top = ..) -/
structure BaseK (P : Program) (w : World) (K : W.Frag) (mg : Str → Option Value) (base : Heap) (C : Addr) : Prop where
  mgA : mg "Amount" = some (.ref C)
  make : ∃ fI fd, Mk K C fI ∧ FnOk P w K mg base CX0 2 fI fd ["self", "top", "bottom"] (spInit C) ∧ KBn K fd ["self", "top", "bottom"] 1 [("bottom" : Str), "top"] (fun us ws => us ++ ws.reverse) (fun us ws => us ++ ws.reverse)
def tMkK (C : Addr) (t : TA) : TE := fun σ H Q => t σ H fun vs H1 => ∃ n d : Int, vs = [.int d, .int n] ∧ d ≠ 0 ∧ n.natAbs < 2 ^ 8999 ∧ d.natAbs < 2 ^ 8999 ∧ New C H1 Q (Rat.divInt n d)
section
variable {X : Cx} {C : Addr} {p pos : Pos} {t : TA} {kws : List Keyword}
theorem pe_mkK (B : BaseK X.prog X.w X.K X.mg X.base C) (hr : Room 3 X.A) (hg : Gl X "Amount") (hkw : PK X kws t) (hall : (backToKw pos (keywordEach kws X.env)).all (·.1.isSome) = true := by rfl) (hks : (backToKw pos (keywordEach kws X.env)).filterMap (·.1) = [("bottom" : Str), "top"] := by rfl)
    (hpl : ((backTo pos (starEach [] X.env)).any (·.1) || (backToKw pos (keywordEach kws X.env)).any (·.1.isNone)) = false := by rfl) : PE X (.Call (.Name "Amount" p) [] kws pos) (tMkK C t) := by
  obtain ⟨fI, fd, M, F, kb⟩ := B.make
  refine ⟨fun pins s σ H Q I h => ?_⟩
  refine wpAny_Call_Name_kw (ld_glob I hg B.mgA ?_ (by decide))
  refine PySem.W.callWith_KW0 (h₀ := X.base) I.ok.mod.kin M.kp hall ?_ hpl
  refine thn (hkw.run pos pins s σ H _ I h) fun ws s2 ⟨zs, H2, I2, rz, n, d, ez, hd, h1, h2, q⟩ => ⟨I2.kIn, ?_⟩
  subst ez
  rw [hks]
  exact run_makeK (n := 0) (us := []) (vs := []) (E := E0) M F hr kb pass0 I2 .nil rz rfl rfl (by simpa using new_made hd rfl h1 h2 q)
end
theorem shown_eq (q : Rat) : shown q = "Amount(" ++ (toString q.num : String) ++ ", " ++ (toString (q.den : Int) : String) ++ (")" : Str) := by
  unfold shown
  rw [emp]
end Am
namespace KA
open PySem PySem.Spec PyProof.Rows L2 Oo Gd Am
section
variable {P : Program} {w : World} {K : W.Frag} {mg : Str → Option Value} {base : Heap} {f C : Addr} {fd : FuncData}
/-! ### floor, shown, written, tens -/
def spFloor (K : W.Frag) : Sp := fun vs H Q _ => ∃ (t : Addr) (n d : Int), vs = [.ref t] ∧ SqT K H t [.int n, .int d] ∧ 0 < d ∧ d.natAbs < 2 ^ 8000 ∧ Q (.int (n / d)) H
def spTxt (K : W.Frag) (g : Rat → Str) : Sp := fun vs H Q _ => ∃ t q, vs = [.ref t] ∧ Pt K H t q ∧ Low 8000 q ∧ Q (.str (g q)) H
def spTens : Sp := fun vs H Q _ => ∃ k : Nat, vs = [.int k] ∧ k ≤ 12 ∧ Q (.int (10 ^ k)) H
/-! ### decimal -/
abbrev nDec : List Str := ["_law_part_here", "_law_size", "_law_count", "_law_digits", "_law_mark", "_law_cut"]
def spDec (K : W.Frag) : Sp := fun vs H Q _ => ∃ (t : Addr) (q : Rat) (k : Nat), vs = [.ref t, .int k] ∧ Pt K H t q ∧ Low 3900 q ∧ k ≤ 12 ∧ ∀ H', Am.Ext H H' → Q (.str (dec q k)) H'
end
end KA

set_option Elab.async false
set_option linter.all false
set_option maxRecDepth 100000
set_option maxHeartbeats 1000000
set_option exponentiation.threshold 20000
namespace KA
open PySem PySem.Spec PyProof.Rows L2 Oo Gd Am
section
variable {P : Program} {w : World} {K : W.Frag} {mg : Str → Option Value} {base : Heap} {f C : Addr} {fd : FuncData}
theorem Kp.ext {p : Addr} {H H' : Hp} (hp : Pot H p) (e : Am.Ext H H') : Kp p H H' := ⟨fun b o _ h => e b o h, by
  obtain ⟨a, b, h, r⟩ := hp
  exact ⟨a, b, e _ _ h, r⟩⟩
theorem Is.kp {p a : Addr} {H H' : Hp} {q : Rat} (k : Kp p H H') (hp : Pot H p) (h : Is C H a q) : Is C H' a q := by
  obtain ⟨dx, e⟩ := h
  obtain ⟨x, y, hl, _⟩ := hp
  exact ⟨dx, k.1 _ _ (fun z => by subst z; rw [hl] at e; cases e) e⟩
theorem Num.kp {p : Addr} {H H' : Hp} {v : V} {q : Rat} (k : Kp p H H') (hp : Pot H p) (h : Num C H v q) : Num C H' v q := h.imp (fun z => z) fun ⟨a, e, i⟩ => ⟨a, e, Is.kp k hp i⟩
theorem scale (q : Rat) {m : Int} (h : m ≠ 0) : Rat.divInt (q.num * m) ((q.den : Int) * m) = q := by
  rw [Rat.divInt_mul_right h, Rat.num_divInt_den]
theorem int_of {q : Rat} (h : (q.den : Int) = 1) : q = (q.num : Rat) := Rat.ext rfl (by
  show q.den = 1
  omega)
def spMade (K : W.Frag) (C : Addr) : Sp := fun vs H Q _ => ∃ p t q b, vs = [.ref p, .ref t, .bl b] ∧ Pot H p ∧ t ≠ p ∧ Pt K H t q ∧ Low 112 q ∧ ∀ v H', Num C H' v q → (b = false → ∃ a, v = .ref a) → Kp p H H' → Q v H'
abbrev nMade : List Str := ["_law_pot_here", "_law_part_here", "_law_is_plain", "_law_by"]
end
end KA

set_option Elab.async false
set_option linter.all false
set_option maxRecDepth 100000
set_option maxHeartbeats 1000000
/-! == and != of Amounts. -/
namespace Am
open PySem PySem.Spec PyProof.Rows L2 Oo
/-- the class's own ==; != is that of object -/
structure EqF (P : Program) (w : World) (K : W.Frag) (mg : Str → Option Value) (base : Heap) (C : Addr) : Prop where
  of : ∃ f fd, W.findIn K (.ref C) "__eq__" = some (some (.ref f)) ∧ W.isFn K (.ref f) = true ∧ FnOk P w K mg base CX0 1 f fd ["self", "other"] (KA.spEq C) ∧ Binds K fd ["self", "other"] [] ∧
    ∃ B bm, CmpFacts B bm ∧ ∀ (h : Heap) (x dx : Addr), K.In h → h.get? x = some (W.instObj C dx) → h.OwnEqNoNe x C f B bm
def rEqO (C : Addr) (g : Bool → Bool) : R2 := fun x y H Q => ∃ a b q p, x = .ref a ∧ y = .ref b ∧ Is C H a q ∧ Is C H b p ∧ Q (.bl (g (decide (q = p)))) H
section
variable {X : Cx} {C : Addr} {k : Nat}
theorem op_eqO (T : EqF X.prog X.w X.K X.mg X.base C) (hr : Room (k + 2) X.A) : OpR X (compareOp .Eq) (rEqO C fun b => b) := fun pins s σ H x y v u Q I rx ry h => by
  obtain ⟨a, b, q, p, rfl, rfl, ia, ib, z⟩ := h
  cases (show v = Value.ref a from rx)
  cases (show u = Value.ref b from ry)
  obtain ⟨f, fd, hs, hf, F, bd, _⟩ := T.of
  obtain ⟨dx, ea⟩ := id ia
  obtain ⟨dy, eb⟩ := id ib
  obtain ⟨od, J, _⟩ := inst_at I ea
  obtain ⟨oe, J2, _⟩ := inst_at I eb
  obtain ⟨m, hF⟩ := I.fr
  refine W.cmp_ofEq (W.cmp_K (op := .Eq) (tb := .ref C) hr.units0 hF I.ok.mod.kin J J2.type ?_ hs hf ?_)
  · unfold W.notFirst
    rw [beq_self_eq_true]
    rfl
  refine wpAny_mono (run_fn (E := E0) (us := [.ref a, .ref b]) (vs := [.ref a, .ref b]) F (hr.mono (by omega)) bd .nil pass0 I (.cons rfl (.cons rfl .nil)) (show KA.spEq C ([V.ref a, V.ref b] ++ []) H Q E0 from ⟨a, b, q, p, rfl, ia, ib, z⟩)) (fun v' s' ⟨z', H', I', rz, qz⟩ => SlX.cmpback rz ⟨z', H', I', rz, qz⟩) fun _ _ z => z
theorem op_neO (T : EqF X.prog X.w X.K X.mg X.base C) (hr : Room (k + 2) X.A) : OpR X (compareOp .NotEq) (rEqO C fun b => !b) := fun pins s σ H x y v u Q I rx ry h => by
  obtain ⟨a, b, q, p, rfl, rfl, ia, ib, z⟩ := h
  cases (show v = Value.ref a from rx)
  cases (show u = Value.ref b from ry)
  obtain ⟨f, fd, hs, hf, F, bd, B, bm, FB, ne⟩ := T.of
  obtain ⟨dx, ea⟩ := id ia
  obtain ⟨dy, eb⟩ := id ib
  obtain ⟨od, J, e1⟩ := inst_at I ea
  obtain ⟨oe, J2, e2⟩ := inst_at I eb
  obtain ⟨hh, gg, d, tt, os⟩ := s
  refine compareOp_ne_ownEq FB (ne hh a dx I.kIn e1) e2 rfl (by have := hr.units; omega) ?_
  refine wpAny_mono (run_atO (Q := fun w' H' => w' = .bl (decide (q = p)) ∧ H' = H) (us := [.ref a, .ref b]) (ws := [.ref a, .ref b]) F bd ((hr.mono (show 2 ≤ k + 2 by omega)).in1) I.env0.in1 pass0 I (.cons rfl (.cons rfl .nil)) ⟨a, b, q, p, rfl, ia, ib, rfl, rfl⟩) (fun v' s' ⟨z', H', I', rz, ez, eh⟩ => ?_) fun _ _ z => z
  subst ez eh
  cases (show v' = Value.bool (decide (q = p)) from rz)
  exact ⟨_, rfl, .bl (!decide (q = p)), _, I', rfl, z⟩
end
end Am

set_option Elab.async false
set_option linter.all false
set_option maxRecDepth 100000
set_option maxHeartbeats 1000000
set_option exponentiation.threshold 20000
namespace KA
open PySem PySem.Spec PyProof.Rows L2 Oo Gd Am
/-! ### sums -/
theorem Low.more {n m : Nat} {q : Rat} (h : Low n q) (l : n ≤ m) : Low m q := ⟨Nat.lt_of_lt_of_le h.1 (Nat.pow_le_pow_right (by decide) l), Nat.lt_of_lt_of_le h.2 (Nat.pow_le_pow_right (by decide) l)⟩
theorem Low.add {n m : Nat} {q p : Rat} (h : Low n q) (h' : Low m p) : Low (n + m + 1) (q + p) := by
  rw [← add_rat]
  obtain ⟨b1, b2⟩ := divInt_le (q.num * (p.den : Int) + p.num * (q.den : Int)) ((q.den : Int) * (p.den : Int)) (den_den q p)
  have t1 : (q.num * (p.den : Int)).natAbs < 2 ^ (n + m) := mul_bits h.1 (KA.low_den h')
  have t2 : (p.num * (q.den : Int)).natAbs < 2 ^ (n + m) := by
    have := mul_bits h'.1 (KA.low_den h)
    rw [Nat.add_comm m n] at this
    exact this
  refine ⟨Nat.lt_of_le_of_lt b1 (add_bits t1 t2), Nat.lt_of_le_of_lt b2 (more_bits (mul_bits (KA.low_den h) (KA.low_den h')) (by omega))⟩
theorem Low.zero (n : Nat) : Low n (0 : Rat) ↔ 1 < 2 ^ n ∨ False := by
  constructor
  · intro h; exact .inl h.2
  · rintro (h | h)
    · exact ⟨by show 0 < _; omega, h⟩
    · exact h.elim
def total (qs : List Rat) : Rat := qs.foldl (· + ·) 0
theorem foldl_add : ∀ (qs : List Rat) (a b : Rat), qs.foldl (· + ·) (a + b) = a + qs.foldl (· + ·) b
  | [], _, _ => rfl
  | q :: r, a, b => by
    show r.foldl (· + ·) (a + b + q) = a + r.foldl (· + ·) (b + q)
    rw [Rat.add_assoc]
    exact foldl_add r a (b + q)
theorem total_cons (q : Rat) (r : List Rat) : total (q :: r) = q + total r := by
  show r.foldl (· + ·) (0 + q) = q + r.foldl (· + ·) 0
  rw [Rat.zero_add]
  have := foldl_add r q 0
  rw [Rat.add_zero] at this
  exact this
theorem total_snoc (r : List Rat) (q : Rat) : total (r ++ [q]) = total r + q := by
  unfold total
  rw [List.foldl_append]
  rfl
theorem total_low : ∀ (qs : List Rat), (∀ q ∈ qs, Low 112 q) → Low (113 * qs.length + 1) (total qs)
  | [], _ => (Low.zero _).mpr (.inl (by decide))
  | q :: r, h => by
    rw [total_cons]
    have a := h q List.mem_cons_self
    have b := total_low r fun x hx => h x (List.mem_cons_of_mem _ hx)
    exact (a.add b).more (by rw [List.length_cons]; omega)
end KA

set_option Elab.async false
set_option linter.all false
set_option maxRecDepth 100000
set_option maxHeartbeats 1000000
set_option exponentiation.threshold 20000
namespace KA
open PySem PySem.Spec PyProof.Rows L2 Oo Gd Am
section
variable {P : Program} {w : World} {K : W.Frag} {mg : Str → Option Value} {base : Heap} {f C : Addr} {fd : FuncData}
/-- the in-place sum, with its promise -/
structure OpI (P : Program) (w : World) (K : W.Frag) (mg : Str → Option Value) (base : Heap) (C : Addr) (nm : String) (k : Nat) (h : Rat → Rat → Rat) : Prop where
  of : ∃ f g fd gd ps qs, OwnBin K C nm f (some g) ∧ NoIn K C nm ∧ FnOk P w K mg base CX0 k f fd ps (spOp C h) ∧ Binds K fd ps [] ∧ FnOk P w K mg base CX0 k g gd qs (spOp C fun q p => h p q) ∧ Binds K gd qs []
theorem op_NN {X : Cx} {op : Operator} {k : Nat} {h : Rat → Rat → Rat} (h5 : Five op) (O : OpI X.prog X.w X.K X.mg X.base C op.info.2 k h) (hr : Room k X.A) : OpR X (binaryOp op) (rN C h) := by
  obtain ⟨f, g, fd, gd, ps, qs, B, N, F, b, G, b2⟩ := O.of
  exact op_N h5 B F b G b2 hr
theorem ip_NN {X : Cx} {op : Operator} {k : Nat} {h : Rat → Rat → Rat} (h5 : Five op) (O : OpI X.prog X.w X.K X.mg X.base C op.info.2 k h) (hr : Room k X.A) : PIp X op (rN C h) := by
  obtain ⟨f, g, fd, gd, ps, qs, B, N, F, b, G, b2⟩ := O.of
  exact fun pins s σ H x y v u Q I rx ry hh => iop_N h5 B N F b G b2 hr pins s σ H x y v u Q I rx ry hh
/-- repr of a NUMBER -/
def rReprN (C : Addr) : List V → Hp → VK → Prop := fun vs H Q => ∃ v q, vs = [v] ∧ Num C H v q ∧ SmN v q ∧ Q (.str (numText v q)) H
theorem call_reprN {X : Cx} {k : Nat} (R : Rep X.prog X.w X.K X.mg X.base C) (hG : Bare X.A) (hr : Room (k + 3) X.A) : CallR X (.builtin "repr") (rReprN C) := fun pins s σ H vs us Q I r h => by
  obtain ⟨v, q, rfl, nv, sm, z⟩ := h
  rcases id nv with ⟨i, rfl, _⟩ | ⟨a, rfl, ia⟩
  · refine call_repr hG hr pins s σ H _ us Q I r ⟨_, [], 1, _, rfl, Gd.Rp.int i sm, by decide, ?_, z⟩
    have := num_len (v := .int i) (q := q) sm
    have := KA.line_ge
    show (numText (.int i) q).length ≤ sizeLine
    omega
  · obtain ⟨f, fd, hs, hf, F, bd⟩ := R.of
    obtain ⟨dx, ea⟩ := id ia
    have lw : Low 8000 q := ⟨Nat.lt_trans sm.1 (by decide), Nat.lt_trans sm.2 (by decide)⟩
    exact call_reprO (E := E0) hs hf F bd (hr.mono (by omega)) pass0 pins s σ H _ us Q I r ⟨a, dx, _, rfl, ea, a, q, rfl, ia, lw, ⟨_, rfl⟩, z⟩
/-! ### lists of values, lists of fractions -/
inductive A2 (R : V → Rat → Prop) : List V → List Rat → Prop
  | nil : A2 R [] []
  | cons {x : V} {q : Rat} {xs : List V} {qs : List Rat} : R x q → A2 R xs qs → A2 R (x :: xs) (q :: qs)
theorem A2.imp {R S : V → Rat → Prop} (f : ∀ x q, R x q → S x q) : ∀ {xs : List V} {qs : List Rat}, A2 R xs qs → A2 S xs qs
  | _, _, .nil => .nil
  | _, _, .cons h t => .cons (f _ _ h) (t.imp f)
theorem A2.len {R : V → Rat → Prop} : ∀ {xs : List V} {qs : List Rat}, A2 R xs qs → xs.length = qs.length
  | _, _, .nil => rfl
  | _, _, .cons _ t => by rw [List.length_cons, List.length_cons, t.len]
theorem A2.app {R : V → Rat → Prop} {ys : List V} {rs : List Rat} (b : A2 R ys rs) : ∀ {xs : List V} {qs : List Rat}, A2 R xs qs → A2 R (xs ++ ys) (qs ++ rs)
  | _, _, .nil => b
  | _, _, .cons h t => .cons h (A2.app b t)
theorem A2.snoc {R : V → Rat → Prop} {xs : List V} {qs : List Rat} {x : V} {q : Rat} (a : A2 R xs qs) (h : R x q) : A2 R (xs ++ [x]) (qs ++ [q]) := A2.app (.cons h .nil) a
theorem A2.rev {R : V → Rat → Prop} : ∀ {xs : List V} {qs : List Rat}, A2 R xs qs → A2 R xs.reverse qs.reverse
  | _, _, .nil => .nil
  | _, _, .cons h t => by
    rw [List.reverse_cons, List.reverse_cons]
    exact A2.snoc t.rev h
theorem A2.get {R : V → Rat → Prop} : ∀ {xs : List V} {qs : List Rat} {i : Nat} {x : V}, A2 R xs qs → xs[i]? = some x → ∃ q, qs[i]? = some q ∧ R x q
  | _, _, i, x, .nil, h => by simp at h
  | _, _, 0, x, .cons h t, e => by
    cases (show some _ = some x from e)
    exact ⟨_, rfl, h⟩
  | _, _, i + 1, x, .cons h t, e => A2.get (i := i) t e
theorem take_get {qs : List Rat} {i : Nat} {q : Rat} (h : qs[i]? = some q) : qs.take (i + 1) = qs.take i ++ [q] := by
  rw [List.take_add_one, h]
  rfl
theorem A2.all {R : V → Rat → Prop} {p : Rat → Prop} (f : ∀ x q, R x q → p q) : ∀ {xs : List V} {qs : List Rat}, A2 R xs qs → ∀ q ∈ qs, p q
  | _, _, .nil, q, h => nomatch h
  | _, _, .cons h t, q, m => by
    rcases List.mem_cons.mp m with rfl | m
    · exact f _ _ h
    · exact A2.all f t q m
theorem total_rev : ∀ (qs : List Rat), total qs.reverse = total qs
  | [] => rfl
  | q :: r => by rw [List.reverse_cons, total_snoc, total_rev r, total_cons, Rat.add_comm]
/-- all but lists stand -/
def Ns (H H' : Hp) : Prop := ∀ b o, (∀ l, o ≠ .lst l) → H b = some o → H' b = some o
theorem Ns.refl (H : Hp) : Ns H H := fun _ _ _ h => h
theorem Ns.trans {H H1 H2 : Hp} (a : Ns H H1) (b : Ns H1 H2) : Ns H H2 := fun c o n h => b c o n (a c o n h)
theorem Kp.ns {p : Addr} {H H' : Hp} (k : Kp p H H') (hp : Pot H p) : Ns H H' := fun b o n h => k.1 b o (fun e => by
  subst e
  obtain ⟨x, y, hl, _⟩ := hp
  rw [hl] at h
  exact n _ (Option.some.inj h).symm) h
theorem Ns.ext {H H' : Hp} (e : Am.Ext H H') : Ns H H' := fun b o _ h => e b o h
theorem Ns.put {H : Hp} {D : Addr} {l : List V} {o : HO} (h : H D = some (.lst l)) : Ns H (upd H D o) := fun b u n e => by
  rw [upd_ne (fun z => by
    subst z
    rw [h] at e
    exact n _ (Option.some.inj e).symm)]
  exact e
def PtR (p : Addr) (H : Hp) (x : V) (q : Rat) : Prop := ∃ t, x = .ref t ∧ t ≠ p ∧ H t = some (.tup [.int q.num, .int q.den]) ∧ Low 112 q
theorem PtR.ns {p : Addr} {H H' : Hp} {x : V} {q : Rat} (h : PtR p H x q) (n : Ns H H') : PtR p H' x q := let ⟨t, e, np, ht, l⟩ := h; ⟨t, e, np, n _ _ (fun _ => HO.noConfusion) ht, l⟩
def NmR (C : Addr) (H : Hp) (x : V) (q : Rat) : Prop := Num C H x q ∧ Low 112 q
theorem Is.ns {H H' : Hp} {a : Addr} {q : Rat} (h : Is C H a q) (n : Ns H H') : Is C H' a q := let ⟨dx, z⟩ := h; ⟨dx, n _ _ (fun _ => HO.noConfusion) z⟩
theorem NmR.ns {H H' : Hp} {x : V} {q : Rat} (h : NmR C H x q) (n : Ns H H') : NmR C H' x q := ⟨h.1.imp (fun z => z) fun ⟨a, e, i⟩ => ⟨a, e, Is.ns i n⟩, h.2⟩
theorem eqd_same {K : W.Frag} {H : Hp} {a b : Addr} {xs : List V} {ds : List PyData} {Q : VK} (ha : SqL K H a xs) (hb : SqL K H b xs) (d : DpAll K H xs ds) (hs : SeqAt.shaped (.list ds) = true) (q : Q (.bl true) H) : rEqD K (.ref a) (.ref b) H Q :=
  ⟨.list ds, .list ds, .lst ha d, .lst hb d, hs, hs, by rw [SeqAt.eqv_refl _ (SeqAt.canLay_of_shaped hs)]; exact q⟩
theorem tl20 {qs : List Rat} (h : ∀ q ∈ qs, Low 112 q) (l : qs.length ≤ 20) : Low 2261 (total qs) := (total_low qs h).more (by omega)
theorem tl_take {qs : List Rat} (h : ∀ q ∈ qs, Low 112 q) (l : qs.length ≤ 20) (i : Nat) : Low 2261 (total (qs.take i)) := tl20 (fun q m => h q (List.mem_of_mem_take m)) (Nat.le_trans (by rw [List.length_take]; exact Nat.min_le_right _ _) l)
/-! ### texts that can be laid -/
theorem sok_of (s : String) : PyData.strOk (Str.ofString s) = true := by
  unfold PyData.strOk
  rw [Str.ofString_eq_toList, Array.all_eq_true_iff_forall_mem]
  intro c hc
  obtain ⟨x, _, rfl⟩ := List.mem_map.mp (List.mem_toArray.mp hc)
  refine decide_eq_true ?_
  have h := x.valid
  show x.val.toNat < 0x110000
  rcases h with h | ⟨_, h⟩
  · have : x.val.toNat < 0xd800 := h
    omega
  · exact h
theorem sok_app {a b : Str} (h : PyData.strOk a = true) (h' : PyData.strOk b = true) : PyData.strOk (a ++ b) = true := by
  unfold PyData.strOk at *
  rw [show (a ++ b).cps = a.cps ++ b.cps from rfl, Array.all_append, h, h']
  rfl
theorem sok_emp : PyData.strOk Str.empty = true := by
  unfold PyData.strOk Str.empty
  rw [Array.all_eq_true_iff_forall_mem]
  intro c hc
  exact absurd hc (Array.not_mem_empty c)
theorem sok_shown (q : Rat) : PyData.strOk (Am.shown q) = true := sok_app (sok_app (sok_app (sok_app (sok_app sok_emp (sok_of _)) (sok_of _)) (sok_of _)) (sok_of _)) (sok_of _)
theorem shaped_strs {xs : List Str} (h : ∀ x ∈ xs, PyData.strOk x = true) : SeqAt.shaped (.list (xs.map .str)) = true := by
  have c : ∀ xs : List Str, (∀ x ∈ xs, PyData.strOk x = true) → PyData.canLayAll0 (xs.map .str) = true := by
    intro xs
    induction xs with
    | nil => intro _; simp only [List.map_nil, PyData.canLayAll0]
    | cons x r ih => intro h; simp only [List.map_cons, PyData.canLayAll0, PyData.canLay0, h x List.mem_cons_self, ih fun y m => h y (List.mem_cons_of_mem _ m), Bool.and_self]
  have d : ∀ xs : List Str, PyData.depthAll (xs.map .str) = 0 := by
    intro xs
    induction xs with
    | nil => simp only [List.map_nil, PyData.depthAll]
    | cons x r ih => simp only [List.map_cons, PyData.depthAll, PyData.depth, ih, Nat.max_self]
  unfold SeqAt.shaped
  simp only [PyData.canLay0, PyData.depth, c xs h, d xs, Bool.true_and]
  decide
theorem dp_strs {K : W.Frag} {H : Hp} : ∀ xs : List Str, DpAll K H (xs.map V.str) (xs.map PyData.str)
  | [] => .nil
  | x :: r => .cons (.str x) (dp_strs r)
abbrev nRow : List Str := ["_law_pot_here", "_law_parts", "_law_made_here", "_law_there", "_law_back", "_law_each", "_law_due", "_law_part_here", "_law_turn"]
abbrev DnS (P : Program) (w : World) (K : W.Frag) (mg : Str → Option Value) (base : Heap) : Prop := Dn P w K mg base CX0 2 "_law_sum" ["_law_left", "_law_right_here"] (spPair K fun q p => q + p)
def spTrue1 : Sp := fun vs H Q _ => ∃ p : Addr, vs = [.ref p] ∧ Pot H p ∧ ∀ H', Kp p H H' → Q (.bl true) H'
end
end KA

set_option Elab.async false
set_option linter.all false
set_option maxRecDepth 100000
set_option maxHeartbeats 4000000
/-! repr of data, told by the units alone (in a suite of except, an error is handled). -/
namespace Gd
open PySem PySem.Spec PyProof.Rows L2
theorem call_reprU {X : Cx} (hG : Bare X.A) (hu : X.A.units + 64 < cLine) : CallR X (.builtin "repr") rRepr := by
  intro pins s σ H vs us Q I r want
  obtain ⟨x, as, d, t, rfl, rp, hd, hz, q⟩ := want
  obtain ⟨u, rfl, ru⟩ := vals1 r

  have fin : ∀ h' u2 tk, (∀ b o, s.heap.get? b = some o → h'.get? b = some o) → EP X pins σ Q (.str t u2) { s with heap := h', toks := tk } := fun h' u2 tk k => ⟨.str t, H, I.kept k, ⟨u2, rfl⟩, q⟩
  cases rp with
  | non =>
    cases ru
    exact PySem.P.repr_of_none (fin s.heap _ _ fun _ _ e => e)
  | bl b =>
    cases ru
    exact PySem.P.repr_of_bool (fin s.heap _ _ fun _ _ e => e)
  | int i z =>
    obtain ⟨tk, rfl⟩ := ru
    exact PySem.P.repr_of_int z (fin s.heap _ _ fun _ _ e => e)
  | str y z =>
    obtain ⟨tk, rfl⟩ := ru
    exact PySem.P.repr_of_str (fin s.heap _ _ fun _ _ e => e) z
  | @lst _ as0 d a xs ts ha na sub nl it =>
    obtain rfl : u = Value.ref a := ru
    obtain ⟨_, its, n, rv, ho⟩ := (show ObjOk X.prog X.w H s.heap a (.lst xs) from I.hok a _ ha)
    have nits := rv.length
    refine repr_slot ⟨_, ho, rfl⟩ F.slot_list_repr.toG (by omega) ?_
    cases its with
    | nil =>
      have e1 : ts = [] := List.length_eq_zero_iff.mp (by rw [nl]; simpa using nits)
      subst e1
      exact PySem.call_list_repr_empty ⟨_, ho, rfl⟩ ho rfl ⟨⟨_, _, rfl⟩, fin s.heap _ _ fun _ _ e => e⟩
    | cons y l =>
      refine PySem.call_list_reprK (g := []) (as := as0) (d := d) (h₀ := s.heap) ho rfl rfl na (by rw [nl, nits]; simp) (fun i z hz => ?_) hG (fun b _ => Clear.nil b) (by show X.A.units + 1 + (d + 1) < cLine; omega) (fun _ _ e => e)
        (fun h' u2 tk k => ⟨⟨_, _, rfl⟩, fin h' u2 tk k⟩) hz
      have hz' : (y :: l)[i]? = some z := by simpa using hz
      have hi : i < xs.length := by
        rw [nits]
        exact (List.getElem?_eq_some_iff.mp hz').1
      obtain ⟨u2, hu2, r2⟩ := rv.get (List.getElem?_eq_getElem hi)
      rw [hz'] at hu2
      cases hu2
      exact ⟨ts[i]'(by omega), List.getElem?_eq_getElem _, (it i _ _ (List.getElem?_eq_getElem hi) (List.getElem?_eq_getElem _)).repr I.hok z r2⟩
  | @tup _ as0 d a xs ts ha na sub nl it =>
    obtain rfl : u = Value.ref a := ru
    have rk := (Rp.tup ha na sub nl it).repr I.hok (.ref a) rfl
    obtain ⟨_, its, rv, o, ho, hc, n, hdt⟩ := (show ObjOk X.prog X.w H s.heap a (.tup xs) from I.hok a _ ha)
    refine repr_slot ⟨_, ho, hc⟩ F.slot_tuple_repr (by omega) ?_
    refine PySem.call_tuple_reprK (g := []) (as := as0) (d := d) (h₀ := s.heap) ho hc hdt na ?_ hG (fun b _ => Clear.nil b) (by show X.A.units + 1 + (d + 1) < cLine; omega) (fun _ _ e => e)
        (fun h' u2 tk k => ⟨⟨_, _, rfl⟩, fin h' u2 tk k⟩) hz
    have all : ∀ (xs : List V) (its : List Value) (ts : List Str), Vals xs its → ts.length = xs.length → (∀ (i : Nat) (x : V) (t : Str), xs[i]? = some x → ts[i]? = some t → ∀ u, RelV x u → ReprK X.prog X.w as0 s.heap d u t) → ReprAllK X.prog X.w as0 s.heap d its ts := by
      intro xs its ts rv
      induction rv generalizing ts with
      | nil =>
        intro e _
        have e1 : ts = [] := List.length_eq_zero_iff.mp (by simpa using e)
        subst e1
        exact .nil
      | cons r1 _ ihh =>
        intro e k
        cases ts with
        | nil => simp at e
        | cons t ts =>
          exact .cons (k 0 _ _ rfl rfl _ r1) (ihh ts (by simpa using e) fun i x t h1 h2 => k (i + 1) x t (by simpa using h1) (by simpa using h2))
    simpa using all xs its ts rv nl fun i x t h1 h2 => (it i x t h1 h2).repr I.hok
  | @dic _ as0 d a kvs ps ha na sub nl ke it =>
    obtain rfl : u = Value.ref a := ru
    obtain ⟨_, hsys, vs, kv, o, es, ep, ho, hx, hdt, _, pr, _⟩ := (show ObjOk X.prog X.w H s.heap a (.dK kvs) from I.hok a _ ha)
    refine repr_slot ⟨_, ho, hx.1⟩ F.slot_dict_repr (by omega) ?_
    refine PySem.call_dict_reprK (g := []) (as := as0) (d := d) (h₀ := s.heap) ho hx.1 hdt hsys na ?_ hG (fun b _ => Clear.nil b) (by show X.A.units + 1 + (d + 1) < cLine; omega) (fun _ _ e => e)
        (fun h' u2 tk k => ⟨⟨_, _, rfl⟩, fin h' u2 tk k⟩) hz
    obtain ⟨n1, n2⟩ := kv_pairs kv pr
    have all : ∀ (l : List DictEntry) (qs : List (Str × Str)), qs.length = l.length → (∀ (i : Nat) (e : DictEntry) (p : Str × Str), l[i]? = some e → qs[i]? = some p → ReprK X.prog X.w as0 s.heap d e.key p.1 ∧ ReprK X.prog X.w as0 s.heap d e.val p.2) →
        ReprEntriesK X.prog X.w as0 s.heap d l (qs.map fun p => p.1 ++ ": " ++ p.2) := by
      intro l
      induction l with
      | nil =>
        intro qs e _
        have e1 : qs = [] := List.length_eq_zero_iff.mp (by simpa using e)
        subst e1
        exact .nil
      | cons e l ihh =>
        intro qs n k
        cases qs with
        | nil => simp at n
        | cons q qs =>
          obtain ⟨k1, k2⟩ := k 0 e q rfl rfl
          exact .cons k1 k2 (ihh qs (by simpa using n) fun i e p h1 h2 => k (i + 1) e p (by simpa using h1) (by simpa using h2))
    refine all es.toList ps (by rw [nl, n1]) fun i e p h1 h2 => ?_
    obtain ⟨q, hq, hk, hv⟩ := n2 i e h1
    exact ⟨keyT_repr (ke i q p hq h2) hk, (it i q p hq h2).repr I.hok _ hv⟩
end Gd

set_option Elab.async false
set_option linter.all false
set_option maxRecDepth 100000
set_option maxHeartbeats 1000000
set_option exponentiation.threshold 20000
namespace KA
open PySem PySem.Spec PyProof.Rows L2 Oo Gd Am
/-- what the text says of the class of DividedByZero, once more -/
structure Zq (K : W.Frag) (mg : Str → Option Value) (Z ZA : Addr) : Prop where
  mgZ : mg "DividedByZero" = some (.ref Z)
  mgA : mg "AmountError" = some (.ref ZA)
  xf : XfC K Z
  no : W.findIn K (.ref Z) "rule" = some none
  ea : Ge.EA K Z
  exm : W.exmOne K (.ref Z) (.ref Z) = some true
  kA : W.kitOne K (.ref Z) (.ref ZA) = some true
  kR : W.kitOne K (.ref Z) (.type "ArithmeticError") = some true
  kV : W.kitOne K (.ref Z) (.type "ValueError") = some false
abbrev nRef : List Str := ["_law_call", "_law_told", "e"]
theorem heldK {X : Cx} {K : W.Frag} {a : Addr} {oe : Obj} {cls : Value} {d : Option Addr} (_ : IsK K) (hp : (a, oe) ∈ X.pn) (z : Zc cls d oe) (hf : ∃ vs, oe.data = .fields vs) (h : X.K = K := by rfl) : CallR X (.builtin "isinstance") (Gx.rHeld K a cls d) := h ▸ Gx.call_held hp z hf
/-- the text of the refusal -/
def toldZ : Str := tupleText ["None", "True", "True", "False"]
/-- told: the error of the class at Z, which tells None -/
def TTref (Z : Addr) : (XK → Hp → VK → Prop) → Hp → VK → Prop := fun tl H Q =>
  ∀ Q', tl (fun cls d H' => cls = .ref Z ∧ ∃ dx, d = some dx ∧ H' dx = some (.xd [("rule", .non)]) ∧ ∀ H2, Am.Ext H' H2 → Q (.str toldZ) H2) H Q'
/-- the state of the frame has its length -/
theorem takes_len {X : Cx} {W : WX} (tk : Takes X W) : Takes X fun cls d σ H => σ.length = X.N.length → W cls d σ H := fun e s' x => by
  obtain ⟨a, B, sI, pins, σ, H, cls, d, he, J, nb, up, sky, na, os, ag, w⟩ := x
  exact tk e s' ⟨a, B, sI, pins, σ, H, cls, d, he, J, nb, up, sky, na, os, ag, w J.len⟩
end KA

set_option Elab.async false
set_option linter.all false
set_option maxRecDepth 100000
set_option maxHeartbeats 1000000
set_option exponentiation.threshold 20000
/-! a fraction rounded to no places is its floor's text. -/
namespace KA
open PySem PySem.Spec PyProof.Rows L2 Oo Gd Am
theorem nat_text_pos (n : Nat) : 1 ≤ (Str.ofString (toString ((n : Nat) : Int))).length := by
  rw [PySem.ofString_length]
  show 1 ≤ (Nat.repr n).length
  rw [Nat.repr, String.length_ofList]
  exact Nat.length_toDigits_pos
theorem zf_one {x : Str} (h : 1 ≤ x.length) : zf x 1 = x := by
  unfold zf
  rw [show 1 - x.length = 0 by omega]
  simp
theorem of_app (a b : String) : Str.ofString (a ++ b) = Str.ofString a ++ Str.ofString b := by
  rw [Str.ofString_eq_toList, Str.ofString_eq_toList, Str.ofString_eq_toList]
  show _ = Str.mk (_ ++ _)
  simp
theorem dec0 (q : Rat) : dec q 0 = Str.ofString (toString (q.num / (q.den : Int))) := by
  unfold dec
  rw [if_pos rfl]
  have e : steps q 0 = q.num / (q.den : Int) := by
    unfold steps
    rw [Int.pow_zero, Int.mul_one]
  rw [e]
  generalize q.num / (q.den : Int) = n
  unfold mark digs
  by_cases h : n < 0
  · rw [if_pos h, if_pos h]
    obtain ⟨m, rfl⟩ : ∃ m : Nat, n = Int.negSucc m := by
      cases n with
      | ofNat m => exact absurd h (Int.not_lt.mpr (Int.natCast_nonneg m))
      | negSucc m => exact ⟨m, rfl⟩
    rw [show -(Int.negSucc m) = ((m + 1 : Nat) : Int) from rfl, zf_one (nat_text_pos (m + 1))]
    rw [← of_app]
    rfl
  · rw [if_neg h, if_neg h]
    obtain ⟨m, rfl⟩ : ∃ m : Nat, n = (m : Int) := ⟨n.toNat, by omega⟩
    rw [zf_one (nat_text_pos m)]
    have e0 : Str.ofString "" = Str.empty := by decide
    rw [e0]
    exact emp _
theorem sign_eq (n : Int) : ((if decide (0 < n) = true then (1 : Int) else 0) - (if decide (n < 0) = true then 1 else 0)) = n.sign := by
  rcases Int.lt_trichotomy n 0 with h | h | h
  · rw [Int.sign_eq_neg_one_of_neg h, if_neg (by simp; omega), if_pos (by simpa using h)]
    rfl
  · subst h
    rfl
  · rw [Int.sign_eq_one_of_pos h, if_pos (by simpa using h), if_neg (by simp; omega)]
    rfl
theorem no_rnd (q : Rat) : (flds q).lookup ("rounded" : Str) = none := by
  show List.lookup ("rounded" : Str) [("_top", V.int q.num), ("_bottom", V.int q.den)] = _
  have n1 : ("rounded" : Str) ≠ "_top" := by decide +kernel
  have n2 : ("rounded" : Str) ≠ "_bottom" := by decide +kernel
  rw [List.lookup_cons, beq_eq_false_iff_ne.mpr n1, List.lookup_cons, beq_eq_false_iff_ne.mpr n2]
  rfl
end KA

set_option Elab.async false
set_option linter.all false
set_option maxRecDepth 100000
set_option maxHeartbeats 1000000
set_option exponentiation.threshold 20000
namespace KA
open PySem PySem.Spec PyProof.Rows L2 Oo Gd Am
/-- a special method of one operand, with its promise -/
structure Una (P : Program) (w : World) (K : W.Frag) (mg : Str → Option Value) (base : Heap) (C : Addr) (nm : Str) (k : Nat) (sp : Sp) : Prop where
  of : ∃ f fd, W.findIn K (.ref C) nm = some (some (.ref f)) ∧ W.isFn K (.ref f) = true ∧ FnOk P w K mg base CX0 k f fd ["self"] sp ∧ Binds K fd ["self"] []
structure Pow (P : Program) (w : World) (K : W.Frag) (mg : Str → Option Value) (base : Heap) (C : Addr) : Prop where
  of : ∃ f g fd ps, OwnBin K C (Operator.Pow).info.2 f g ∧ FnOk P w K mg base CX0 6 f fd ps (spPow C) ∧ Binds K fd ps []
structure Rnd (P : Program) (w : World) (K : W.Frag) (mg : Str → Option Value) (base : Heap) (C : Addr) : Prop where
  of : ∃ f fd, Meth K C "rounded" f ∧ FnOk P w K mg base CX0 3 f fd ["self", "places"] (spRound C) ∧ Binds K fd ["self", "places"] [] ∧ KBn K fd ["self", "places"] 1 [("places" : Str)] (fun us ws => us ++ ws) (fun us ws => us ++ ws)
structure OfK (P : Program) (w : World) (K : W.Frag) (mg : Str → Option Value) (base : Heap) (C : Addr) : Prop where
  of : ∃ mc p g fd, ClX.CRead K C mc ∧ SMet K C mc "of" p g ∧ FnOk P w K mg base CX0 4 g fd ["number"] (spOf C) ∧ KBn K fd ["number"] 0 [("number" : Str)] (fun us ws => us ++ ws) (fun us ws => us ++ ws)
section
variable {X : Cx} {C : Addr} {k : Nat}
def rP (C : Addr) : R2 := fun x y H Q => ∃ a q i, x = .ref a ∧ y = .int i ∧ Is C H a q ∧ Low 330 q ∧ 0 ≤ i ∧ i ≤ 12 ∧ New C H Q (q ^ i.toNat)
theorem op_P (D : Pow X.prog X.w X.K X.mg X.base C) (hr : Room 6 X.A) : OpR X (binaryOp .Pow) (rP C) := fun pins s σ H x y v u Q I rx ry hh => by
  obtain ⟨f, g, fd, ps, B, F, b⟩ := D.of
  obtain ⟨a, q, i, rfl, rfl, ia, lw, h0, h12, z⟩ := hh
  obtain ⟨dx, ea⟩ := id ia
  exact op_left (E := E0) B F b pass0 hr pins s σ H _ _ v u Q I rx ry (.inr (.inl ⟨a, dx, _, i, rfl, rfl, ea, a, q, i, rfl, ia, lw, h0, h12, z⟩))
def rAbs (C : Addr) : List V → Hp → VK → Prop := fun xs H Q => ∃ a q, xs = [V.ref a] ∧ Is C H a q ∧ Sz q ∧ New C H Q (aq q)
theorem call_absN (U : Una X.prog X.w X.K X.mg X.base C "__abs__" 4 (spUn C aq)) (hr : Room 5 X.A) : CallR X (.builtin "abs") (rAbs C) := fun pins s σ H xs us Q I r h => by
  obtain ⟨f, fd, hs, hf, F, b⟩ := U.of
  obtain ⟨a, q, rfl, ia, sz, z⟩ := h
  obtain ⟨dx, ea⟩ := id ia
  exact call_absO (E := E0) hs hf F b hr pass0 pins s σ H _ us Q I r ⟨a, dx, _, rfl, ea, a, q, rfl, ia, sz, fun r' H' e n i => ⟨trivial, z r' H' e n i⟩⟩
def rBool (C : Addr) : List V → Hp → VK → Prop := fun xs H Q => ∃ a q, xs = [V.ref a] ∧ Is C H a q ∧ Q (.bl (decide (q.num ≠ 0))) H
theorem call_boolN (U : Una X.prog X.w X.K X.mg X.base C "__bool__" 1 (spBool C)) (hr : Room 3 X.A) : CallR X (.type "bool") (rBool C) := fun pins s σ H xs us Q I r h => by
  obtain ⟨f, fd, hs, hf, F, b⟩ := U.of
  obtain ⟨a, q, rfl, ia, z⟩ := h
  obtain ⟨dx, ea⟩ := id ia
  exact call_boolO (E := E0) hs hf F b hr pass0 pins s σ H _ us Q I r ⟨a, dx, _, rfl, ea, a, q, rfl, ia, ⟨_, rfl⟩, z⟩
def rStrN (C : Addr) : List V → Hp → VK → Prop := fun xs H Q => ∃ a q, xs = [V.ref a] ∧ Is C H a q ∧ Low 8000 q ∧ Q (.str (written q)) H
theorem call_strN (U : Una X.prog X.w X.K X.mg X.base C "__str__" 1 (spText C written)) (hr : Room 3 X.A) : CallR X (.type "str") (rStrN C) := fun pins s σ H xs us Q I r h => by
  obtain ⟨f, fd, hs, hf, F, b⟩ := U.of
  obtain ⟨a, q, rfl, ia, lw, z⟩ := h
  obtain ⟨dx, ea⟩ := id ia
  exact call_strO (E := E0) hs hf F b hr pass0 pins s σ H _ us Q I r ⟨a, dx, _, rfl, ea, a, q, rfl, ia, lw, ⟨_, rfl⟩, z⟩
end
/-! ### repr of a list of short data -/
inductive RpAll (H : Hp) : List V → List Str → Prop
  | nil : RpAll H [] []
  | cons {x : V} {t : Str} {xs : List V} {ts : List Str} : Rp H [] 0 x t → t.length ≤ 3000 → RpAll H xs ts → RpAll H (x :: xs) (t :: ts)
theorem RpAll.len {H : Hp} : ∀ {xs : List V} {ts : List Str}, RpAll H xs ts → ts.length = xs.length
  | _, _, .nil => rfl
  | _, _, .cons _ _ r => by rw [List.length_cons, List.length_cons, r.len]
theorem RpAll.it {H : Hp} : ∀ {xs : List V} {ts : List Str}, RpAll H xs ts → ∀ (i : Nat) (x : V) (t : Str), xs[i]? = some x → ts[i]? = some t → Rp H [] 0 x t
  | _, _, .nil, i, x, t, h, _ => by simp at h
  | _, _, .cons a _ r, 0, x, t, h1, h2 => by
    cases (show some _ = some x from h1)
    cases (show some _ = some t from h2)
    exact a
  | _, _, .cons a _ r, i + 1, x, t, h1, h2 => RpAll.it r i x t h1 h2
theorem RpAll.piled {H : Hp} : ∀ {xs : List V} {ts : List Str}, RpAll H xs ts → piled ts ≤ 3002 * ts.length
  | _, _, .nil => Nat.zero_le _
  | _, _, .cons _ h r => by
    have := r.piled
    rw [piled_cons, List.length_cons]
    omega
theorem rp_list {H : Hp} {a : Addr} {xs : List V} {ts : List Str} {Q : VK} (h : H a = some (.lst xs)) (r : RpAll H xs ts) (hn : xs.length ≤ 30) (z : Q (.str (listText ts)) H) : rRepr [.ref a] H Q :=
  ⟨.ref a, [a], 1, _, rfl, .lst (as0 := []) h (by simp) (fun b hb => hb) r.len r.it, by decide, by
    have h1 := listText_le ts
    have h2 := r.piled
    have h3 := r.len
    have h4 : (1000000 : Nat) ≤ sizeLine := by decide
    omega, z⟩
theorem rpL {H : Hp} {a : Addr} {xs : List V} {ts : List Str} (h : H a = some (.lst xs)) (r : RpAll H xs ts) : Rp H [a] 1 (.ref a) (listText ts) := .lst (as0 := []) h (by simp) (fun b hb => hb) r.len r.it
theorem rpz {H : Hp} {xs : List V} {ts : List Str} (r : RpAll H xs ts) (hn : xs.length ≤ 30) : (listText ts).length ≤ sizeLine := by
  have h1 := listText_le ts
  have h2 := r.piled
  have h3 := r.len
  have h4 : (1000000 : Nat) ≤ sizeLine := by decide
  omega
theorem rp_str {H : Hp} {x : Str} (h : PyData.strOk x = true) (l : x.length ≤ 240) : Rp H [] 0 (.str x) (reprText x) ∧ (reprText x).length ≤ 3000 := by
  have z := StrLaws.reprText_len x fun c hc => by
    have h' := h
    unfold PyData.strOk at h'
    rw [Array.all_eq_true_iff_forall_mem] at h'
    exact Nat.lt_trans (of_decide_eq_true (h' c (Array.mem_toList_iff.mp hc))) (by decide)
  have h4 : (1000000 : Nat) ≤ sizeLine := by decide
  exact ⟨.str x (by omega), by omega⟩
theorem rp_int {H : Hp} {i : Int} (h : i.natAbs < 2 ^ 112) : Rp H [] 0 (.int i) (toString i) ∧ (Str.ofString (toString i)).length ≤ 3000 := by
  have l := len_of (n := 112) (by decide) h
  refine ⟨.int i ?_, by omega⟩
  by_cases z : i.natAbs = 0
  · rw [z]; decide
  · exact (Nat.log2_lt z).mpr (Nat.lt_of_lt_of_le h (Nat.pow_le_pow_right (by decide) (by decide)))
theorem shown_len {q : Rat} (h : Low 112 q) : (Am.shown q).length ≤ 240 := by
  have l1 := len_of (by decide) h.1
  have l2 := len_of (n := 112) (i := (q.den : Int)) (by decide) (by rw [Int.natAbs_natCast]; exact h.2)
  have k1 : (Str.ofString "Amount(").length = 7 := by decide
  have k2 : (Str.ofString ", ").length = 2 := by decide
  have k3 : (Str.ofString ")").length = 1 := by decide
  rw [Am.shown, emp]
  simp only [strLen_append, k1, k2, k3]
  omega
theorem written_len {q : Rat} (h : Low 112 q) : (written q).length ≤ 240 := by
  have l1 := len_of (by decide) h.1
  have l2 := len_of (n := 112) (i := (q.den : Int)) (by decide) (by rw [Int.natAbs_natCast]; exact h.2)
  have k1 : (Str.ofString "/").length = 1 := by decide
  unfold written
  split
  · omega
  · rw [emp]
    simp only [strLen_append, k1]
    omega
theorem sok_written (q : Rat) : PyData.strOk (written q) = true := by
  unfold written
  split
  · exact sok_of _
  · exact sok_app (sok_app (sok_app sok_emp (sok_of _)) (sok_of _)) (sok_of _)
theorem low_neg {n : Nat} {q : Rat} (h : Low n q) : Low n (-q) := ⟨by show (-q.num).natAbs < _; rw [Int.natAbs_neg]; exact h.1, h.2⟩
theorem low_aq {n : Nat} {q : Rat} (h : Low n q) : Low n (aq q) := by
  unfold aq
  split
  · exact low_neg h
  · exact h
theorem aq_num (q : Rat) : (aq q).num = if q.num < 0 then -q.num else q.num := by
  unfold aq
  by_cases h : q.num < 0
  · rw [if_pos h, if_pos h]; rfl
  · rw [if_neg h, if_neg h]
theorem aq_den (q : Rat) : (aq q).den = q.den := by
  unfold aq
  split <;> rfl
theorem tyL {K : W.Frag} {H : Hp} {a : Addr} {xs : List V} (h : H a = some (.lst xs)) : tyV K "list" (.ref a) H := .inl ⟨rfl, xs, SqL.of h⟩
/-- what both of alone_right's lists hold -/
def eight (q : Rat) : List V := [.int q.num, .int q.den, .int q.num.sign, .bl (decide (q.num ≠ 0)), .str (written q), .str (Am.shown q), .str (Am.shown (-q)), .str (Am.shown (aq q))]
def eightT (q : Rat) : List Str := [(toString q.num : String), (toString (q.den : Int) : String), (toString q.num.sign : String), (if decide (q.num ≠ 0) = true then Str.ofString "True" else Str.ofString "False"), reprText (written q), reprText (Am.shown q), reprText (Am.shown (-q)), reprText (Am.shown (aq q))]
theorem eight_rp {H : Hp} {q : Rat} (h : Low 112 q) : RpAll H (eight q) (eightT q) := by
  have a1 := rp_int (H := H) h.1
  have a2 := rp_int (H := H) (i := (q.den : Int)) (by rw [Int.natAbs_natCast]; exact h.2)
  have a3 := rp_int (H := H) (i := q.num.sign) (Nat.lt_of_le_of_lt (by rw [Int.natAbs_sign]; split <;> decide) (show 1 < 2 ^ 112 by decide))
  have a5 := rp_str (H := H) (sok_written q) (written_len h)
  have a6 := rp_str (H := H) (sok_shown q) (shown_len h)
  have a7 := rp_str (H := H) (sok_shown (-q)) (shown_len (low_neg h))
  have a8 := rp_str (H := H) (sok_shown (aq q)) (shown_len (low_aq h))
  exact .cons a1.1 a1.2 (.cons a2.1 a2.2 (.cons a3.1 a3.2 (.cons (.bl _) (by split <;> decide) (.cons a5.1 a5.2 (.cons a6.1 a6.2 (.cons a7.1 a7.2 (.cons a8.1 a8.2 .nil)))))))
/-! ### powers -/
theorem Low.mul {n m : Nat} {q p : Rat} (h : Low n q) (h' : Low m p) : Low (n + m) (q * p) := by
  rw [← mul_rat]
  obtain ⟨b1, b2⟩ := divInt_le (q.num * p.num) ((q.den : Int) * (p.den : Int)) (den_den q p)
  exact ⟨Nat.lt_of_le_of_lt b1 (mul_bits h.1 h'.1), Nat.lt_of_le_of_lt b2 (mul_bits (KA.low_den h) (KA.low_den h'))⟩
theorem pow_lows {q : Rat} (h : Low 112 q) : ∀ i : Nat, Low (112 * i + 1) (q ^ i)
  | 0 => by
    rw [Rat.pow_zero]
    exact ⟨by decide, by decide⟩
  | i + 1 => by
    rw [Rat.pow_succ]
    exact ((pow_lows h i).mul h).more (by omega)
def pows (q : Rat) (n : Nat) : List Rat := (List.range n).map fun i => q ^ i
theorem pows_succ (q : Rat) (n : Nat) : pows q (n + 1) = pows q n ++ [q ^ n] := by
  unfold pows
  rw [List.range_succ, List.map_append]
  rfl
def TpR (H : Hp) (x : V) (r : Rat) : Prop := ∃ t, x = .ref t ∧ H t = some (.tup [.int r.num, .int r.den])
theorem TpR.ns {H H' : Hp} {x : V} {r : Rat} (h : TpR H x r) (n : Ns H H') : TpR H' x r := let ⟨t, e, z⟩ := h; ⟨t, e, n _ _ (fun _ => HO.noConfusion) z⟩
def IsR (C : Addr) (H : Hp) (x : V) (r : Rat) : Prop := ∃ a, x = .ref a ∧ Is C H a r
theorem IsR.ext {C : Addr} {H H' : Hp} {x : V} {r : Rat} (h : IsR C H x r) (e : Am.Ext H H') : IsR C H' x r := let ⟨a, x, i⟩ := h; ⟨a, x, i.ext e⟩
theorem A2.uncons {R : V → Rat → Prop} {xs : List V} {q : Rat} {qs : List Rat} (h : A2 R xs (q :: qs)) : ∃ x ys, xs = x :: ys ∧ R x q ∧ A2 R ys qs := by
  cases h with
  | cons a b => exact ⟨_, _, rfl, a, b⟩
theorem cut1 (x : V) (ys : List V) : cutV (x :: ys) (some 1) none = ys := by
  have e : HT.sIx (x :: ys).length 0 (some 1) = 1 := by
    have := HT.sIx_nat (x :: ys).length 0 1
    rw [List.length_cons] at this ⊢
    rw [show (some (1 : Int)) = some ((1 : Nat) : Int) from rfl, this]
    omega
  unfold cutV
  rw [e, HT.sIx_none]
  simp
theorem ned_same {K : W.Frag} {H : Hp} {a b : Addr} {xs : List V} {ds : List PyData} {Q : VK} (ha : SqL K H a xs) (hb : SqL K H b xs) (d : DpAll K H xs ds) (hs : SeqAt.shaped (.list ds) = true) (q : Q (.bl false) H) : rNeD K (.ref a) (.ref b) H Q :=
  ⟨.list ds, .list ds, .lst ha d, .lst hb d, hs, hs, by rw [SeqAt.eqv_refl _ (SeqAt.canLay_of_shaped hs)]; exact q⟩
def shs (rs : List Rat) : List V := rs.map fun r => V.str (Am.shown r)
theorem shs_snoc (rs : List Rat) (r : Rat) : shs (rs ++ [r]) = shs rs ++ [.str (Am.shown r)] := by
  unfold shs
  rw [List.map_append]
  rfl
theorem shs_len (rs : List Rat) : (shs rs).length = rs.length := List.length_map _
theorem shs_dp {K : W.Frag} {H : Hp} (rs : List Rat) : DpAll K H (shs rs) ((rs.map Am.shown).map PyData.str) := by
  have := dp_strs (K := K) (H := H) (rs.map Am.shown)
  rw [List.map_map] at this
  exact this
theorem shs_ok (rs : List Rat) : SeqAt.shaped (.list ((rs.map Am.shown).map PyData.str)) = true := shaped_strs fun x m => by
  obtain ⟨r, _, rfl⟩ := List.mem_map.mp m
  exact sok_shown r
/-- what alone_right asks -/
structure Al (P : Program) (w : World) (K : W.Frag) (mg : Str → Option Value) (base : Heap) (C : Addr) : Prop where
  nb : base.NoDigits
  fr : Frees mg
  B : Base P w K mg base C
  O : Of P w K mg base C
  OK : OfK P w K mg base C
  R : Rep P w K mg base C
  N : Neg P w K mg base C
  ab : Una P w K mg base C "__abs__" 4 (spUn C aq)
  bo : Una P w K mg base C "__bool__" 1 (spBool C)
  st : Una P w K mg base C "__str__" 1 (spText C written)
  pw : Pow P w K mg base C
  rn : Rnd P w K mg base C
  DD : DnD P w K mg base
  DM : Dn P w K mg base CX0 4 "_law_made" ["_law_pot_here", "_law_part_here", "_law_is_plain"] (spMade K C)
  DH : Dn P w K mg base CX0 1 "_law_shown" ["_law_part_here"] (spTxt K shown)
  DW : Dn P w K mg base CX0 1 "_law_written" ["_law_part_here"] (spTxt K written)
  DF : Dn P w K mg base CX0 1 "_law_floor" ["_law_part_here"] (spFloor K)
  DC : Dn P w K mg base CX0 2 "_law_decimal" ["_law_part_here", "_law_size"] (spDec K)
  DT : Dn P w K mg base CX0 2 "_law_times" ["_law_left", "_law_right_here"] (spPair K fun q p => q * p)
abbrev nAl : List Str := ["_law_pot_here", "_law_part_here", "_law_made_here", "_law_told", "_law_due", "_law_size", "_law_powers", "_law_turn", "_law_some_here", "_law_each"]
def spTrue2 (K : W.Frag) : Sp := fun vs H Q _ => ∃ (p t : Addr) (q : Rat), vs = [.ref p, .ref t] ∧ Pot H p ∧ t ≠ p ∧ H t = some (.tup [.int q.num, .int q.den]) ∧ Low 112 q ∧ ∀ H', Kp p H H' → Q (.bl true) H'
section
variable {P : Program} {w : World} {K : W.Frag} {mg : Str → Option Value} {base : Heap} {f C : Addr} {fd : FuncData}
end
end KA

set_option Elab.async false
set_option linter.all false
set_option maxRecDepth 100000
set_option maxHeartbeats 1000000
set_option exponentiation.threshold 20000
namespace KA
open PySem PySem.Spec PyProof.Rows L2 Oo Gd Am
/-- a def whose code object stands at c -/
structure FunC (K : W.Frag) (x qual : Str) (st : Stmt) (f c : Addr) (fd : FuncData) : Prop where
  ex : ∃ (oc : Value) (od : Option Addr) (kV doc pm : Value) (an : Option Addr) (ct : Value) (osl : Array (Option Value)),
    fd = W.fnOf x qual (defArgs st) (defBody st) (defScope st) .none kV doc pm an (.ref c) ct ∧ K.lookup f = some ⟨oc, od, .func fd, osl⟩ ∧ W.codeIn K (.ref c) qual = true
  kp : W.keepIn K (.ref f) = true
section
variable {P : Program} {w : World} {K : W.Frag} {mg : Str → Option Value} {base : Heap}
theorem okGc {x qual : Str} {st : Stmt} {f c : Addr} {fd : FuncData} {N ps : List Str} {k : Nat} {sp : Sp} (F : FunC K x qual st f c fd) (S : FnScope N ps (defScope st)) (len : ∀ vs H Q E, sp vs H Q E → vs.length = ps.length)
    (walk : ∀ (A : Around) (outer : List Env) (s : Shared) (H : Hp) (vs : List V) (Q : VK) (E : XK), Bare (A.deeper (envOfC qual (defScope st) s.heap.objs.size f (.ref c))) →
      Room k (A.deeper (envOfC qual (defScope st) s.heap.objs.size f (.ref c))) → sp vs H Q E →
      ∃ t, PSs (cxOf CX0 P w K mg base N qual (defScope st) f (.ref c) A outer s H E).nox (defBody st) t ∧ t { nx := fun _ H' => Q .non H', rt := Q } (start N vs) H) :
    FnG P w K mg base CX0 (k + 1) f fd ps sp := by
  obtain ⟨oc, od, kV, doc, pm, an, ct, osl, rfl, at_, code⟩ := F.ex
  refine fnG_of at_ code S len (fun A outer s H vs Q E hg hr want => ?_)
  obtain ⟨t, h, q⟩ := walk A outer s H vs Q E hg hr want
  exact ⟨t, h.nox, q⟩
end
/-! ### // and % of NUMBERS, one an Amount -/
structure DvI (P : Program) (w : World) (K : W.Frag) (mg : Str → Option Value) (base : Heap) (C Z : Addr) (nm : String) (n k : Nat) (R : Rat → Rat → Hp → VK → Prop) : Prop where
  of : ∃ f g fd gd ps qs, OwnBin K C nm f (some g) ∧ NoIn K C nm ∧ FnOk P w K mg base (L2.CX P w) k f fd ps (spDiv n C Z R) ∧ Binds K fd ps [] ∧ FnOk P w K mg base (L2.CX P w) k g gd qs (spDivR n C Z R) ∧ Binds K gd qs []
def rDN (n : Nat) (C Z : Addr) (R : Rat → Rat → Hp → VK → Prop) (E : XK) : R2 := fun x y H Q => ∃ q p, Num C H x q ∧ Num C H y p ∧ ((∃ a, x = .ref a) ∨ ∃ a, y = .ref a) ∧ Low n q ∧ Low n p ∧ (p ≠ 0 → R q p H Q) ∧ (p = 0 → Refuse Z H E)
theorem conv_div {n : Nat} {C Z : Addr} {R : Rat → Rat → Hp → VK → Prop} {E : XK} {H : Hp} {x y : V} {Q : VK} (hh : rDN n C Z R E x y H Q) : rBin C (spDiv n C Z R) (spDivR n C Z R) E x y H Q := by
  obtain ⟨q, p, nx, ny, one, lq, lp, h1, h2⟩ := hh
  rcases id nx with ⟨i, rfl, _⟩ | ⟨a, rfl, ia⟩
  · rcases id ny with ⟨j, rfl, _⟩ | ⟨b, rfl, ib⟩
    · rcases one with ⟨_, z⟩ | ⟨_, z⟩ <;> cases z
    · obtain ⟨dy, eb⟩ := id ib
      exact .inr (.inr ⟨b, dy, _, i, rfl, rfl, eb, b, _, q, p, rfl, ib, nx, lq, lp, h1, h2⟩)
  · obtain ⟨dx, ea⟩ := id ia
    have z : spDiv n C Z R [V.ref a, y] H Q E := ⟨a, y, q, p, rfl, ia, ny, lq, lp, h1, h2⟩
    rcases id ny with ⟨j, rfl, _⟩ | ⟨b, rfl, dy, eb⟩
    · exact .inr (.inl ⟨a, dx, _, j, rfl, rfl, ea, z⟩)
    · exact .inl ⟨a, dx, _, b, dy, _, rfl, rfl, ea, eb, z⟩
section
variable {X : Cx} {C Z : Addr} {op : Operator} {n k : Nat} {R : Rat → Rat → Hp → VK → Prop} {E : XK}
theorem op_DN (h5 : Five op) (D : DvI X.prog X.w X.K X.mg X.base C Z op.info.2 n k R) (hx : Passes (L2.CX X.prog X.w) X E) (hr : Room k X.A) : OpR X (binaryOp op) (rDN n C Z R E) := fun pins s σ H x y v u Q I rx ry hh => by
  obtain ⟨f, g, fd, gd, ps, qs, B, N, F, b, G, b2⟩ := D.of
  exact op_bin h5 B F b G b2 hx hr pins s σ H x y v u Q I rx ry (conv_div hh)
theorem ip_DN (h5 : Five op) (D : DvI X.prog X.w X.K X.mg X.base C Z op.info.2 n k R) (hx : Passes (L2.CX X.prog X.w) X E) (hr : Room k X.A) : PIp X op (rDN n C Z R E) := fun pins s σ H x y v u Q I rx ry hh => by
  obtain ⟨f, g, fd, gd, ps, qs, B, N, F, b, G, b2⟩ := D.of
  exact iop_bin h5 B N F b G b2 hx hr pins s σ H x y v u Q I rx ry (conv_div hh)
end
end KA

set_option Elab.async false
set_option linter.all false
set_option maxRecDepth 100000
set_option maxHeartbeats 2000000
set_option exponentiation.threshold 20000
namespace KA
open PySem PySem.Spec PyProof.Rows L2 Oo Gd Am
structure OverK (P : Program) (w : World) (K : W.Frag) (mg : Str → Option Value) (base : Heap) (C Z : Addr) : Prop where
  of : ∃ f fd, Meth K C "over" f ∧ FnOk P w K mg base (L2.CX P w) 5 f fd ["self", "other"] (spDiv 4000 C Z fun q p H Q => New C H Q (q / p)) ∧ Binds K fd ["self", "other"] [] ∧ KBn K fd ["self", "other"] 1 [("other" : Str)] (fun us ws => us ++ ws) (fun us ws => us ++ ws)
abbrev nTw : List Str := ["_law_x", "_law_y", "_law_left", "_law_right_here", "_law_shown_here", "_law_held", "_law_told", "_law_due", "_law_kinds", "_law_whole", "_law_rest", "_law_part_here"]
theorem smN_of {C : Addr} {H : Hp} {v : V} {q : Rat} (h : Num C H v q) (l : Low 1900 q) : SmN v q := by
  rcases h with ⟨i, rfl, rfl⟩ | ⟨a, rfl, _⟩
  · have b : i.natAbs < 2 ^ 1900 := l.1
    show i.natAbs.log2 < 1920
    by_cases z : i.natAbs = 0
    · rw [z]; decide
    · exact (Nat.log2_lt z).mpr (Nat.lt_of_lt_of_le b (Nat.pow_le_pow_right (by decide) (by decide)))
  · exact l.more (by decide)
theorem Pt.ns {K : W.Frag} {H H' : Hp} {t : Addr} {q : Rat} (h : Pt K H t q) (n : Ns H H') : Pt K H' t q := by
  rcases h with (h | ⟨o, h⟩) | h
  · exact .inl (.inl (n _ _ (fun _ => HO.noConfusion) h))
  · exact .inl (.inr ⟨o, n _ _ (fun _ => HO.noConfusion) h⟩)
  · exact .inr h
theorem Num.ns {C : Addr} {H H' : Hp} {v : V} {q : Rat} (h : Num C H v q) (n : Ns H H') : Num C H' v q := h.imp (fun z => z) fun ⟨a, e, i⟩ => ⟨a, e, Is.ns i n⟩
theorem Low.sub {n m : Nat} {q p : Rat} (h : Low n q) (h' : Low m p) : Low (n + m + 1) (q - p) := by
  rw [Rat.sub_eq_add_neg]
  exact h.add (low_neg h')
theorem add_sub_self (q r : Rat) : q + r - q = r := by
  rw [Rat.add_comm q r, Rat.sub_eq_add_neg, Rat.add_assoc, Rat.add_neg_cancel, Rat.add_zero]
def PtK (K : W.Frag) (H : Hp) (x : V) (r : Rat) : Prop := ∃ t, x = .ref t ∧ Pt K H t r
theorem ne_str (T : Str) {H : Hp} {Q : VK} (z : Q (.bl false) H) : rNe (.str T) (.str T) H Q := ⟨rfl, by
  rw [decide_eq_true (rfl : V.str T = V.str T)]
  exact z⟩
theorem told_rp {H : Hp} {t : Addr} (h : H t = some (.tup [.non, .bl true, .bl true, .bl false])) : Rp H [t] 1 (.ref t) toldZ := by
  refine .tup (as0 := []) h (by simp) (fun b hb => hb) rfl ?_
  intro i x tt h1 h2
  match i, h1, h2 with
  | 0, h1, h2 => cases h1; cases h2; exact .non
  | 1, h1, h2 => cases h1; cases h2; exact .bl true
  | 2, h1, h2 => cases h1; cases h2; exact .bl true
  | 3, h1, h2 => cases h1; cases h2; exact .bl false
  | i + 4, h1, _ => simp at h1
theorem told_len : toldZ.length ≤ sizeLine := by decide +kernel
theorem told_ok : PyData.strOk toldZ = true := by decide +kernel
theorem Num.xn {C : Addr} {H H' : Hp} {v : V} {q : Rat} (h : Num C H v q) (n : LamX.ExtN H H') : Num C H' v q := h.imp (fun z => z) fun ⟨a, e, dx, i⟩ => ⟨a, e, dx, n _ _ i fun _ => HO.noConfusion⟩
theorem xn_put {H H' : Hp} {a : Addr} {o : HO} (n : LamX.ExtN H H') (z : ∀ u, (∀ ps, u ≠ .tbl ps) → H a ≠ some u) : LamX.ExtN H (upd H' a o) := fun b u h k => by
  rw [upd_ne (fun e => z u k (by rw [← e]; exact h))]
  exact n b u h k
theorem tabs_put {T : List (Addr × Str)} {H : Hp} {a : Addr} {l : List V} {o : HO} (t : LamX.Tabs T H) (h : H a = some (.lst l)) : LamX.Tabs T (upd H a o) := fun p hp => by
  obtain ⟨ps, h1, h2, h3⟩ := t p hp
  refine ⟨ps, ?_, h2, fun pos cv hc => ?_⟩
  · rw [upd_ne (fun z => by rw [z, h] at h1; cases h1)]
    exact h1
  · obtain ⟨c, e1, e2⟩ := h3 pos cv hc
    refine ⟨c, e1, ?_⟩
    rw [upd_ne (fun z => by
      rw [z, h] at e2
      unfold LamX.CodeO at e2
      cases e2)]
    exact e2
theorem low_div {n m : Nat} {q p : Rat} (h : Low n q) (h' : Low m p) (p0 : p ≠ 0) : Low (n + m) (q / p) := by
  rw [← div_rat]
  have pn : p.num ≠ 0 := fun e => p0 (Rat.num_eq_zero.mp e)
  obtain ⟨b1, b2⟩ := divInt_le (q.num * (p.den : Int)) ((q.den : Int) * p.num) (Int.mul_ne_zero (den0 q) pn)
  exact ⟨Nat.lt_of_le_of_lt b1 (mul_bits h.1 (KA.low_den h')), Nat.lt_of_le_of_lt b2 (mul_bits (KA.low_den h) h'.1)⟩
theorem low_int {n : Nat} {i : Int} (h : i.natAbs < 2 ^ n) (hn : 0 < n) : Low n (i : Rat) := ⟨h, by
  show 1 < 2 ^ n
  exact Nat.one_lt_two_pow (by omega)⟩
theorem add_sub_all (q r : Rat) : r + (q - r) = q := by
  rw [Rat.sub_eq_add_neg, Rat.add_comm q, ← Rat.add_assoc, Rat.add_neg_cancel, Rat.zero_add]
theorem eq_str (T : Str) {H : Hp} {Q : VK} (z : Q (.bl true) H) : rEq (.str T) (.str T) H Q := ⟨rfl, by
  rw [decide_eq_true (rfl : V.str T = V.str T)]
  exact z⟩
def tabs (p : Addr) : List (Addr × Str) := [(p, "_law_two_right.<locals>.<lambda>")]
def spTwo (K : W.Frag) (C p : Addr) : Sp := fun vs H Q _ => ∃ x y t u q r, vs = [x, y, .ref t, .ref u] ∧ Num C H x q ∧ Num C H y r ∧ ((∃ a, x = .ref a) ∨ ∃ a, y = .ref a) ∧ Pt K H t q ∧ Pt K H u r ∧ Low 112 q ∧ Low 112 r ∧ LamX.Tabs (tabs p) H ∧
  ∀ H', LamX.ExtN H H' → LamX.Tabs (tabs p) H' → Q (.bl true) H'
section
variable {P : Program} {w : World} {K : W.Frag} {mg : Str → Option Value} {base : Heap} {f C Z ZA c p : Addr} {fd : FuncData}
end
end KA

set_option Elab.async false
set_option linter.all false
set_option maxRecDepth 100000
set_option maxHeartbeats 1000000
set_option exponentiation.threshold 20000
namespace KA
open PySem PySem.Spec PyProof.Rows L2 Oo Gd Am
/-- all but p and the tables stand, at p the pot -/
def KT (p : Addr) (H H' : Hp) : Prop := (∀ b o, b ≠ p → H b = some o → (∀ ps, o ≠ .tbl ps) → H' b = some o) ∧ Pot H' p
theorem KT.trans {p : Addr} {H H1 H2 : Hp} (a : KT p H H1) (b : KT p H1 H2) : KT p H H2 := ⟨fun c o n h k => b.1 c o n (a.1 c o n h k) k, b.2⟩
theorem Kp.kt {p : Addr} {H H' : Hp} (k : Kp p H H') : KT p H H' := ⟨fun b o n h _ => k.1 b o n h, k.2⟩
theorem pot_xn {p : Addr} {H H' : Hp} (hp : Pot H p) (n : LamX.ExtN H H') : KT p H H' := ⟨fun b o _ h k => n b o h k, by
  obtain ⟨a, b, h, r⟩ := hp
  exact ⟨a, b, n _ _ h (fun _ => HO.noConfusion), r⟩⟩
theorem tabs_kp {T : List (Addr × Str)} {p : Addr} {H H' : Hp} (t : LamX.Tabs T H) (hp : Pot H p) (k : Kp p H H') : LamX.Tabs T H' := fun a ha => by
  obtain ⟨x, y, hl, _⟩ := hp
  obtain ⟨ps, h1, h2, h3⟩ := t a ha
  refine ⟨ps, k.1 _ _ (fun e => by rw [e, hl] at h1; cases h1) h1, h2, fun pos cv hc => ?_⟩
  obtain ⟨c, e1, e2⟩ := h3 pos cv hc
  exact ⟨c, e1, k.1 _ _ (fun e => by
    rw [e, hl] at e2
    unfold LamX.CodeO at e2
    cases e2) e2⟩
/-- what right asks -/
structure Ri (P : Program) (w : World) (K : W.Frag) (mg : Str → Option Value) (base : Heap) (C p0 : Addr) : Prop where
  DP : DnP P w K mg base
  DR : Dn P w K mg base CX0 3 "_law_part" ["_law_pot_here"] (spPart K)
  DM : Dn P w K mg base CX0 4 "_law_made" ["_law_pot_here", "_law_part_here", "_law_is_plain"] (spMade K C)
  T2 : DnG P w K mg base 11 "_law_two_right" ["_law_x", "_law_y", "_law_left", "_law_right_here"] (spTwo K C p0)
  T1 : DnG P w K mg base 8 "_law_alone_right" ["_law_pot_here", "_law_part_here"] (spTrue2 K)
  T3 : DnG P w K mg base 7 "_law_row_right" ["_law_pot_here"] spTrue1
abbrev nRi : List Str := ["_law_pot_here", "_law_left", "_law_right_here", "_law_plain", "_law_x", "_law_y"]
/-- all but the pot and the tables stand; the tables tell right -/
def spRi (p0 : Addr) : Sp := fun vs H Q _ => ∃ p : Addr, vs = [.ref p] ∧ Pot H p ∧ LamX.Tabs (tabs p0) H ∧
  ∀ H', (∀ b o, b ≠ p → H b = some o → (∀ ps, o ≠ .tbl ps) → H' b = some o) → Pot H' p → LamX.Tabs (tabs p0) H' → Q (.bl true) H'
section
variable {P : Program} {w : World} {K : W.Frag} {mg : Str → Option Value} {base : Heap} {f C p0 : Addr} {fd : FuncData}
end
end KA

set_option Elab.async false
set_option linter.all false
set_option maxRecDepth 100000
set_option maxHeartbeats 1000000
namespace KA
open PySem PySem.Spec PyProof.Rows L2 Oo Gd Am
abbrev nLaw : List Str := ["_law_script", "_law_k", "_law_pot_here", "_law_turn"]
def spLaw (K : W.Frag) (p0 : Addr) : Sp := fun vs H Q _ => ∃ (a : Addr) (ns : List Int), vs = [.ref a] ∧ ns.length ≤ 63 ∧ SqL K H a (ns.map V.int) ∧ LamX.Tabs (tabs p0) H ∧ ∀ H', Q (.bl true) H'
section
variable {P : Program} {w : World} {K : W.Frag} {mg : Str → Option Value} {base : Heap} {f p0 : Addr} {fd : FuncData}
end
end KA

set_option Elab.async false
set_option linter.all false
set_option maxRecDepth 100000
set_option maxHeartbeats 1000000
/-! repr of a list of NUMBERS. -/
namespace Am
open PySem PySem.Spec PyProof.Rows L2 Oo
open PySem.Builtin PySem.Builtin.List
abbrev inLp (A : Around) (args : Args) : Around := A.in1.under (.builtin "list.__repr__.loop" args)
theorem inLp_room {k : Nat} {A : Around} {args : Args} (r : Room (k + 2) A) : Room k (inLp A args) :=
  ⟨r.hd, by
    have := r.dp
    have e : (inLp A args).depth = A.depth + 1 := by first | rfl | simp [inLp, Around.under, Code.weight, Code.isCreation, Code.isGuard, Code.isCaller, Code.frames, Code.isFrame, guardIds]
    rw [e]; omega, by
    have := r.un
    have e : (inLp A args).units ≤ A.units + 2 := by
      show A.in1.units + _ ≤ _
      first | exact Nat.le_refl _ | (simp [Code.cUnits, Code.frames, Code.isFrame])
    omega⟩
theorem inLp_env {P : Program} {w : World} {K : W.Frag} {mg : Str → Option Value} {base : Heap} {A : Around} {outer : List Env} {s : Shared} {H : Hp} {args : Args} (e : Env0 P w K mg base A outer s H) : Env0 P w K mg base (inLp A args) outer s H :=
  ⟨by first | exact e.frames | (simpa [inLp, Around.under, Code.envs, Code.isFrame, pushEnvs] using e.frames), e.mod, e.bs, e.bsz, e.funs, e.frf, e.hok, e.bare⟩
theorem inLp_guards {A : Around} {args : Args} (hg : A.guards = some []) : ∃ g, (inLp A args).guards = some g := by
  have e : A.in1.guards = some [] := hg
  exact ⟨_, guards_under_guard (isGuard_list_loop _) e⟩
/-- NUMBERS and the texts of their reprs -/
inductive NumsT (C : Addr) (H : Hp) : List V → List Str → Prop
  | nil : NumsT C H [] []
  | cons {v : V} {q : Rat} {xs : List V} {ts : List Str} : Num C H v q → SmN v q → NumsT C H xs ts → NumsT C H (v :: xs) (numText v q :: ts)
theorem NumsT.len {C : Addr} {H : Hp} : ∀ {xs : List V} {ts : List Str}, NumsT C H xs ts → ts.length = xs.length
  | _, _, .nil => rfl
  | _, _, .cons _ _ r => by rw [List.length_cons, List.length_cons, r.len]
theorem NumsT.get {C : Addr} {H : Hp} : ∀ {xs : List V} {ts : List Str} {i : Nat} {x : V}, NumsT C H xs ts → xs[i]? = some x → ∃ q, Num C H x q ∧ SmN x q ∧ ts[i]? = some (numText x q)
  | _, _, i, x, .nil, h => by simp at h
  | _, _, 0, x, .cons n s _, e => by
    cases (show some _ = some x from e)
    exact ⟨_, n, s, rfl⟩
  | _, _, i + 1, x, .cons _ _ r, e => NumsT.get (i := i) r e
theorem NumsT.ext {C : Addr} {H H' : Hp} (e : Ext H H') : ∀ {xs : List V} {ts : List Str}, NumsT C H xs ts → NumsT C H' xs ts
  | _, _, .nil => .nil
  | _, _, .cons n s r => .cons (n.ext e) s (r.ext e)
theorem NumsT.piled {C : Addr} {H : Hp} : ∀ {xs : List V} {ts : List Str}, NumsT C H xs ts → piled ts ≤ 6102 * ts.length
  | _, _, .nil => Nat.zero_le _
  | _, _, .cons _ s r => by
    have := r.piled
    have := num_len s
    rw [piled_cons, List.length_cons]
    omega
theorem vals_strs : ∀ {ts : List Str} {its : List Value}, Vals (ts.map V.str) its → ∃ done : List (Str × Tok), its = strValues done ∧ done.map (·.1) = ts
  | [], _, h => by
    cases h
    exact ⟨[], rfl, rfl⟩
  | t :: ts, _, h => by
    cases h with
    | cons r1 r2 =>
      obtain ⟨tk, rfl⟩ := (show ∃ tk, _ = Value.str t tk from r1)
      obtain ⟨done, rfl, e⟩ := vals_strs r2
      exact ⟨(t, tk) :: done, rfl, by rw [List.map_cons, e]⟩
section
variable {X : Cx} {C : Addr} {pins : List (Addr × Obj)} {σ : L2.St} {H : Hp} {s : Shared} {k : Nat}
theorem num_underL (R : Rep X.prog X.w X.K X.mg X.base C) {args : Args} {b : Nat} {v : V} {u : Value} {q : Rat} (hr : Room (k + 3) X.A) (hG : Gd.Bare X.A) (I : Inv X pins σ H s) (nv : Num C H v q) (sm : SmN v q) (rv : RelV v u) (hb : b ≤ 500000) :
    wpAny (model X.prog X.w) (inLp X.A args) (pyReprUnder b u) (fun r s1 => r = numText v q ∧ Inv X pins σ H s1) X.xe s := by
  have hR : Room 1 (inLp X.A args) := inLp_room (hr.mono (by omega))
  have big : (1000000 : Nat) ≤ sizeLine := by decide
  rcases nv with ⟨i, rfl, _⟩ | ⟨x, rfl, ix⟩
  · obtain ⟨g, hg⟩ := inLp_guards (args := args) hG
    have rk : ReprK X.prog X.w [] s.heap 1 u (toString i : String) := (Gd.Rp.int (H := H) (as := []) (d := 1) i sm).repr I.hok u rv
    have l := num_len (v := .int i) (q := q) sm
    exact rk b (by show b + (numText (.int i) q).length ≤ sizeLine; omega) _ g _ s _ hg (fun b h => nomatch h) (by have := hR.units; omega) (fun _ _ e => e) fun h' tk kp => ⟨rfl, I.kept kp⟩
  · obtain rfl : u = Value.ref x := rv
    obtain ⟨f, fd, hs, hf, F, bd⟩ := R.of
    obtain ⟨dx, ex⟩ := id ix
    obtain ⟨od, J, _⟩ := inst_at I ex
    refine own_under (by omega) hR.units0 I.kIn J hs hf ?_
    have lw : KA.Low 8000 q := ⟨Nat.lt_trans sm.1 (by decide), Nat.lt_trans sm.2 (by decide)⟩
    refine wpAny_mono (run_atO (Q := fun z H' => z = .str (shown q) ∧ H' = H) (us := [.ref x]) (ws := [.ref x]) F bd hR (inLp_env I.env0) pass0 I (.cons rfl .nil) ⟨x, q, rfl, ix, lw, rfl, rfl⟩) (fun v s' ⟨z, H', I', rz, ez, eh⟩ => ?_) fun _ _ z => z
    subst ez eh
    obtain ⟨t, rfl⟩ := (show ∃ t, v = Value.str (shown q) t from rz)
    exact ⟨_, _, rfl, rfl, I'⟩
theorem lp_loop (R : Rep X.prog X.w X.K X.mg X.base C) {a P : Addr} {xs : List V} {ts : List Str} {Q : Value → Shared → Prop} (hr : Room (k + 3) X.A) (hG : Gd.Bare X.A) (ha : H a = some (.lst xs)) (hP : H P = none) (nt : NumsT C H xs ts)
    (hl : ts.length ≤ 70) (hQ : ∀ s' u, Inv X pins σ (upd H P (.lst (ts.map V.str))) s' → Q (.str (listText ts) u) s') :
    ∀ (n i : Nat) (s : Shared), ts.length - i = n → i ≤ ts.length → Inv X pins σ (upd H P (.lst ((ts.take i).map V.str))) s →
      codeAny (model X.prog X.w) X.A.in1 (.builtin "list.__repr__.loop" ⟨[.ref a, rawInt i, .ref P, rawInt ((piled (ts.take i) : Nat) : Int)], []⟩) (callEnd Q X.xe) s := by
  have big : (1000000 : Nat) ≤ sizeLine := by decide
  have nl := nt.len
  have np := nt.piled
  have lt := Gd.listText_le ts
  intro n
  induction n with
  | zero =>
    intro i s hn hi I
    have hin : i = ts.length := by omega
    subst hin
    rw [List.take_length] at I ⊢
    obtain ⟨_, its, m, rv, l1, e1⟩ := I.lstM (l := a) (by rw [upd_ne (ne_of_none ha hP)]; exact ha)
    obtain ⟨_, acc, c, rw', l2, e2⟩ := I.lstM (l := P) upd_same
    refine codeAny_builtin F.entry_list_repr_loop ?_
    show wpAny _ _ («list.__repr__.loop» ⟨[.ref a, .int (ts.length : Nat) 0, .ref P, .int ((piled ts : Nat) : Int) 0], []⟩) _ _ s
    rw [repr_loop_tree]
    refine wpAny_bind (wpAny_listItems e1 rfl ?_)
    have hnone : its.toArray[((ts.length : Nat) : Int).toNat]? = none := by simp [nl, l1]
    simp only [hnone]
    unfold reprEnd
    refine wpAny_bind (wpAny_listItems e2 rfl ?_)
    obtain ⟨done, rfl, ed⟩ := vals_strs rw'
    rw [show (strValues done).toArray.toList = strValues done from rfl, repr_fold]
    refine wpAny_bind (wpAny_pure ?_)
    rw [ed]
    refine wpAny_bind (wpAny_mkStr (wpAny_pure ?_) (by show (listText ts).length ≤ sizeLine; omega))
    exact hQ _ _ (I.tok _)
  | succ n ih =>
    intro i s hn hi I
    obtain ⟨_, its, m, rv, l1, e1⟩ := I.lstM (l := a) (by rw [upd_ne (ne_of_none ha hP)]; exact ha)
    obtain ⟨_, acc, c, rw', l2, e2⟩ := I.lstM (l := P) upd_same
    have hlt : i < xs.length := by omega
    obtain ⟨q, nx, sm, et⟩ := nt.get (List.getElem?_eq_getElem hlt)
    obtain ⟨u, hu, ru⟩ := rv.get (List.getElem?_eq_getElem hlt)
    refine codeAny_builtin F.entry_list_repr_loop ?_
    show wpAny _ _ («list.__repr__.loop» ⟨[.ref a, .int (i : Nat) 0, .ref P, .int ((piled (ts.take i) : Nat) : Int) 0], []⟩) _ _ s
    rw [repr_loop_tree]
    refine wpAny_bind (wpAny_listItems e1 rfl ?_)
    have hsome : its.toArray[((i : Nat) : Int).toNat]? = some u := by simpa using hu
    simp only [hsome]
    rw [Int.toNat_natCast]
    have p1 := piled_take_le ts i
    have p2 := piled_take_succ et
    have ex : Ext H (upd H P (.lst ((ts.take i).map V.str))) := Ext.new hP
    refine wpAny_bind (wpAny_holding (wpAny_mono (num_underL R hr hG I (nx.ext ex) sm ru (by omega)) (fun t s1 ⟨et1, I1⟩ => ?_) fun _ _ z => z))
    subst et1
    have nl6 := num_len sm
    obtain ⟨_, acc, c, rw', l2, e2⟩ := I1.lstM (l := P) upd_same
    refine wpAny_bind (wpAny_mkStr ?_ (by omega))
    refine wpAny_bind ?_
    show wpAny _ _ (updateSeq P _) _ _ _
    have al : acc.toArray.size ≤ sizeLine := by
      rw [List.size_toArray, ← l2, List.length_map, List.length_take]
      omega
    refine wpAny_updateSeq e2 rfl (wpAny_pure ⟨F.quiet_list_repr_loop _, ?_⟩) al
    have k1 : ((i : Int) + 1) = ((i + 1 : Nat) : Int) := by omega
    have k2 : piled (ts.take i) + ((numText (xs[i]) q).length + 2) = piled (ts.take (i + 1)) := by omega
    rw [k1, k2]
    refine ih (i + 1) _ (by omega) (by omega) ?_
    have J := I1.lset (l := P) (xs := (ts.take i).map V.str) (ys := (ts.take (i + 1)).map V.str) (its := acc) (its' := acc ++ [.str (numText (xs[i]) q) s1.toks]) (f := fun a => a.push (.str (numText (xs[i]) q) s1.toks)) (t' := s1.toks + 1) upd_same e2 (by simp) (by
      rw [List.take_add_one, et, List.map_append]
      exact rw'.append (.cons ⟨_, rfl⟩ .nil)) (by rw [List.length_map, List.length_take]; omega)
    rw [upd_upd] at J
    exact J
def rNums (C : Addr) : List V → Hp → VK → Prop := fun vs H Q => ∃ (a : Addr) (x : V) (xs : List V) (ts : List Str), vs = [.ref a] ∧ H a = some (.lst (x :: xs)) ∧ NumsT C H (x :: xs) ts ∧ ts.length ≤ 70 ∧ ∀ H', Ext H H' → Q (.str (listText ts)) H'
theorem call_reprNums (R : Rep X.prog X.w X.K X.mg X.base C) (hG : Gd.Bare X.A) (hr : Room (k + 3) X.A) : CallR X (.builtin "repr") (rNums C) := by
  intro pins s σ H vs us Q I r h
  obtain ⟨a, x, xs, ts, rfl, ha, nt, hl, z⟩ := h
  obtain ⟨u, rfl, ru⟩ := r.one
  cases (show u = Value.ref a from ru)
  obtain ⟨_, its, n, rv, l1, ho⟩ := I.lstM ha
  refine Gd.repr_slot ⟨_, ho, rfl⟩ F.slot_list_repr.toG (by have := hr.units; omega) ?_
  cases rv with
  | @cons _ y _ l r1 rvt =>
    refine wpAny_call (codeAny_call_builtin F.slot_list_repr.plain F.entry_list_repr (F.slot_list_repr.check _ _ _ _ _ _ _ _ ⟨_, ho, rfl⟩ (F.args_list_repr_1 _) ?_))
    refine wpAny_list_repr_head (b := 0) (A := X.A.in1.in1) hG (fun v rest kw hm => nomatch hm) ho rfl ?_
    refine wpAny_bind (m := newList []) (wpAny_newObj_type ?_)
    refine wpAny_pure ⟨F.quiet_list_repr_loop _, ?_⟩
    have hf : H s.heap.objs.size = none := I.hok.fresh (Nat.le_refl _)
    have I1 := I.lnew (ys := []) (its := []) (t' := s.toks) .nil (Nat.zero_le _)
    refine lp_loop (k := k) R hr hG ha hf nt hl (fun s' u J => ⟨⟨_, _, rfl⟩, .str (listText ts), _, J, ⟨_, rfl⟩, z _ (Ext.new hf)⟩) ts.length 0 _ (by omega) (Nat.zero_le _) I1
end
end Am

set_option Elab.async false
set_option linter.all false
set_option maxRecDepth 100000
set_option maxHeartbeats 1000000
/-! Comparisons by own methods: an own instance on the left, or on the right of a built-in value. -/
namespace Oo
open PySem PySem.Spec PySem.W PyProof.Rows
section
variable {prog : Program} {w : World} {A : Around} {E : Value → Shared → Prop} {s : Shared} {K : Frag} {x y C f g : Addr} {ox oy : Obj} {od oe : Option Obj} {T : String} {i : Int} {u : Tok} {dx : Addr}
/-- a's own comparison declines -/
def DeclinesC (prog : Program) (w : World) (A : Around) (E : Value → Shared → Prop) (s : Shared) (nm : Str) (a : Value) (y : Addr) : Prop :=
  ∀ R : Option Value → Shared → Prop, (∀ t, R none { s with toks := t }) → wpAny (model prog w) A (tryCompare a nm (.ref y)) R E s
theorem declC_of {nm : Str} {id : String} {B : Builtin} {a : Value} (hT : s.TypeIs a T) (slot : Slot T nm id) (entry : entryFor table id = some B) (args : argsOk id ⟨[a, .ref y], []⟩)
    (body : ∀ (E' : Value → Shared → Prop) (R : Fin → Shared → Prop), (∀ t, R (.done (.ret .notImplemented)) { s with toks := t }) → wpAny (model prog w) A.in1 (B ⟨[a, .ref y], []⟩) R E' s) : DeclinesC prog w A E s nm a y := by
  intro R hR
  refine wpAny_tryCompare_declines hT slot (GQ.call_here slot hT entry args (body _ _ fun t => ?_))
  exact ⟨rfl, hR t⟩
theorem bin_noB {b : Bool} {name : String} {f : Int → Int → Sem Fin} (hy : s.heap.get? y = some (instObj C dx))
    {R : Fin → Shared → Prop} (hR : ∀ t, R (.done (.ret .notImplemented)) { s with toks := t }) : wpAny (model prog w) A (Builtin.Int.intBinary name f false ⟨[Value.bool b, Value.ref y], []⟩) R E s := by
  unfold Builtin.Int.intBinary
  have hs : PySem.slotArgs name 1 ⟨[Value.bool b, Value.ref y], []⟩ = pure (Value.bool b, [Value.ref y]) := rfl
  refine wpAny_bind (wpAny_of_eq hs ?_)
  dsimp only
  cases b
  · refine wpAny_bind (wpAny_of_eq (a := 0) rfl ?_)
    refine wpAny_bind (asInt_inst hy ?_)
    exact wpAny_bind (wpAny_rule (wpAny_pure (hR _)))
  · refine wpAny_bind (wpAny_of_eq (a := 1) rfl ?_)
    refine wpAny_bind (asInt_inst hy ?_)
    exact wpAny_bind (wpAny_rule (wpAny_pure (hR _)))
theorem asStr_inst {R : Option Str → Shared → Prop} {M : Model} (hy : s.heap.get? y = some (instObj C dx)) (h : R none s) : wpAny M A (asStr? (.ref y)) R E s := by
  unfold asStr?
  refine wpAny_bind (wpAny_load hy ?_)
  exact wpAny_pure h
theorem str_no {m : String} {f : List Nat → List Nat → Bool} {z : Str} (hy : s.heap.get? y = some (instObj C dx)) {R : Fin → Shared → Prop} (hR : ∀ t, R (.done (.ret .notImplemented)) { s with toks := t }) :
    wpAny (model prog w) A (Builtin.Str.strCompare m f ⟨[Value.str z u, Value.ref y], []⟩) R E s := by
  unfold Builtin.Str.strCompare
  refine wpAny_bind (wpAny_of_eq (a := (Value.str z u, z, [Value.ref y])) rfl ?_)
  dsimp only
  refine wpAny_bind (asStr_inst hy ?_)
  exact wpAny_bind (wpAny_rule (wpAny_pure (hR _)))
theorem inst_no {T : String} {R : Bool → Shared → Prop} (X : K.In s.heap) (J : InstAt s.heap y oy C oe) (hs : subIn K (.ref C) (.type T) = some false) (h : R false s) : wpAny (model prog w) A (isInstance (.ref y) (.type T)) R E s := by
  unfold isInstance
  exact wpAny_bind (J.type.here ((looks_subIn X hs).here h))

theorem c_int_lt (hy : s.heap.get? y = some (instObj C dx)) : DeclinesC prog w A E s (cmpInfo .Lt).2.1 (Value.int i u) y :=
  declC_of (typeIs_int _ _ _) F.slot_int_lt F.entry_int_lt (F.args_int_lt_2 _ _) fun E' R hR => by
    unfold Builtin.«int.__lt__»
    exact bin_no hy hR
theorem c_bool_lt {b : Bool} (hy : s.heap.get? y = some (instObj C dx)) : DeclinesC prog w A E s (cmpInfo .Lt).2.1 (Value.bool b) y :=
  declC_of (T := "bool") rfl F.slot_bool_lt F.entry_int_lt (F.args_int_lt_2 _ _) fun E' R hR => by
    unfold Builtin.«int.__lt__»
    exact bin_noB hy hR
theorem c_none_lt : DeclinesC prog w A E s (cmpInfo .Lt).2.1 Value.none y :=
  declC_of (T := "NoneType") rfl F.slot_NoneType_lt F.entry_NoneType_lt (F.args_NoneType_lt_2 _ _) fun E' R hR => by
    unfold Builtin.«NoneType.__lt__»
    exact wpAny_bind (wpAny_of_eq (a := (Value.none, [Value.ref y])) rfl (wpAny_pure (hR _)))
theorem c_str_lt {z : Str} (hy : s.heap.get? y = some (instObj C dx)) : DeclinesC prog w A E s (cmpInfo .Lt).2.1 (Value.str z u) y :=
  declC_of (T := "str") rfl F.slot_str_lt F.entry_str_lt (F.args_str_lt_2 _ _) fun E' R hR => by
    unfold Builtin.«str.__lt__»
    exact str_no hy hR
theorem c_tup_lt {a : Addr} {oa : Obj} (X : K.In s.heap) (J : InstAt s.heap y oy C oe) (hs : subIn K (.ref C) (.type "tuple") = some false) (ha : s.heap.get? a = some oa) (hc : oa.cls = .type "tuple") : DeclinesC prog w A E s (cmpInfo .Lt).2.1 (Value.ref a) y :=
  declC_of (T := "tuple") ⟨_, ha, hc⟩ F.slot_tuple_lt F.entry_tuple_lt (F.args_tuple_lt_2 _ _) fun E' R hR => by
    unfold Builtin.«tuple.__lt__»
    refine wpAny_bind (wpAny_of_eq (a := (Value.ref a, [Value.ref y])) rfl ?_)
    dsimp only
    refine wpAny_bind (inst_no X J hs ?_)
    exact wpAny_pure (hR _)
theorem c_lst_lt {a : Addr} {oa : Obj} (X : K.In s.heap) (J : InstAt s.heap y oy C oe) (hs : subIn K (.ref C) (.type "list") = some false) (ha : s.heap.get? a = some oa) (hc : oa.cls = .type "list") : DeclinesC prog w A E s (cmpInfo .Lt).2.1 (Value.ref a) y :=
  declC_of (T := "list") ⟨_, ha, hc⟩ F.slot_list_lt F.entry_list_lt (F.args_list_lt_2 _ _) fun E' R hR => by
    unfold Builtin.«list.__lt__»
    refine wpAny_bind (wpAny_of_eq (a := (Value.ref a, [Value.ref y])) rfl ?_)
    dsimp only
    refine wpAny_bind (inst_no X J hs ?_)
    exact wpAny_pure (hR _)

theorem c_int_le (hy : s.heap.get? y = some (instObj C dx)) : DeclinesC prog w A E s (cmpInfo .LtE).2.1 (Value.int i u) y :=
  declC_of (typeIs_int _ _ _) F.slot_int_le F.entry_int_le (F.args_int_le_2 _ _) fun E' R hR => by
    unfold Builtin.«int.__le__»
    exact bin_no hy hR
theorem c_bool_le {b : Bool} (hy : s.heap.get? y = some (instObj C dx)) : DeclinesC prog w A E s (cmpInfo .LtE).2.1 (Value.bool b) y :=
  declC_of (T := "bool") rfl F.slot_bool_le F.entry_int_le (F.args_int_le_2 _ _) fun E' R hR => by
    unfold Builtin.«int.__le__»
    exact bin_noB hy hR
theorem c_none_le : DeclinesC prog w A E s (cmpInfo .LtE).2.1 Value.none y :=
  declC_of (T := "NoneType") rfl F.slot_NoneType_le F.entry_NoneType_le (F.args_NoneType_le_2 _ _) fun E' R hR => by
    unfold Builtin.«NoneType.__le__»
    exact wpAny_bind (wpAny_of_eq (a := (Value.none, [Value.ref y])) rfl (wpAny_pure (hR _)))
theorem c_str_le {z : Str} (hy : s.heap.get? y = some (instObj C dx)) : DeclinesC prog w A E s (cmpInfo .LtE).2.1 (Value.str z u) y :=
  declC_of (T := "str") rfl F.slot_str_le F.entry_str_le (F.args_str_le_2 _ _) fun E' R hR => by
    unfold Builtin.«str.__le__»
    exact str_no hy hR
theorem c_tup_le {a : Addr} {oa : Obj} (X : K.In s.heap) (J : InstAt s.heap y oy C oe) (hs : subIn K (.ref C) (.type "tuple") = some false) (ha : s.heap.get? a = some oa) (hc : oa.cls = .type "tuple") : DeclinesC prog w A E s (cmpInfo .LtE).2.1 (Value.ref a) y :=
  declC_of (T := "tuple") ⟨_, ha, hc⟩ F.slot_tuple_le F.entry_tuple_le (F.args_tuple_le_2 _ _) fun E' R hR => by
    unfold Builtin.«tuple.__le__»
    refine wpAny_bind (wpAny_of_eq (a := (Value.ref a, [Value.ref y])) rfl ?_)
    dsimp only
    refine wpAny_bind (inst_no X J hs ?_)
    exact wpAny_pure (hR _)
theorem c_lst_le {a : Addr} {oa : Obj} (X : K.In s.heap) (J : InstAt s.heap y oy C oe) (hs : subIn K (.ref C) (.type "list") = some false) (ha : s.heap.get? a = some oa) (hc : oa.cls = .type "list") : DeclinesC prog w A E s (cmpInfo .LtE).2.1 (Value.ref a) y :=
  declC_of (T := "list") ⟨_, ha, hc⟩ F.slot_list_le F.entry_list_le (F.args_list_le_2 _ _) fun E' R hR => by
    unfold Builtin.«list.__le__»
    refine wpAny_bind (wpAny_of_eq (a := (Value.ref a, [Value.ref y])) rfl ?_)
    dsimp only
    refine wpAny_bind (inst_no X J hs ?_)
    exact wpAny_pure (hR _)

theorem c_int_gt (hy : s.heap.get? y = some (instObj C dx)) : DeclinesC prog w A E s (cmpInfo .Gt).2.1 (Value.int i u) y :=
  declC_of (typeIs_int _ _ _) F.slot_int_gt F.entry_int_gt (F.args_int_gt_2 _ _) fun E' R hR => by
    unfold Builtin.«int.__gt__»
    exact bin_no hy hR
theorem c_bool_gt {b : Bool} (hy : s.heap.get? y = some (instObj C dx)) : DeclinesC prog w A E s (cmpInfo .Gt).2.1 (Value.bool b) y :=
  declC_of (T := "bool") rfl F.slot_bool_gt F.entry_int_gt (F.args_int_gt_2 _ _) fun E' R hR => by
    unfold Builtin.«int.__gt__»
    exact bin_noB hy hR
theorem c_none_gt : DeclinesC prog w A E s (cmpInfo .Gt).2.1 Value.none y :=
  declC_of (T := "NoneType") rfl F.slot_NoneType_gt F.entry_NoneType_gt (F.args_NoneType_gt_2 _ _) fun E' R hR => by
    unfold Builtin.«NoneType.__gt__»
    exact wpAny_bind (wpAny_of_eq (a := (Value.none, [Value.ref y])) rfl (wpAny_pure (hR _)))
theorem c_str_gt {z : Str} (hy : s.heap.get? y = some (instObj C dx)) : DeclinesC prog w A E s (cmpInfo .Gt).2.1 (Value.str z u) y :=
  declC_of (T := "str") rfl F.slot_str_gt F.entry_str_gt (F.args_str_gt_2 _ _) fun E' R hR => by
    unfold Builtin.«str.__gt__»
    exact str_no hy hR
theorem c_tup_gt {a : Addr} {oa : Obj} (X : K.In s.heap) (J : InstAt s.heap y oy C oe) (hs : subIn K (.ref C) (.type "tuple") = some false) (ha : s.heap.get? a = some oa) (hc : oa.cls = .type "tuple") : DeclinesC prog w A E s (cmpInfo .Gt).2.1 (Value.ref a) y :=
  declC_of (T := "tuple") ⟨_, ha, hc⟩ F.slot_tuple_gt F.entry_tuple_gt (F.args_tuple_gt_2 _ _) fun E' R hR => by
    unfold Builtin.«tuple.__gt__»
    refine wpAny_bind (wpAny_of_eq (a := (Value.ref a, [Value.ref y])) rfl ?_)
    dsimp only
    refine wpAny_bind (inst_no X J hs ?_)
    exact wpAny_pure (hR _)
theorem c_lst_gt {a : Addr} {oa : Obj} (X : K.In s.heap) (J : InstAt s.heap y oy C oe) (hs : subIn K (.ref C) (.type "list") = some false) (ha : s.heap.get? a = some oa) (hc : oa.cls = .type "list") : DeclinesC prog w A E s (cmpInfo .Gt).2.1 (Value.ref a) y :=
  declC_of (T := "list") ⟨_, ha, hc⟩ F.slot_list_gt F.entry_list_gt (F.args_list_gt_2 _ _) fun E' R hR => by
    unfold Builtin.«list.__gt__»
    refine wpAny_bind (wpAny_of_eq (a := (Value.ref a, [Value.ref y])) rfl ?_)
    dsimp only
    refine wpAny_bind (inst_no X J hs ?_)
    exact wpAny_pure (hR _)

theorem c_int_ge (hy : s.heap.get? y = some (instObj C dx)) : DeclinesC prog w A E s (cmpInfo .GtE).2.1 (Value.int i u) y :=
  declC_of (typeIs_int _ _ _) F.slot_int_ge F.entry_int_ge (F.args_int_ge_2 _ _) fun E' R hR => by
    unfold Builtin.«int.__ge__»
    exact bin_no hy hR
theorem c_bool_ge {b : Bool} (hy : s.heap.get? y = some (instObj C dx)) : DeclinesC prog w A E s (cmpInfo .GtE).2.1 (Value.bool b) y :=
  declC_of (T := "bool") rfl F.slot_bool_ge F.entry_int_ge (F.args_int_ge_2 _ _) fun E' R hR => by
    unfold Builtin.«int.__ge__»
    exact bin_noB hy hR
theorem c_none_ge : DeclinesC prog w A E s (cmpInfo .GtE).2.1 Value.none y :=
  declC_of (T := "NoneType") rfl F.slot_NoneType_ge F.entry_NoneType_ge (F.args_NoneType_ge_2 _ _) fun E' R hR => by
    unfold Builtin.«NoneType.__ge__»
    exact wpAny_bind (wpAny_of_eq (a := (Value.none, [Value.ref y])) rfl (wpAny_pure (hR _)))
theorem c_str_ge {z : Str} (hy : s.heap.get? y = some (instObj C dx)) : DeclinesC prog w A E s (cmpInfo .GtE).2.1 (Value.str z u) y :=
  declC_of (T := "str") rfl F.slot_str_ge F.entry_str_ge (F.args_str_ge_2 _ _) fun E' R hR => by
    unfold Builtin.«str.__ge__»
    exact str_no hy hR
theorem c_tup_ge {a : Addr} {oa : Obj} (X : K.In s.heap) (J : InstAt s.heap y oy C oe) (hs : subIn K (.ref C) (.type "tuple") = some false) (ha : s.heap.get? a = some oa) (hc : oa.cls = .type "tuple") : DeclinesC prog w A E s (cmpInfo .GtE).2.1 (Value.ref a) y :=
  declC_of (T := "tuple") ⟨_, ha, hc⟩ F.slot_tuple_ge F.entry_tuple_ge (F.args_tuple_ge_2 _ _) fun E' R hR => by
    unfold Builtin.«tuple.__ge__»
    refine wpAny_bind (wpAny_of_eq (a := (Value.ref a, [Value.ref y])) rfl ?_)
    dsimp only
    refine wpAny_bind (inst_no X J hs ?_)
    exact wpAny_pure (hR _)
theorem c_lst_ge {a : Addr} {oa : Obj} (X : K.In s.heap) (J : InstAt s.heap y oy C oe) (hs : subIn K (.ref C) (.type "list") = some false) (ha : s.heap.get? a = some oa) (hc : oa.cls = .type "list") : DeclinesC prog w A E s (cmpInfo .GtE).2.1 (Value.ref a) y :=
  declC_of (T := "list") ⟨_, ha, hc⟩ F.slot_list_ge F.entry_list_ge (F.args_list_ge_2 _ _) fun E' R hR => by
    unfold Builtin.«list.__ge__»
    refine wpAny_bind (wpAny_of_eq (a := (Value.ref a, [Value.ref y])) rfl ?_)
    dsimp only
    refine wpAny_bind (inst_no X J hs ?_)
    exact wpAny_pure (hR _)

theorem c_int_eq (hy : s.heap.get? y = some (instObj C dx)) : DeclinesC prog w A E s (cmpInfo .Eq).2.1 (Value.int i u) y :=
  declC_of (typeIs_int _ _ _) F.slot_int_eq F.entry_int_eq (F.args_int_eq_2 _ _) fun E' R hR => by
    unfold Builtin.«int.__eq__»
    exact bin_no hy hR
theorem dic_no {nm : String} {a : Addr} (hT : s.TypeIs (.ref a) "dict") {R : Fin → Shared → Prop} (hR : ∀ t, R (.done (.ret .notImplemented)) { s with toks := t }) : wpAny (model prog w) A (do
    let _ ← Builtin.Dict.dictSlotArgs nm ⟨[Value.ref a, Value.ref y], []⟩
    ret .notImplemented) R E s := by
  refine wpAny_bind ?_
  unfold Builtin.Dict.dictSlotArgs
  refine wpAny_bind (wpAny_notOrdered_dict hT ?_)
  refine wpAny_bind (wpAny_of_eq (a := (Value.ref a, [Value.ref y])) rfl ?_)
  exact wpAny_pure (wpAny_pure (hR _))
theorem c_dic_lt {a : Addr} {oa : Obj} (ha : s.heap.get? a = some oa) (hc : oa.cls = .type "dict") : DeclinesC prog w A E s (cmpInfo .Lt).2.1 (Value.ref a) y :=
  declC_of (T := "dict") ⟨_, ha, hc⟩ F.slot_dict_lt F.entry_dict_lt (F.args_dict_lt_2 _ _) fun E' R hR => by
    exact dic_no (nm := "__lt__") ⟨_, ha, hc⟩ hR
theorem c_dic_le {a : Addr} {oa : Obj} (ha : s.heap.get? a = some oa) (hc : oa.cls = .type "dict") : DeclinesC prog w A E s (cmpInfo .LtE).2.1 (Value.ref a) y :=
  declC_of (T := "dict") ⟨_, ha, hc⟩ F.slot_dict_le F.entry_dict_le (F.args_dict_le_2 _ _) fun E' R hR => by
    exact dic_no (nm := "__le__") ⟨_, ha, hc⟩ hR
theorem c_dic_gt {a : Addr} {oa : Obj} (ha : s.heap.get? a = some oa) (hc : oa.cls = .type "dict") : DeclinesC prog w A E s (cmpInfo .Gt).2.1 (Value.ref a) y :=
  declC_of (T := "dict") ⟨_, ha, hc⟩ F.slot_dict_gt F.entry_dict_gt (F.args_dict_gt_2 _ _) fun E' R hR => by
    exact dic_no (nm := "__gt__") ⟨_, ha, hc⟩ hR
theorem c_dic_ge {a : Addr} {oa : Obj} (ha : s.heap.get? a = some oa) (hc : oa.cls = .type "dict") : DeclinesC prog w A E s (cmpInfo .GtE).2.1 (Value.ref a) y :=
  declC_of (T := "dict") ⟨_, ha, hc⟩ F.slot_dict_ge F.entry_dict_ge (F.args_dict_ge_2 _ _) fun E' R hR => by
    exact dic_no (nm := "__ge__") ⟨_, ha, hc⟩ hR
/-- a built-in value on the left, an own instance on the right -/
theorem cmp_right {op : CmpOp} {a : Value} {Q : Value → Shared → Prop} (hu : A.units < cLine) (X : K.In s.heap) (J : InstAt s.heap y oy C oe) (ha : s.TypeIs a T) (hsub : subIn K (.ref C) (.type T) = some false)
    (no : DeclinesC prog w A E s (cmpInfo op).2.1 a y) (hs : findIn K (.ref C) (cmpInfo op).2.2 = some (some (.ref g))) (hg : isFn K (.ref g) = true)
    (h : ∀ t, wpAny (model prog w) A (call (.ref g) [.ref y, a]) (W.CmpBack Q) E { s with toks := t }) : wpAny (model prog w) A (richCompare op a (.ref y)) Q E s := by
  have one : ∀ t, wpAny (model prog w) A (tryCompare (.ref y) (cmpInfo op).2.2 a) (fun r s' => ∃ v, r = some v ∧ Q v s') E { s with toks := t } := fun t => by
    unfold tryCompare
    refine wpAny_bind (ifBound_K (s := { s with toks := t }) X J hs hg (wpAny_mono (h t) (fun v s' hv => ?_) fun _ _ e => e))
    cases v <;> first | exact hv.elim | exact wpAny_pure ⟨_, rfl, hv⟩
  unfold richCompare
  simp only [ha.oneThing_none]
  refine wpAny_holding (wpAny_bind (wpAny_cRoomFor hu ?_))
  refine wpAny_bind (wpAny_typeOf ha (wpAny_bind (J.type.here ?_)))
  have hne : (Value.type T != Value.ref C) = true := rfl
  simp only [hne, if_true]
  refine wpAny_bind ((looks_subIn X hsub).here ?_)
  simp only [Bool.false_eq_true, if_false, Bool.not_false, if_true]
  refine wpAny_bind (no _ fun t => ?_)
  dsimp only
  refine wpAny_bind (wpAny_mono (one t) (fun r s' z => ?_) fun _ _ e => e)
  obtain ⟨v, rfl, hq⟩ := z
  exact wpAny_pure hq
end
end Oo

set_option Elab.async false
set_option linter.all false
set_option maxRecDepth 100000
set_option maxHeartbeats 1000000
namespace Oo
open PySem PySem.Spec PyProof.Rows L2
/-- a built-in value, its type -/
inductive Bt (H : Hp) : V → String → Prop where
  | non : Bt H .non "NoneType"
  | bl (b : Bool) : Bt H (.bl b) "bool"
  | int (i : Int) : Bt H (.int i) "int"
  | str (z : Str) : Bt H (.str z) "str"
  | lst {a : Addr} {xs : List V} (e : H a = some (.lst xs)) : Bt H (.ref a) "list"
  | tup {a : Addr} {xs : List V} (e : H a = some (.tup xs)) : Bt H (.ref a) "tuple"
  | dK {a : Addr} {kvs : List (Key × V)} (e : H a = some (.dK kvs)) : Bt H (.ref a) "dict"
def seven : List String := ["NoneType", "bool", "int", "str", "list", "tuple", "dict"]
theorem Bt.mem {H : Hp} {x : V} {T : String} (b : Bt H x T) : T ∈ seven := by cases b <;> decide
theorem Bt.ty {K : W.Frag} {H : Hp} {x : V} {T : String} (b : Bt H x T) : TyX K H x (.type T) := .base (by
  cases b with
  | non => exact .non
  | bl b => exact .bl b
  | int i => exact .int i
  | str z => exact .str z
  | lst e => exact .lst e
  | tup e => exact .tup e
  | dK e => exact .dK e)
theorem Bt.ext {H H' : Hp} {x : V} {T : String} (b : Bt H x T) (e : ∀ a o, H a = some o → H' a = some o) : Bt H' x T := by
  cases b with
  | non => exact .non
  | bl b => exact .bl b
  | int i => exact .int i
  | str z => exact .str z
  | lst h => exact .lst (e _ _ h)
  | tup h => exact .tup (e _ _ h)
  | dK h => exact .dK (e _ _ h)
section
variable {X : Cx} {CX : CXT} {pins : List (Addr × Obj)} {σ : L2.St} {H : Hp} {s : Shared} {C f g : Addr} {k : Nat} {sp sq : Sp} {E : XK} {fd gd : FuncData} {ps qs : List Str} {T : String} {K : W.Frag}
theorem Bt.is {x : V} {v : Value} (I : Inv X pins σ H s) (rx : RelV x v) (b : Bt H x T) : s.TypeIs v T := by
  cases b with
  | non => cases (show v = Value.none from rx); rfl
  | bl b => cases (show v = Value.bool b from rx); rfl
  | int i => obtain ⟨t, rfl⟩ := (show ∃ t, v = Value.int i t from rx); rfl
  | str z => obtain ⟨t, rfl⟩ := (show ∃ t, v = Value.str z t from rx); rfl
  | @lst a xs e =>
    cases (show v = Value.ref a from rx)
    obtain ⟨_, _, n, _, h1⟩ := (show ObjOk X.prog X.w H s.heap a (.lst xs) from I.hok a _ e)
    exact ⟨_, h1, rfl⟩
  | @tup a xs e =>
    cases (show v = Value.ref a from rx)
    obtain ⟨_, _, _, o, h1, h2, _⟩ := (show ObjOk X.prog X.w H s.heap a (.tup xs) from I.hok a _ e)
    exact ⟨o, h1, h2⟩
  | @dK a kvs e =>
    cases (show v = Value.ref a from rx)
    obtain ⟨_, _, vs, _, o, es, ep, h1, h2, _⟩ := (show ObjOk X.prog X.w H s.heap a (.dK kvs) from I.hok a _ e)
    exact ⟨o, h1, h2.1⟩
theorem is_keeps {s s' : Shared} {v : Value} (h : s.TypeIs v T) (kp : ∀ b o, s.heap.get? b = some o → s'.heap.get? b = some o) : s'.TypeIs v T := by
  cases v with
  | ref a =>
    obtain ⟨o, e, c⟩ := h
    exact ⟨o, kp _ _ e, c⟩
  | _ => exact h
/-- a class right below object -/
def Plain (K : W.Frag) (C : Addr) : Prop := ∃ cd, W.clsIn K C = some cd ∧ cd.mro = [.ref C, .type "object"]
theorem sub_C (p : Plain K C) (h : T ≠ "object") : W.subIn K (.ref C) (.type T) = some false := by
  obtain ⟨cd, e, m⟩ := p
  show W.mroIn K C (.type T) = _
  unfold W.mroIn
  rw [e]
  show (if cd.mro.isEmpty then none else some (cd.mro.contains (.type T))) = _
  rw [m]
  show some ([Value.ref C, Value.type "object"].contains (.type T)) = some false
  congr 1
  rw [Bool.eq_false_iff]
  intro z
  rw [List.contains_iff_mem] at z
  simp at z
  exact h z
theorem sub_T (h : T ∈ seven) : W.subIn K (.type T) (.ref C) = some false := by
  have key : ∀ l : List String, (l.map Value.type).contains (.ref C) = false := fun l => by
    rw [Bool.eq_false_iff]
    intro z
    rw [List.contains_iff_mem] at z
    obtain ⟨a, _, e⟩ := List.mem_map.mp z
    cases e
  have m : ∀ {T : String} {l : List String}, fastBuiltinMro T = some (l.map Value.type) → W.subIn K (.type T) (.ref C) = some false := fun {T l} e => by
    show (fastBuiltinMro T).map (·.contains (.ref C)) = _
    rw [e]
    exact congrArg some (key l)
  simp only [seven, List.mem_cons, List.not_mem_nil, or_false] at h
  rcases h with rfl | rfl | rfl | rfl | rfl | rfl | rfl
  · exact m (l := ["NoneType", "object"]) (by decide +kernel)
  · exact m (l := ["bool", "int", "object"]) (by decide +kernel)
  · exact m (l := ["int", "object"]) (by decide +kernel)
  · exact m (l := ["str", "object"]) (by decide +kernel)
  · exact m (l := ["list", "object"]) (by decide +kernel)
  · exact m (l := ["tuple", "object"]) (by decide +kernel)
  · exact m (l := ["dict", "object"]) (by decide +kernel)
theorem not_obj (h : T ∈ seven) : T ≠ "object" := fun e => by
  subst e
  revert h
  decide
theorem kit_no (h : T ∈ seven) (ks : (W.clsIn K C).isSome = true) (kt : W.typeIn K (.ref C) = some (.type "type")) : W.kitOne K (.type T) (.ref C) = some false := by
  unfold W.kitOne
  rw [if_neg (by simp)]
  unfold W.kitCls
  simp only [ks, kt, Bool.true_and, beq_self_eq_true, if_true]
  exact sub_T h
/-! ### comparisons -/
def Four (op : CmpOp) : Prop := op = .Lt ∨ op = .LtE ∨ op = .Gt ∨ op = .GtE
theorem four_rich {op : CmpOp} (h : Four op) {M : Model} {A : Around} {E : Value → Shared → Prop} {a b : Value} {Q : Value → Shared → Prop} (z : wpAny M A (richCompare op a b) Q E s) : wpAny M A (compareOp op a b) Q E s := by
  rcases h with rfl | rfl | rfl | rfl <;> exact z
/-- an own instance on the left -/
def rCmpL (C : Addr) (sp : Sp) (E : XK) : R2 := fun x y H Q => ∃ a dx fs, x = .ref a ∧ H a = some (.ins C dx fs) ∧ ((∃ b dy gs, y = .ref b ∧ H b = some (.ins C dy gs)) ∨ ∃ T, Bt H y T) ∧ sp [x, y] H Q E
theorem op_cmpL {op : CmpOp} (h6 : ∀ (M : Model) (A : Around) (E : Value → Shared → Prop) (s : Shared) (a b : Value) (Q : Value → Shared → Prop), wpAny M A (richCompare op a b) Q E s → wpAny M A (compareOp op a b) Q E s)
    (hs : W.findIn X.K (.ref C) (cmpInfo op).2.1 = some (some (.ref f))) (hf : W.isFn X.K (.ref f) = true) (F : FnOk X.prog X.w X.K X.mg X.base CX k f fd ps sp) (hb : Binds X.K fd ps []) (hx : Passes CX X E) (hr : Room k X.A) :
    OpR X (compareOp op) (rCmpL C sp E) := fun pins s σ H x y v u Q I rx ry h => by
  obtain ⟨a, dx, fs, rfl, ha, hy, z⟩ := h
  cases (show v = Value.ref a from rx)
  obtain ⟨od, J, _⟩ := inst_at I ha
  obtain ⟨m, hF⟩ := I.fr
  refine h6 _ _ _ _ _ _ _ ?_
  have go := wpAny_mono (run_fn (E := E) (us := [.ref a, u]) (vs := [.ref a, y]) F hr hb .nil hx I (.cons rfl (.cons ry .nil)) (by simpa using z)) (fun v' s' ⟨z', H', I', rz, qz⟩ => SlX.cmpback (P := EP X pins σ Q) rz ⟨z', H', I', rz, qz⟩) fun _ _ z => z
  rcases hy with ⟨b, dy, gs, rfl, hb2⟩ | ⟨T, bt⟩
  · cases (show u = Value.ref b from ry)
    obtain ⟨oe, J2, _⟩ := inst_at I hb2
    refine W.cmp_K (op := op) (tb := .ref C) hr.units0 hF I.ok.mod.kin J J2.type ?_ hs hf go
    unfold W.notFirst
    rw [beq_self_eq_true]
    rfl
  · refine W.cmp_K (op := op) (tb := .type T) hr.units0 hF I.ok.mod.kin J (fun A Q E s' kp q => wpAny_typeOf (is_keeps (bt.is I ry) kp) q) ?_ hs hf go
    unfold W.notFirst
    rw [sub_T bt.mem]
    simp
theorem decl_any {op : CmpOp} (h4 : Four op) {x : V} {v : Value} {b dy : Addr} {oe : Option Obj} (p : Plain X.K C) (I : Inv X pins σ H s) (rx : RelV x v) (bt : Bt H x T) (J : W.InstAt s.heap b (W.instObj C dy) C oe) {E' : Value → Shared → Prop} :
    DeclinesC X.prog X.w X.A E' s (cmpInfo op).2.1 v b := by
  have hy := J.at_
  cases bt with
  | non =>
    cases (show v = Value.none from rx)
    rcases h4 with rfl | rfl | rfl | rfl
    · exact c_none_lt
    · exact c_none_le
    · exact c_none_gt
    · exact c_none_ge
  | bl c =>
    cases (show v = Value.bool c from rx)
    rcases h4 with rfl | rfl | rfl | rfl
    · exact c_bool_lt hy
    · exact c_bool_le hy
    · exact c_bool_gt hy
    · exact c_bool_ge hy
  | int i =>
    obtain ⟨t, rfl⟩ := (show ∃ t, v = Value.int i t from rx)
    rcases h4 with rfl | rfl | rfl | rfl
    · exact c_int_lt hy
    · exact c_int_le hy
    · exact c_int_gt hy
    · exact c_int_ge hy
  | str z =>
    obtain ⟨t, rfl⟩ := (show ∃ t, v = Value.str z t from rx)
    rcases h4 with rfl | rfl | rfl | rfl
    · exact c_str_lt hy
    · exact c_str_le hy
    · exact c_str_gt hy
    · exact c_str_ge hy
  | @lst a xs e =>
    cases (show v = Value.ref a from rx)
    obtain ⟨_, _, n, _, h1⟩ := (show ObjOk X.prog X.w H s.heap a (.lst xs) from I.hok a _ e)
    have hs := sub_C (K := X.K) (T := "list") p (by decide)
    rcases h4 with rfl | rfl | rfl | rfl
    · exact c_lst_lt I.kIn J hs h1 rfl
    · exact c_lst_le I.kIn J hs h1 rfl
    · exact c_lst_gt I.kIn J hs h1 rfl
    · exact c_lst_ge I.kIn J hs h1 rfl
  | @tup a xs e =>
    cases (show v = Value.ref a from rx)
    obtain ⟨_, _, _, o, h1, h2, _⟩ := (show ObjOk X.prog X.w H s.heap a (.tup xs) from I.hok a _ e)
    have hs := sub_C (K := X.K) (T := "tuple") p (by decide)
    rcases h4 with rfl | rfl | rfl | rfl
    · exact c_tup_lt I.kIn J hs h1 h2
    · exact c_tup_le I.kIn J hs h1 h2
    · exact c_tup_gt I.kIn J hs h1 h2
    · exact c_tup_ge I.kIn J hs h1 h2
  | @dK a kvs e =>
    cases (show v = Value.ref a from rx)
    obtain ⟨_, _, vs, _, o, es, ep, h1, h2, _⟩ := (show ObjOk X.prog X.w H s.heap a (.dK kvs) from I.hok a _ e)
    rcases h4 with rfl | rfl | rfl | rfl
    · exact c_dic_lt h1 h2.1
    · exact c_dic_le h1 h2.1
    · exact c_dic_gt h1 h2.1
    · exact c_dic_ge h1 h2.1
/-- a built-in value on the left, an own instance on the right -/
def rCmpR (C : Addr) (sq : Sp) (E : XK) : R2 := fun x y H Q => ∃ b dy gs T, y = .ref b ∧ H b = some (.ins C dy gs) ∧ Bt H x T ∧ sq [y, x] H Q E
theorem op_cmpR {op : CmpOp} (h4 : Four op) (p : Plain X.K C) (hs : W.findIn X.K (.ref C) (cmpInfo op).2.2 = some (some (.ref g))) (hf : W.isFn X.K (.ref g) = true) (G : FnOk X.prog X.w X.K X.mg X.base CX k g gd qs sq) (hb : Binds X.K gd qs []) (hx : Passes CX X E) (hr : Room k X.A) :
    OpR X (compareOp op) (rCmpR C sq E) := fun pins s σ H x y v u Q I rx ry h => by
  obtain ⟨b, dy, gs, T, rfl, hb2, bt, z⟩ := h
  cases (show u = Value.ref b from ry)
  obtain ⟨oe, J2, e2⟩ := inst_at I hb2
  refine four_rich h4 ?_
  refine cmp_right hr.units0 I.kIn J2 (bt.is I rx) (sub_C p (not_obj bt.mem)) (decl_any h4 p I rx bt J2) hs hf fun t => ?_
  have I2 : Inv X pins σ H { s with toks := t } := I.tok t
  exact wpAny_mono (run_fn (E := E) (us := [.ref b, v]) (vs := [.ref b, x]) G hr hb .nil hx I2 (.cons rfl (.cons rx .nil)) (by simpa using z)) (fun v' s' ⟨z', H', I', rz, qz⟩ => SlX.cmpback (P := EP X pins σ Q) rz ⟨z', H', I', rz, qz⟩) fun _ _ z => z
end
end Oo

set_option Elab.async false
set_option linter.all false
set_option maxRecDepth 100000
set_option maxHeartbeats 1000000
/-! Operators of an own instance and any built-in value. -/
namespace Oo
open PySem PySem.Spec PySem.W PyProof.Rows
section
variable {prog : Program} {w : World} {A : Around} {E : Value → Shared → Prop} {s : Shared} {K : Frag} {x y C f g : Addr} {ox oy : Obj} {od oe : Option Obj} {nm T : String}
theorem b1_leftL {b : Value} {fo ro rc : Option Value} {Q : Value → Shared → Prop} (X : K.In s.heap) (I : InstAt s.heap x ox C od) (hb : s.TypeIs b T) (hc : selfFirst K C = true)
    (hs : findIn K (.ref C) (PySem.dunder nm) = some (some (.ref f))) (hf : isFn K (.ref f) = true) (hr : findIn K (.ref C) (dunderR nm) = some rc) (hp : rc = none ∨ ∃ g : Addr, rc = some (.ref g))
    (h1 : findIn K (.type T) (PySem.dunder nm) = some fo) (h2 : findIn K (.type T) (dunderR nm) = some ro) (hsub : subIn K (.type T) (.ref C) = some false)
    (h : wpAny (model prog w) A (call (.ref f) [.ref x, b]) (W.CmpBack Q) E s) : wpAny (model prog w) A (binaryOp1 nm (.ref x) b) (fun r s' => ∃ v, r = some v ∧ Q v s') E s := by
  obtain ⟨cd, rest, hcd, hm⟩ := ksp_first hc
  have one := ksp_try X I hs hf h
  obtain ⟨hh, gg, d, tt, os⟩ := s
  have L1 : Looks (model prog w) hh (typeOf (.ref x)) (.ref C) := I.type
  have L2 : Looks (model prog w) hh (typeOf b) (.type T) := fun A Q E s' kp q => wpAny_typeOf (is_keeps hb kp) q
  have L3 : Looks (model prog w) hh (fillsNumberSlot (.ref C) nm) true := fills_K X hcd hm hs
  have L4 : Looks (model prog w) hh (fillsNumberSlot (.type T) nm) ((fo.isSome && !isSeqSlot fo) || (ro.isSome && !isSeqSlot ro)) := ksp_fillsT X h1 h2
  have L5 : Looks (model prog w) hh (isSubtype (.type T) (.ref C)) false := looks_subIn X hsub
  have L6 : Looks (model prog w) hh (numberSlotInPython (.ref C) nm) true := ksp_inPy X hs hr hp
  have L7 : Looks (model prog w) hh (numberSlotInPython (.type T) nm) false := Looks.of_pure rfl
  have L8 : Looks (model prog w) hh (typeLookup (.type T) (dunderR nm)) ro := looks_findIn X h2
  generalize ((fo.isSome && !isSeqSlot fo) || (ro.isSome && !isSeqSlot ro)) = right at L4
  have hne : (Value.ref C == Value.type T) = false := Bool.eq_false_iff.mpr fun q => by cases beq_iff_eq.mp q
  unfold binaryOp1
  refine wpAny_bind (L1.at (wpAny_bind (L2.at (wpAny_bind (L3.at ?_)))))
  simp only [hne, Bool.false_eq_true, if_false]
  cases right with
  | false =>
    ksp_lk
    refine wpAny_mono one (fun r s' hr' => ?_) fun _ _ e => e
    obtain ⟨v, rfl, hq⟩ := hr'
    ksp_lk
    exact ⟨v, rfl, hq⟩
  | true =>
    ksp_lk
    refine wpAny_mono one (fun r s' hr' => ?_) fun _ _ e => e
    obtain ⟨v, rfl, hq⟩ := hr'
    ksp_lk
    exact ⟨v, rfl, hq⟩

theorem b1_rightL {a : Value} {fo ro : Option Value} {Q : Value → Shared → Prop} (X : K.In s.heap) (J : InstAt s.heap y oy C oe) (ha : s.TypeIs a T) (hc : selfFirst K C = true)
    (hs : findIn K (.ref C) (PySem.dunder nm) = some (some (.ref f))) (hr : findIn K (.ref C) (dunderR nm) = some (some (.ref g))) (hg : isFn K (.ref g) = true)
    (h1 : findIn K (.type T) (PySem.dunder nm) = some fo) (h2 : findIn K (.type T) (dunderR nm) = some ro) (hsub : subIn K (.ref C) (.type T) = some false)
    (no : ((fo.isSome && !isSeqSlot fo) || (ro.isSome && !isSeqSlot ro)) = true → Declines prog w A E s nm a y)
    (h : ∀ t, wpAny (model prog w) A (call (.ref g) [.ref y, a]) (W.CmpBack Q) E { s with toks := t }) : wpAny (model prog w) A (binaryOp1 nm a (.ref y)) (fun r s' => ∃ v, r = some v ∧ Q v s') E s := by
  obtain ⟨cd, rest, hcd, hm⟩ := ksp_first hc
  have one : ∀ t, wpAny (model prog w) A (tryMethod (.ref y) (dunderR nm) a) (fun r s' => ∃ v, r = some v ∧ Q v s') E { s with toks := t } := fun t => ksp_try (s := { s with toks := t }) X J hr hg (h t)
  obtain ⟨hh, gg, d, tt, os⟩ := s
  have L1 : Looks (model prog w) hh (typeOf a) (.type T) := fun A Q E s' kp q => wpAny_typeOf (is_keeps ha kp) q
  have L2 : Looks (model prog w) hh (typeOf (.ref y)) (.ref C) := J.type
  have L3 : Looks (model prog w) hh (fillsNumberSlot (.ref C) nm) true := fills_K X hcd hm hs
  have L4 : Looks (model prog w) hh (fillsNumberSlot (.type T) nm) ((fo.isSome && !isSeqSlot fo) || (ro.isSome && !isSeqSlot ro)) := ksp_fillsT X h1 h2
  have L5 : Looks (model prog w) hh (isSubtype (.ref C) (.type T)) false := looks_subIn X hsub
  have L7 : Looks (model prog w) hh (numberSlotInPython (.type T) nm) false := Looks.of_pure rfl
  have hne : (Value.type T == Value.ref C) = false := Bool.eq_false_iff.mpr fun q => by cases beq_iff_eq.mp q
  generalize hl : ((fo.isSome && !isSeqSlot fo) || (ro.isSome && !isSeqSlot ro)) = left at L4 no
  unfold binaryOp1
  refine wpAny_bind (L1.at (wpAny_bind (L2.at (wpAny_bind (L4.at ?_)))))
  simp only [hne, Bool.false_eq_true, if_false]
  cases left with
  | false =>
    ksp_lk
    refine wpAny_mono (one tt) (fun r s' hr' => ?_) fun _ _ e => e
    obtain ⟨v, rfl, hq⟩ := hr'
    ksp_lk
    exact ⟨v, rfl, hq⟩
  | true =>
    ksp_lk
    refine no rfl _ fun t => ?_
    ksp_lk
    refine wpAny_mono (one t) (fun r s' hr' => ?_) fun _ _ e => e
    obtain ⟨v, rfl, hq⟩ := hr'
    ksp_lk
    exact ⟨v, rfl, hq⟩


variable {b : Bool} {dx : Addr}
theorem decl_ofB {id : String} {B : Builtin} (slot : Slot "bool" (PySem.dunder nm) id) (entry : entryFor table id = some B) (args : argsOk id ⟨[.bool b, .ref y], []⟩)
    (body : ∀ (E' : Value → Shared → Prop) (R : Fin → Shared → Prop), (∀ t, R (.done (.ret .notImplemented)) { s with toks := t }) → wpAny (model prog w) A.in1 (B ⟨[.bool b, .ref y], []⟩) R E' s) : Declines prog w A E s nm (.bool b) y := by
  intro R hR
  have hT : s.TypeIs (.bool b) "bool" := rfl
  unfold tryMethod
  refine wpAny_bind (wpAny_callSpecial?_slot hT slot (GQ.call_here slot hT entry args (body _ _ fun t => ?_)))
  exact wpAny_pure (hR t)
theorem pylong_noB {R : Unit → Shared → Prop} {M : Model} (hy : s.heap.get? y = some (instObj C dx)) (h : R () s) : wpAny M A (Builtin.exactOperandsForPylong false ⟨[Value.bool b, Value.ref y], []⟩) R E s := by
  unfold Builtin.exactOperandsForPylong
  refine wpAny_ite_true rfl ?_
  cases b
  · refine wpAny_bind (wpAny_of_eq (a := some 0) rfl ?_)
    refine wpAny_bind (asInt_inst hy ?_)
    exact wpAny_pure h
  · refine wpAny_bind (wpAny_of_eq (a := some 1) rfl ?_)
    refine wpAny_bind (asInt_inst hy ?_)
    exact wpAny_pure h
theorem add_noB {R : Fin → Shared → Prop} (hy : s.heap.get? y = some (instObj C dx)) (hR : ∀ t, R (.done (.ret .notImplemented)) { s with toks := t }) : wpAny (model prog w) A (Builtin.«int.__add__» ⟨[Value.bool b, Value.ref y], []⟩) R E s := by
  unfold Builtin.«int.__add__»
  exact bin_noB hy hR
theorem addB2 : entryFor table "int.__add__" = some Builtin.«int.__add__» := F.entry_int_add
theorem addB3 : argsOk "int.__add__" ⟨[Value.bool b, Value.ref y], []⟩ := F.args_int_add_2 _ _
theorem addBd' {B : Builtin} (hB : Builtin.«int.__add__» = B) (h2 : entryFor table "int.__add__" = some B) (hy : s.heap.get? y = some (instObj C dx)) : Declines prog w A E s "add" (Value.bool b) y :=
  decl_ofB (nm := "add") (id := "int.__add__") (B := B) (b := b) F.slot_bool_add h2 addB3 (hB ▸ fun E' R hR => add_noB hy hR)
theorem addBd (hy : s.heap.get? y = some (instObj C dx)) : Declines prog w A E s "add" (Value.bool b) y := addBd' rfl addB2 hy
theorem sub_noB {R : Fin → Shared → Prop} (hy : s.heap.get? y = some (instObj C dx)) (hR : ∀ t, R (.done (.ret .notImplemented)) { s with toks := t }) : wpAny (model prog w) A (Builtin.«int.__sub__» ⟨[Value.bool b, Value.ref y], []⟩) R E s := by
  unfold Builtin.«int.__sub__»
  exact bin_noB hy hR
theorem subB2 : entryFor table "int.__sub__" = some Builtin.«int.__sub__» := F.entry_int_sub
theorem subB3 : argsOk "int.__sub__" ⟨[Value.bool b, Value.ref y], []⟩ := F.args_int_sub_2 _ _
theorem subBd' {B : Builtin} (hB : Builtin.«int.__sub__» = B) (h2 : entryFor table "int.__sub__" = some B) (hy : s.heap.get? y = some (instObj C dx)) : Declines prog w A E s "sub" (Value.bool b) y :=
  decl_ofB (nm := "sub") (id := "int.__sub__") (B := B) (b := b) F.slot_bool_sub h2 subB3 (hB ▸ fun E' R hR => sub_noB hy hR)
theorem subBd (hy : s.heap.get? y = some (instObj C dx)) : Declines prog w A E s "sub" (Value.bool b) y := subBd' rfl subB2 hy
theorem mul_noB {R : Fin → Shared → Prop} (hy : s.heap.get? y = some (instObj C dx)) (hR : ∀ t, R (.done (.ret .notImplemented)) { s with toks := t }) : wpAny (model prog w) A (Builtin.«int.__mul__» ⟨[Value.bool b, Value.ref y], []⟩) R E s := by
  unfold Builtin.«int.__mul__»
  exact bin_noB hy hR
theorem mulB2 : entryFor table "int.__mul__" = some Builtin.«int.__mul__» := F.entry_int_mul
theorem mulB3 : argsOk "int.__mul__" ⟨[Value.bool b, Value.ref y], []⟩ := F.args_int_mul_2 _ _
theorem mulBd' {B : Builtin} (hB : Builtin.«int.__mul__» = B) (h2 : entryFor table "int.__mul__" = some B) (hy : s.heap.get? y = some (instObj C dx)) : Declines prog w A E s "mul" (Value.bool b) y :=
  decl_ofB (nm := "mul") (id := "int.__mul__") (B := B) (b := b) F.slot_bool_mul h2 mulB3 (hB ▸ fun E' R hR => mul_noB hy hR)
theorem mulBd (hy : s.heap.get? y = some (instObj C dx)) : Declines prog w A E s "mul" (Value.bool b) y := mulBd' rfl mulB2 hy
theorem mod_noB {R : Fin → Shared → Prop} (hy : s.heap.get? y = some (instObj C dx)) (hR : ∀ t, R (.done (.ret .notImplemented)) { s with toks := t }) : wpAny (model prog w) A (Builtin.«int.__mod__» ⟨[Value.bool b, Value.ref y], []⟩) R E s := by
  unfold Builtin.«int.__mod__»
  exact bin_noB hy hR
theorem modB2 : entryFor table "int.__mod__" = some Builtin.«int.__mod__» := F.entry_int_mod
theorem modB3 : argsOk "int.__mod__" ⟨[Value.bool b, Value.ref y], []⟩ := F.args_int_mod_2 _ _
theorem modBd' {B : Builtin} (hB : Builtin.«int.__mod__» = B) (h2 : entryFor table "int.__mod__" = some B) (hy : s.heap.get? y = some (instObj C dx)) : Declines prog w A E s "mod" (Value.bool b) y :=
  decl_ofB (nm := "mod") (id := "int.__mod__") (B := B) (b := b) F.slot_bool_mod h2 modB3 (hB ▸ fun E' R hR => mod_noB hy hR)
theorem modBd (hy : s.heap.get? y = some (instObj C dx)) : Declines prog w A E s "mod" (Value.bool b) y := modBd' rfl modB2 hy
theorem floordiv_noB {R : Fin → Shared → Prop} (hy : s.heap.get? y = some (instObj C dx)) (hR : ∀ t, R (.done (.ret .notImplemented)) { s with toks := t }) : wpAny (model prog w) A (Builtin.«int.__floordiv__» ⟨[Value.bool b, Value.ref y], []⟩) R E s := by
  unfold Builtin.«int.__floordiv__»
  exact wpAny_bind (pylong_noB hy (bin_noB hy hR))
theorem floordivB2 : entryFor table "int.__floordiv__" = some Builtin.«int.__floordiv__» := F.entry_int_floordiv
theorem floordivB3 : argsOk "int.__floordiv__" ⟨[Value.bool b, Value.ref y], []⟩ := F.args_int_floordiv_2 _ _
theorem floordivBd' {B : Builtin} (hB : Builtin.«int.__floordiv__» = B) (h2 : entryFor table "int.__floordiv__" = some B) (hy : s.heap.get? y = some (instObj C dx)) : Declines prog w A E s "floordiv" (Value.bool b) y :=
  decl_ofB (nm := "floordiv") (id := "int.__floordiv__") (B := B) (b := b) F.slot_bool_floordiv h2 floordivB3 (hB ▸ fun E' R hR => floordiv_noB hy hR)
theorem floordivBd (hy : s.heap.get? y = some (instObj C dx)) : Declines prog w A E s "floordiv" (Value.bool b) y := floordivBd' rfl floordivB2 hy
theorem decl_fiveB {op : Operator} (h : Five op) (hy : s.heap.get? y = some (instObj C dx)) : Declines prog w A E s op.info.2 (Value.bool b) y := by
  rcases h with rfl | rfl | rfl | rfl | rfl
  · exact addBd hy
  · exact subBd hy
  · exact mulBd hy
  · exact modBd hy
  · exact floordivBd hy
/-! ### what the built-in types have -/
def nm5 : List String := ["add", "sub", "mul", "mod", "floordiv"]
theorem seven_has : (seven.all fun T => nm5.all fun nm => (fastLookup T (PySem.dunder nm)).isSome && (fastLookup T (dunderR nm)).isSome) = true := by decide +kernel
/-- what no number slot of a type answers -/
def noSlot (T nm : String) : Bool := match fastLookup T (PySem.dunder nm), fastLookup T (dunderR nm) with
  | some fo, some ro => !((fo.isSome && !isSeqSlot fo) || (ro.isSome && !isSeqSlot ro))
  | _, _ => false
theorem seven_no : ((["NoneType", "list", "tuple", "dict"] : List String).all fun T => nm5.all fun nm => noSlot T nm) = true := by decide +kernel
theorem str_noS : ((["add", "sub", "mul", "floordiv"] : List String).all fun nm => noSlot "str" nm) = true := by decide +kernel
theorem five_mem {op : Operator} (h : Five op) : op.info.2 ∈ nm5 := by rcases h with rfl | rfl | rfl | rfl | rfl <;> decide
theorem has_of {op : Operator} (h5 : Five op) (h : T ∈ seven) : (∃ fo, findIn K (.type T) (PySem.dunder op.info.2) = some fo) ∧ ∃ ro, findIn K (.type T) (dunderR op.info.2) = some ro := by
  obtain ⟨a, b⟩ := Bool.and_eq_true_iff.mp (List.all_eq_true.mp (List.all_eq_true.mp seven_has T h) _ (five_mem h5))
  exact ⟨Option.isSome_iff_exists.mp a, Option.isSome_iff_exists.mp b⟩
end
end Oo
namespace Oo
open PySem PySem.Spec PyProof.Rows L2
section
variable {X : Cx} {CX : CXT} {pins : List (Addr × Obj)} {σ : L2.St} {H : Hp} {s : Shared} {C f : Addr} {g : Option Addr} {k : Nat} {sp sq : Sp} {E : XK} {fd gd : FuncData} {ps qs : List Str} {op : Operator}
/-- an own instance on the left, any built-in value on the right -/
def rBinL (C : Addr) (sp : Sp) (E : XK) : R2 := fun x y H Q => ∃ a dx fs T, x = .ref a ∧ H a = some (.ins C dx fs) ∧ Bt H y T ∧ sp [x, y] H Q E
theorem op_binL (h5 : Five op) (B : OwnBin X.K C op.info.2 f g) (F : FnOk X.prog X.w X.K X.mg X.base CX k f fd ps sp) (hb : Binds X.K fd ps []) (hx : Passes CX X E) (hr : Room k X.A) : OpR X (binaryOp op) (rBinL C sp E) := fun pins s σ H x y v u Q I rx ry h => by
  obtain ⟨a, dx, fs, T, rfl, ha, bt, q⟩ := h
  cases (show v = Value.ref a from rx)
  obtain ⟨od, J, _⟩ := inst_at I ha
  obtain ⟨⟨fo, h1⟩, ro, h2⟩ := has_of (K := X.K) h5 bt.mem
  refine bin_of (b1_leftL I.kIn J (bt.is I ry) B.sf B.hs B.hf B.hr ?_ h1 h2 (sub_T bt.mem) (wpAny_mono (run_fn (us := [.ref a, u]) (vs := [.ref a, y]) F hr hb .nil hx I (.cons rfl (.cons ry .nil)) (by simpa using q)) (fun z s' ⟨z', H', I', rz, q⟩ => SlX.cmpback rz ⟨z', H', I', rz, q⟩) fun _ _ z => z))
  cases g with
  | none => exact .inl rfl
  | some a => exact .inr ⟨a, rfl⟩
/-- any built-in value on the left, an own instance on the right; a text is not formatted -/
def rBinR (C : Addr) (sq : Sp) (E : XK) (nm : String) : R2 := fun x y H Q => ∃ b dy gs T, y = .ref b ∧ H b = some (.ins C dy gs) ∧ Bt H x T ∧ (T = "str" → nm ≠ "mod") ∧ sq [y, x] H Q E
theorem op_binR {g : Addr} (h5 : Five op) (B : OwnBin X.K C op.info.2 f (some g)) (G : FnOk X.prog X.w X.K X.mg X.base CX k g gd qs sq) (hb : Binds X.K gd qs []) (p : Plain X.K C) (hx : Passes CX X E) (hr : Room k X.A) : OpR X (binaryOp op) (rBinR C sq E op.info.2) := fun pins s σ H x y v u Q I rx ry h => by
  obtain ⟨b, dy, gs, T, rfl, hb2, bt, nm, q⟩ := h
  cases (show u = Value.ref b from ry)
  obtain ⟨oe, J2, e2⟩ := inst_at I hb2
  obtain ⟨⟨fo, h1⟩, ro, h2⟩ := has_of (K := X.K) h5 bt.mem
  have hr2 : W.findIn X.K (.ref C) (dunderR op.info.2) = some (some (.ref g)) := by rw [B.hr]; rfl
  have off : noSlot T op.info.2 = true → ((fo.isSome && !isSeqSlot fo) || (ro.isSome && !isSeqSlot ro)) = true → Declines X.prog X.w X.A X.xe s op.info.2 v b := fun n z => by
    unfold noSlot at n
    rw [show fastLookup T (PySem.dunder op.info.2) = some fo from h1, show fastLookup T (dunderR op.info.2) = some ro from h2] at n
    dsimp only at n
    rw [z] at n
    cases n
  refine bin_of (b1_rightL I.kIn J2 (bt.is I rx) B.sf B.hs hr2 (B.hg g rfl) h1 h2 (sub_C p (not_obj bt.mem)) ?_ fun t => ?_)
  · cases bt with
    | non => exact off (List.all_eq_true.mp (List.all_eq_true.mp seven_no "NoneType" (by decide)) _ (five_mem h5))
    | bl c =>
      cases (show v = Value.bool c from rx)
      exact fun _ => decl_fiveB h5 e2
    | int i =>
      obtain ⟨t, rfl⟩ := (show ∃ t, v = Value.int i t from rx)
      exact fun _ => decl_five h5 e2
    | str z =>
      refine off (List.all_eq_true.mp str_noS _ ?_)
      have := nm rfl
      rcases h5 with rfl | rfl | rfl | rfl | rfl
      · decide
      · decide
      · decide
      · exact absurd rfl this
      · decide
    | lst e => exact off (List.all_eq_true.mp (List.all_eq_true.mp seven_no "list" (by decide)) _ (five_mem h5))
    | tup e => exact off (List.all_eq_true.mp (List.all_eq_true.mp seven_no "tuple" (by decide)) _ (five_mem h5))
    | dK e => exact off (List.all_eq_true.mp (List.all_eq_true.mp seven_no "dict" (by decide)) _ (five_mem h5))
  · have I2 : Inv X pins σ H { s with toks := t } := I.tok t
    exact wpAny_mono (run_fn (us := [.ref b, v]) (vs := [.ref b, x]) G hr hb .nil hx I2 (.cons rfl (.cons rx .nil)) (by simpa using q)) (fun z s' ⟨z', H', I', rz, q⟩ => SlX.cmpback rz ⟨z', H', I', rz, q⟩) fun _ _ z => z
end
end Oo

set_option Elab.async false
set_option linter.all false
set_option maxRecDepth 100000
set_option maxHeartbeats 1000000
/-! == and != of an own instance and any value. -/
namespace Oo
open PySem PySem.Spec PySem.W PyProof.Rows
section
variable {prog : Program} {w : World} {A : Around} {E : Value → Shared → Prop} {s : Shared} {K : Frag} {x C f : Addr} {B : String} {bm : List Value} {b : Value} {T : String}
/-- what the own == says of b, turned -/
def Turned (prog : Program) (w : World) (A : Around) (E : Value → Shared → Prop) (f x : Addr) (b : Value) (R : Bool → Shared → Prop) (s : Shared) : Prop :=
  wpAny (model prog w) A (call (.ref f) [.ref x, b]) (fun v s' => ∃ c, v = .bool c ∧ R (!c) s') E s
theorem ne_entry {Q : Fin → Shared → Prop} (X : s.heap.OwnEqNoNe x C f B bm) (hu : A.units < cLine) (go : Turned prog w A E f x b (fun c s' => Q (.done (.ret (.bool c))) s') s) :
    wpAny (model prog w) A (Builtin.«object.__ne__» ⟨[.ref x, b], []⟩) Q E s := by
  obtain ⟨h, g, d, t, os⟩ := s
  have own := X.ownEq
  have first := wpAny_callSpecialIfBound?_own (A := A) (E := E) (M := model prog w) (args := [b]) (g := g) (d := d) (t := t) (os := os) own (Q := fun r s' => ∃ c, r = some (.bool c) ∧ Q (.done (.ret (.bool (!c)))) s')
    (wpAny_mono go (fun r s' hr => let ⟨c, e, q⟩ := hr; ⟨c, by rw [e], q⟩) fun _ _ e => e)
  unfold Builtin.«object.__ne__»
  repeat (first
    | with_reducible refine wpAny_cRoomFor hu ?_
    | (refine wpAny_bind (m := callSpecialIfBound? (.ref x) (Str.ofString "__eq__") [b]) (wpAny_mono first (fun r s' hr => by
        obtain ⟨c, rfl, hq⟩ := hr
        repeat (first | exact hq | exact wpAny_pure hq | exact wpAny_truthy_bool hq | (refine wpAny_bind (m := truthy (.bool _)) (wpAny_truthy_bool ?_)) | wp_step)) fun _ _ e => e))
    | wp_step)
theorem ne_try {Q : Option Value → Shared → Prop} (FB : CmpFacts B bm) (X : s.heap.OwnEqNoNe x C f B bm) (hu : A.units + 1 < cLine) (go : Turned prog w A.in1 E f x b (fun c s' => Q (some (.bool c)) s') s) :
    wpAny (model prog w) A (tryCompare (.ref x) "__ne__" b) Q E s := by
  obtain ⟨h, g, d, t, os⟩ := s
  obtain ⟨o, of, nm, q, N, bs, hdct, sn, sub, ab, col, dd, k0, k1, k2, k3, k5, nid, mN, yv, p1, p2, p3, p4, _, _, _, _, _, p5⟩ := id X
  simp only [tryCompare]
  have body : ∀ (R : Fin → Shared → Prop) (E' : Value → Shared → Prop), (∀ c s', Q (some (.bool c)) s' → R (.done (.ret (.bool c))) s') → (∀ e s', E e s' → E' e s') → wpAny (model prog w) A.in1 (Builtin.«object.__ne__» ⟨[.ref x, b], []⟩) R E' ⟨h, g, d, t, os⟩ := fun R E' hR hE =>
    ne_entry (A := A.in1) X hu (wpAny_mono go (fun v s' hv => let ⟨c, e, hq⟩ := hv; ⟨c, e, hR _ _ hq⟩) hE)
  refine wpAny_bind (wpAny_callSpecialIfBound?_inst p1 p2 p3 p4 p5 FB.mro FB.ne (wpAny_call (codeAny_call_builtin FB.ne.plain F.cmpEntry_ne
    (wpAny_check_slot_inst F.cmpKind_ne F.cmpSplit_ne (F.cmpArgs_ne _ _) FB.hasObject p1 p2 p3 (body _ _ (fun c s' hq => ?_) fun e s' z => z)))))
  first | exact wpAny_pure hq | exact wpAny_pure (wpAny_pure hq) | exact hq
theorem ne_rich {Q : Value → Shared → Prop} (FB : CmpFacts B bm) (X : s.heap.OwnEqNoNe x C f B bm) (hT : s.TypeIs b T) (sub : subIn K (.type T) (.ref C) = some false) (kin : K.In s.heap) (hu : A.units + 1 < cLine)
    (go : Turned prog w A.in1 E f x b (fun c s' => Q (.bool c) s') s) : wpAny (model prog w) A (richCompare .NotEq (.ref x) b) Q E s := by
  obtain ⟨h, g, d, t, os⟩ := s
  obtain ⟨o, of, nm, q, N, bs, hdct, sn, sb, ab, col, dd, k0, k1, k2, k3, k5, nid, mN, yv, p1, p2, _⟩ := id X
  unfold richCompare
  simp only [oneThing_ref]
  refine wpAny_holding (wpAny_bind (wpAny_cRoomFor (Nat.lt_of_succ_lt hu) ?_))
  rw [cmpInfo_NotEq]
  dsimp only
  refine wpAny_bind (wpAny_typeOf_ref p1 ?_)
  rw [p2]
  refine wpAny_bind (wpAny_typeOf hT ?_)
  have ne : (Value.ref C != Value.type T) = true := rfl
  simp only [ne, if_true]
  refine wpAny_bind ((looks_subIn kin sub).here ?_)
  simp only [Bool.false_eq_true, if_false]
  refine wpAny_bind (wpAny_mono (ne_try (Q := fun r s' => ∃ c, r = some (.bool c) ∧ Q (.bool c) s') FB X hu (wpAny_mono go (fun v s' hv => ?_) fun _ _ e => e)) (fun r s' hr => ?_) fun _ _ e => e)
  · obtain ⟨c, rfl, hq⟩ := hv
    exact ⟨c, rfl, _, rfl, hq⟩
  · obtain ⟨c, rfl, hq⟩ := hr
    exact wpAny_pure hq
end
end Oo

set_option Elab.async false
set_option linter.all false
set_option maxRecDepth 100000
set_option maxHeartbeats 1000000
set_option exponentiation.threshold 9000
/-! What is no number is refused. -/
namespace KA
open PySem PySem.Spec PyProof.Rows L2 Oo Gd Am
/-- refused: the error of the class at Wc, which tells v, lies in a heap where all stands on -/
def RefV (Wc : Addr) (v : V) (H : Hp) (E : XK) : Prop := ∀ (d : Addr) (H' : Hp), Am.Ext H H' → H d = none → H' d = some (.xd [("value", v)]) → E (.ref Wc) (some d) H'
theorem RefV.on {Wc : Addr} {v : V} {H H1 : Hp} {E : XK} (r : RefV Wc v H E) (e : Am.Ext H H1) : RefV Wc v H1 E := fun d H' x n h => r d H' (e.trans x) (e.gone n) h
theorem RefV.here {Wc : Addr} {v : V} {H : Hp} {E : XK} (r : RefV Wc v H E) : ∀ e d, H e = none → H d = none → d ≠ e → E (.ref Wc) (some d) (Gx.leftH H Wc e d [("value", v)]) := fun e d he hd ne => by
  obtain ⟨x1, x2⟩ := left_ext (Z := Wc) (fs := [("value", v)]) he hd
  exact r d _ x1 hd x2
/-- what the text says of an error that tells a value -/
structure Wr (K : W.Frag) (mg : Str → Option Value) (x : Str) (Wc : Addr) : Prop where
  e1 : Ge.E1 K Wc "value"
  mgW : mg x = some (.ref Wc)
  rs : ∀ {X : Cx}, X.K = K → Raises X (.ref Wc)
/-- no INTEGER, no Amount -/
def Odd (H : Hp) (v : V) : Prop := ∃ T, Bt H v T ∧ T ≠ "int"
theorem Odd.ext {H H' : Hp} {v : V} (o : Odd H v) (e : Am.Ext H H') : Odd H' v := let ⟨T, b, n⟩ := o; ⟨T, b.ext e, n⟩
/-- the class stands right below object -/
structure Kc (K : W.Frag) (C : Addr) : Prop where
  ks : (W.clsIn K C).isSome = true
  kt : W.typeIn K (.ref C) = some (.type "type")
  pl : Plain K C
theorem never_op {X : Cx} {f : Value → Value → Sem Value} : OpR X f (fun _ _ _ _ => False) := fun _ _ _ _ _ _ _ _ _ _ _ _ h => h.elim
theorem never_un {X : Cx} {f : Value → Sem Value} : UnR X f (fun _ _ _ => False) := fun _ _ _ _ _ _ _ _ _ h => h.elim
section
variable {P : Program} {w : World} {K : W.Frag} {mg : Str → Option Value} {base : Heap} {C Wc f : Addr} {fd : FuncData}
def spWholeO : Sp := fun vs H Q _ => ∃ v, vs = [v] ∧ Odd H v ∧ Q (.bl false) H
theorem ok_wholeO (fr : Frees mg) (F : Fun K "is_whole" "is_whole" (top 18) f fd) : FnOk P w K mg base CX0 1 f fd ["value"] spWholeO := by
  refine F.ok scWhole (fun vs H Q E h => ?_) (fun cdv A outer s H vs Q E hr h => ?_)
  · obtain ⟨v, rfl, _⟩ := h
    rfl
  · obtain ⟨v, rfl, ⟨T, bt, ni⟩, q⟩ := h
    refine ⟨_, pss_one (ps_ret (pe_and (pe_callB call_isi rfl (fr.h _ (by decide +kernel)) (by decide +kernel) (pa_cons (pv 0) (pa_cons (pe_bltn (v := V.ty "int") rfl (fr.h _ (by decide +kernel)) (by rfl) rfl) pa_nil)))
      (pe_one (pe_not (pe_callB call_isi rfl (fr.h _ (by decide +kernel)) (by decide +kernel) (pa_cons (pv 0) (pa_cons (pe_bltn (v := V.ty "bool") rfl (fr.h _ (by decide +kernel)) (by rfl) rfl) pa_nil))))))), ?_⟩
    cases bt with
    | int i => exact absurd rfl ni
    | bl b =>
      refine ⟨_, rfl, _, _, _, _, true, rfl, ClsV.ty "int", TyX.base (TyOf.bl b), kit_ty (by decide +kernel), true, rfl, ?_⟩
      exact ⟨_, rfl, _, _, _, _, true, rfl, ClsV.ty "bool", TyX.base (TyOf.bl b), kit_ty (by decide +kernel), true, rfl, q⟩
    | non => exact ⟨_, rfl, _, _, _, _, false, rfl, ClsV.ty "int", TyX.base TyOf.non, kit_ty (by decide +kernel), false, rfl, q⟩
    | str z => exact ⟨_, rfl, _, _, _, _, false, rfl, ClsV.ty "int", TyX.base (TyOf.str z), kit_ty (by decide +kernel), false, rfl, q⟩
    | lst e => exact ⟨_, rfl, _, _, _, _, false, rfl, ClsV.ty "int", TyX.base (TyOf.lst e), kit_ty (by decide +kernel), false, rfl, q⟩
    | tup e => exact ⟨_, rfl, _, _, _, _, false, rfl, ClsV.ty "int", TyX.base (TyOf.tup e), kit_ty (by decide +kernel), false, rfl, q⟩
    | dK e => exact ⟨_, rfl, _, _, _, _, false, rfl, ClsV.ty "int", TyX.base (TyOf.dK e), kit_ty (by decide +kernel), false, rfl, q⟩
theorem ok_countO (DW : Dn P w K mg base CX0 1 "is_whole" ["value"] spWholeO) (F : Fun K "is_count" "is_count" (top 19) f fd) : FnOk P w K mg base CX0 2 f fd ["value"] spWholeO := by
  refine F.ok scCount (fun vs H Q E h => ?_) (fun cdv A outer s H vs Q E hr h => ?_)
  · obtain ⟨v, rfl, _⟩ := h
    rfl
  · obtain ⟨v, rfl, od, q⟩ := h
    refine ⟨_, pss_one (ps_ret (pe_and (pe_dn DW hr (by rfl) (by decide) (pa_cons (pv 0) pa_nil)) (pe_one (pe_cmpR op_ge (pv 0) pe_int (nomark _))))), ?_⟩
    exact ⟨_, rfl, v, rfl, od, false, rfl, q⟩
/-! ### __init__, of -/
def spInitO (C Wc : Addr) : Sp := fun vs H Q E => ∃ x dx v d, vs = [.ref x, v, d] ∧ H x = some (.ins C dx []) ∧ Odd H v ∧ RefV Wc v H E
theorem ok_initO (DW : Dn P w K mg base CX0 1 "is_whole" ["value"] spWholeO) (WR : Wr K mg "InvalidAmount" Wc) (F : FunI K f fd) : FnOk P w K mg base (L2.CX P w) 2 f fd ["self", "top", "bottom"] (spInitO C Wc) := by
  refine F.ok (CX := L2.CX P w) scInit (fun vs H Q E h => ?_) (fun cdv A outer s H vs Q E hr h => ?_)
  · obtain ⟨x, dx, v, d, rfl, _⟩ := h
    rfl
  · obtain ⟨x, dx, v, d, rfl, hx, od, rv⟩ := h
    refine ⟨_, pss_cons (ps_if (pt_not (pt_val (pe_dn DW hr (by rfl) (by decide) (pa_cons (pv 1) pa_nil)))) (pss_one (ps_raise rfl (takes_of rfl rfl rfl rfl) (Gx.pmk1 WR.e1 (WR.rs rfl) hr rfl WR.mgW (pa_cons (pv 1) pa_nil)))) pss_nil) pss_never, ?_⟩
    exact ⟨_, rfl, v, rfl, od, _, rfl, iteT ⟨_, rfl, _, rfl, rv.here⟩⟩
structure BaseO (P : Program) (w : World) (K : W.Frag) (mg : Str → Option Value) (base : Heap) (C Wc : Addr) : Prop where
  mgA : mg "Amount" = some (.ref C)
  make : ∃ fI fd, Mk K C fI ∧ FnOk P w K mg base (L2.CX P w) 2 fI fd ["self", "top", "bottom"] (spInitO C Wc) ∧ ∃ ds, Vals [V.int 1] ds ∧ Binds K fd ["self", "top", "bottom"] ds
def tMkO (Wc : Addr) (E : XK) (t : TA) : TE := fun σ H Q => t σ H fun vs H1 => ∃ v, vs = [v] ∧ Odd H1 v ∧ RefV Wc v H1 E
end
section
variable {X : Cx} {C Wc : Addr} {p pos : Pos} {e : Expr} {es : List Expr} {t : TA} {E : XK}
theorem pe_mkO (B : BaseO X.prog X.w X.K X.mg X.base C Wc) (hr : Room 3 X.A) (hg : Gl X "Amount") (hx : Passes (L2.CX X.prog X.w) X E) (ha : PA X (e :: es) t) (he : starEach (e :: es) X.env = (false, eval e X.env) :: starEach es X.env := by rfl) (hpl : (backTo pos (starEach es X.env)).any (·.1) = false := by rfl) :
    PE X (.Call (.Name "Amount" p) (e :: es) [] pos) (tMkO Wc E t) := by
  obtain ⟨fI, fd, M, F, ds, hv, b1⟩ := B.make
  refine ⟨fun pins s σ H Q I h => ?_⟩
  refine wpAny_Call_Name_kw (ld_glob I hg B.mgA ?_ (by decide))
  refine PySem.W.callWith_K (h₀ := X.base) I.ok.mod.kin M.kp (thn (ha.run pos pins s σ H _ I h) fun us s1 ⟨vs, H1, I1, r, v, ev, od, rv⟩ => ⟨I1.kIn, ?_⟩) he hpl
  subst ev
  refine run_make (E := E) M F hr b1 hv hx I1 r fun x dx hx hdx ne => ?_
  have ex : Am.Ext H1 (upd (upd H1 dx (.own x)) x (.ins C dx [])) := fun b u e => by
    have nx := ne_of_none e hx
    rw [upd_ne nx, upd_ne (ne_of_none e hdx)]
    exact e
  exact ⟨x, dx, v, .int 1, rfl, upd_same, od.ext ex, rv.on ex⟩
end
section
variable {P : Program} {w : World} {K : W.Frag} {mg : Str → Option Value} {base : Heap} {C Wc f : Addr} {fd : FuncData}
def spOfO (Wc : Addr) : Sp := fun vs H Q E => ∃ v, vs = [v] ∧ Odd H v ∧ RefV Wc v H E
theorem ok_ofO (fr : Frees mg) (B : BaseO P w K mg base C Wc) (kc : Kc K C) (F : Fun K "of" "Amount.of" (am 1) f fd) : FnOk P w K mg base (L2.CX P w) 4 f fd ["number"] (spOfO Wc) := by
  refine F.okX scOf (fun vs H Q E h => ?_) (fun cdv A outer s H vs Q E hr h => ?_)
  · obtain ⟨v, rfl, _⟩ := h
    rfl
  · obtain ⟨v, rfl, od, rv⟩ := h
    refine ⟨_, pss_cons (ps_if (pt_val (pe_callB call_isi rfl (fr.h _ (by decide +kernel)) (by decide +kernel) (pa_cons (pv 0) (pa_cons (pe_glob (v := V.ref C) rfl B.mgA rfl) pa_nil)))) (pss_one (ps_ret (pv 0))) pss_nil)
      (pss_one (ps_ret (pe_mkO (E := E) B hr rfl (passes_call (takes_of rfl rfl rfl rfl) fun _ _ _ _ h => h) (pa_cons (pv 0) pa_nil)))), ?_⟩
    obtain ⟨T, bt, ni⟩ := id od
    exact ⟨_, rfl, _, _, _, _, false, rfl, ClsV.own C, bt.ty, kit_no bt.mem kc.ks kc.kt, _, rfl, iteF ⟨_, rfl, v, rfl, od, rv⟩⟩
structure OfO (P : Program) (w : World) (K : W.Frag) (mg : Str → Option Value) (base : Heap) (C Wc : Addr) : Prop where
  mgA : mg "Amount" = some (.ref C)
  of : ∃ mc p g fd, ClX.CRead K C mc ∧ SMet K C mc "of" p g ∧ FnOk P w K mg base (L2.CX P w) 4 g fd ["number"] (spOfO Wc) ∧ Binds K fd ["number"] []
end
section
variable {X : Cx} {C Wc : Addr} {p pos apos : Pos} {e o : Expr} {t : TA} {ta : TE} {E : XK}
theorem pe_ofO (O : OfO X.prog X.w X.K X.mg X.base C Wc) (hr : Room 4 X.A) (hx : Passes (L2.CX X.prog X.w) X E) (ho : PE X o ta) (ha : PA X [e] t) {pl : Sem Bool}
    (hst : starEach [e] X.env = (false, eval e X.env) :: starEach [] X.env := by rfl) (hpl : (backTo pos (starEach [] X.env)).any (·.1) = false := by rfl)
    (ht : eval (.Call (.Attribute o "of" apos) [e] [] pos) X.env = (do
      let ov ← eval o X.env
      standAt apos.atName
      let (f, first) ← holding [ov] (getMethod ov "of" pl)
      callWith pos f first (backTo pos (starEach [e] X.env)) (backToKw pos (keywordEach [] X.env))) := by rfl) : PE X (.Call (.Attribute o "of" apos) [e] [] pos) (tSMeth C (spOfO Wc) E ta t) := by
  obtain ⟨mc, p, g, fd, R, S, F, b⟩ := O.of
  exact pe_smeth (pl := pl) ho R S F b hr hx ha hst hpl ht
end
section
variable {P : Program} {w : World} {K : W.Frag} {mg : Str → Option Value} {base : Heap} {C Wc f : Addr} {fd : FuncData}
/-- a method of two, refused what is no number -/
def spOpO (C Wc : Addr) : Sp := fun vs H Q E => ∃ a y q, vs = [.ref a, y] ∧ Is C H a q ∧ Odd H y ∧ RefV Wc y H E
theorem ok_subO (O : OfO P w K mg base C Wc) (F : Fun K "__sub__" "Amount.__sub__" (am 8) f fd) : FnOk P w K mg base (L2.CX P w) 6 f fd ["self", "other"] (spOpO C Wc) := by
  refine F.okX scSub (fun vs H Q E h => ?_) (fun cdv A outer s H vs Q E hr h => ?_)
  · obtain ⟨a, y, q, rfl, _⟩ := h
    rfl
  · obtain ⟨a, y, q, rfl, ia, od, rv⟩ := h
    have h4 := hr.mono (show 4 ≤ 5 by decide)
    refine ⟨_, pss_one (ps_ret (pe_op never_op (pv 0) (pe_un never_un (pe_ofO (E := E) O h4 (passes_call (takes_of rfl rfl rfl rfl) fun _ _ _ _ h => h) (pe_glob (v := V.ref C) rfl O.mgA rfl) (pa_cons (pv 1) pa_nil))))), ?_⟩
    exact ⟨_, rfl, rfl, _, rfl, y, rfl, od, rv⟩
theorem ok_overO (O : OfO P w K mg base C Wc) (F : Fun K "over" "Amount.over" (am 12) f fd) : FnOk P w K mg base (L2.CX P w) 5 f fd ["self", "other"] (spOpO C Wc) := by
  refine F.okX scOver (fun vs H Q E h => ?_) (fun cdv A outer s H vs Q E hr h => ?_)
  · obtain ⟨a, y, q, rfl, _⟩ := h
    rfl
  · obtain ⟨a, y, q, rfl, ia, od, rv⟩ := h
    have nd := scOver.nd
    refine ⟨_, pss_cons (ps_set (i := 2) nd rfl (.inl rfl) (pe_ofO (E := E) O hr (passes_call (takes_of rfl rfl rfl rfl) fun _ _ _ _ h => h) (pe_glob (v := V.ref C) rfl O.mgA rfl) (pa_cons (pv 1) pa_nil))) pss_never, ?_⟩
    exact ⟨rfl, _, rfl, y, rfl, od, rv⟩
theorem ok_modO (O : OfO P w K mg base C Wc) (F : Fun K "__mod__" "Amount.__mod__" (am 15) f fd) : FnOk P w K mg base (L2.CX P w) 5 f fd ["self", "other"] (spOpO C Wc) := by
  refine F.okX scMod (fun vs H Q E h => ?_) (fun cdv A outer s H vs Q E hr h => ?_)
  · obtain ⟨a, y, q, rfl, _⟩ := h
    rfl
  · obtain ⟨a, y, q, rfl, ia, od, rv⟩ := h
    have nd := scMod.nd
    refine ⟨_, pss_cons (ps_set (i := 2) nd rfl (.inl rfl) (pe_ofO (E := E) O hr (passes_call (takes_of rfl rfl rfl rfl) fun _ _ _ _ h => h) (pe_glob (v := V.ref C) rfl O.mgA rfl) (pa_cons (pv 1) pa_nil))) pss_never, ?_⟩
    exact ⟨rfl, _, rfl, y, rfl, od, rv⟩
theorem ok_rfdO (O : OfO P w K mg base C Wc) (F : Fun K "__rfloordiv__" "Amount.__rfloordiv__" (am 14) f fd) : FnOk P w K mg base (L2.CX P w) 5 f fd ["self", "other"] (spOpO C Wc) := by
  refine F.okX scRfd (fun vs H Q E h => ?_) (fun cdv A outer s H vs Q E hr h => ?_)
  · obtain ⟨a, y, q, rfl, _⟩ := h
    rfl
  · obtain ⟨a, y, q, rfl, ia, od, rv⟩ := h
    refine ⟨_, pss_one (ps_ret (pe_op never_op (pe_ofO (E := E) O hr (passes_call (takes_of rfl rfl rfl rfl) fun _ _ _ _ h => h) (pe_glob (v := V.ref C) rfl O.mgA rfl) (pa_cons (pv 1) pa_nil)) (pv 0))), ?_⟩
    exact ⟨rfl, _, rfl, y, rfl, od, rv⟩
structure OverO (P : Program) (w : World) (K : W.Frag) (mg : Str → Option Value) (base : Heap) (C Wc : Addr) : Prop where
  of : ∃ f fd, Meth K C "over" f ∧ FnOk P w K mg base (L2.CX P w) 5 f fd ["self", "other"] (spOpO C Wc) ∧ Binds K fd ["self", "other"] []
theorem ok_fdO (cl : Cls K C) (V1 : OverO P w K mg base C Wc) (F : Fun K "__floordiv__" "Amount.__floordiv__" (am 13) f fd) : FnOk P w K mg base (L2.CX P w) 6 f fd ["self", "other"] (spOpO C Wc) := by
  refine F.okX scFd (fun vs H Q E h => ?_) (fun cdv A outer s H vs Q E hr h => ?_)
  · obtain ⟨a, y, q, rfl, _⟩ := h
    rfl
  · obtain ⟨a, y, q, rfl, ia, od, rv⟩ := h
    have nd := scFd.nd
    obtain ⟨fo, fdo, hm, G, b⟩ := V1.of
    refine ⟨_, pss_cons (ps_set (i := 2) nd rfl (.inl rfl) (pe_meth (pv 0) cl hm G hr b .nil (passes_call (takes_of rfl rfl rfl rfl) fun _ _ _ _ h => h) (pa_cons (pv 1) pa_nil))) pss_never, ?_⟩
    obtain ⟨dx, ea⟩ := id ia
    exact ⟨_, rfl, a, dx, _, rfl, ea, no_over q, _, rfl, a, y, q, rfl, ia, od, rv⟩
/-! ### **, rounded, == -/
def spPowO (C Wc : Addr) : Sp := fun vs H Q E => ∃ a q i, vs = [.ref a, .int i] ∧ Is C H a q ∧ 12 < i ∧ RefV Wc (.int i) H E
theorem ok_powO {t : Tok} (DC : Dn P w K mg base CX0 2 "is_count" ["value"] spCount) (WR : Wr K mg "InvalidAmount" Wc) (mgP : mg "MOST_POWER" = some (.int 12 t)) (F : Fun K "__pow__" "Amount.__pow__" (am 17) f fd) :
    FnOk P w K mg base (L2.CX P w) 3 f fd ["self", "other"] (spPowO C Wc) := by
  refine F.okX scPow (fun vs H Q E h => ?_) (fun cdv A' outer s H vs Q E hr h => ?_)
  · obtain ⟨a, q, i, rfl, _⟩ := h
    rfl
  · obtain ⟨a, q, i, rfl, ia, i12, rv⟩ := h
    refine ⟨_, pss_cons (ps_if (PW.pt (pw_or (pt_not (pt_val (pe_dn DC hr (by rfl) (by decide) (pa_cons (pv 1) pa_nil)))) (pw_or1 (pt_cmpR op_gt (pv 1) (pe_glob (v := V.int 12) rfl mgP ⟨t, rfl⟩) (nomark _))))) (pss_one (ps_raise rfl (takes_of rfl rfl rfl rfl) (Gx.pmk1 WR.e1 (WR.rs rfl) hr rfl WR.mgW (pa_cons (pv 1) pa_nil)))) pss_nil) pss_never, ?_⟩
    refine ⟨_, rfl, i, rfl, _, rfl, ?_⟩
    rw [decide_eq_true (show (0 : Int) ≤ i by omega)]
    exact iteF ⟨_, rfl, _, _, rfl, rfl, _, rfl, ite2 (fun _ => ⟨_, rfl, _, rfl, rv.here⟩) (fun h => absurd (decide_eq_true (show (12 : Int) < i from i12)) h)⟩
def spRndO (C Wc : Addr) : Sp := fun vs H Q E => ∃ a q v, vs = [.ref a, v] ∧ Is C H a q ∧ (Odd H v ∨ ∃ i, v = .int i ∧ (i < 0 ∨ 12 < i)) ∧ RefV Wc v H E
def spEqO (C : Addr) : Sp := fun vs H Q _ => ∃ a y q T, vs = [.ref a, y] ∧ Is C H a q ∧ Bt H y T ∧ Q (.bl false) H
end
end KA

set_option Elab.async false
set_option linter.all false
set_option maxRecDepth 100000
set_option maxHeartbeats 1000000
set_option exponentiation.threshold 9000
/-! Comparisons of Amounts. -/
namespace KA
open PySem PySem.Spec PyProof.Rows L2 Oo Gd Am
theorem ltz (q p : Rat) : (q - p).num.sign < 0 ↔ q < p := by
  rw [Int.sign_neg_iff, ← Int.not_le, Rat.num_nonneg, ← Rat.le_iff_sub_nonneg, Rat.not_le]
theorem gtz (q p : Rat) : 0 < (q - p).num.sign ↔ p < q := by
  rw [Int.sign_pos_iff, ← ltz p q, Int.sign_neg_iff, ← Rat.neg_sub]
  show 0 < (-(p - q)).num ↔ _
  rw [show (-(p - q)).num = -(p - q).num from rfl]
  omega
theorem lez (q p : Rat) : (q - p).num.sign ≤ 0 ↔ q ≤ p := by
  rw [← Int.not_lt, gtz, Rat.not_lt]
theorem gez (q p : Rat) : 0 ≤ (q - p).num.sign ↔ p ≤ q := by
  rw [← Int.not_lt, ltz, Rat.not_lt]
/-- o.f of what is not reached -/
theorem pe_fld0 {X : Cx} {o : Expr} {to : TE} {f : Str} {pos : Pos} (he : PE X o to) (hb : attributeBase o f X.env (eval o X.env) = eval o X.env := by rfl) : PE X (.Attribute o f pos) (fun σ H Q => to σ H fun _ _ => False) :=
  ⟨fun pins s σ H Q I h => attr_of hb (thn (he.run pins s σ H _ I h) fun u s1 ⟨_, _, _, _, z⟩ => z.elim)⟩
section
variable {P : Program} {w : World} {K : W.Frag} {mg : Str → Option Value} {base : Heap} {C Wc f : Addr} {fd : FuncData}
def spCmp (C : Addr) (g : Rat → Rat → Bool) : Sp := fun vs H Q _ => ∃ a y q p, vs = [.ref a, y] ∧ Is C H a q ∧ Num C H y p ∧ Sz q ∧ Sz p ∧ ∀ H', Am.Ext H H' → Q (.bl (g q p)) H'
/-- x - y, y no number -/
structure SubO (P : Program) (w : World) (K : W.Frag) (mg : Str → Option Value) (base : Heap) (C Wc : Addr) : Prop where
  of : ∃ f g fd ps, OwnBin K C (Operator.Sub).info.2 f g ∧ FnOk P w K mg base (L2.CX P w) 6 f fd ps (spOpO C Wc) ∧ Binds K fd ps []
theorem op_sO {X : Cx} {E : XK} (S : SubO X.prog X.w X.K X.mg X.base C Wc) (hx : Passes (L2.CX X.prog X.w) X E) (hr : Room 6 X.A) : OpR X (binaryOp .Sub) (rBinL C (spOpO C Wc) E) := by
  obtain ⟨f, g, fd, ps, B, F, b⟩ := S.of
  exact op_binL (.inr (.inl rfl)) B F b hx hr
theorem sc_lt : FnScope ["self", "other"] ["self", "other"] (defScope (am 22)) := ⟨rfl, rfl, rfl, by decide +kernel, rfl, by decide +kernel, by decide +kernel⟩
theorem ok_lt (B : Base P w K mg base C) (S : Op P w K mg base C (Operator.Sub).info.2 6 fun q p => q - p) (F : Fun K "__lt__" "Amount.__lt__" (am 22) f fd) : FnOk P w K mg base CX0 7 f fd ["self", "other"] (spCmp C fun q p => decide (q < p)) := by
  refine F.ok sc_lt (fun vs H Q E h => ?_) (fun cdv A outer s H vs Q E hr h => ?_)
  · obtain ⟨a, y, q, p, rfl, _⟩ := h
    rfl
  · obtain ⟨a, y, q, p, rfl, ia, ny, sq, sp, z⟩ := h
    have h2 := hr.mono (show 2 ≤ 6 by decide)
    refine ⟨_, pss_one (ps_ret (pe_cmpR op_lt (pe_pSgn B h2 (pe_op (op_O S hr) (pv 0) (pv 1))) pe_int (nomark _))), ?_⟩
    refine ⟨_, rfl, _, rfl, a, q, p, rfl, ia, ny, sq, sp, fun r H1 e1 n1 i1 => ⟨r, q - p, rfl, i1, _, _, rfl, rfl, ?_⟩⟩
    show Q (.bl (decide ((q - p).num.sign < 0))) H1
    rw [show decide ((q - p).num.sign < 0) = decide (q < p) from decide_eq_decide.mpr (ltz q p)]
    exact z H1 e1
theorem ok_ltO (S : SubO P w K mg base C Wc) (F : Fun K "__lt__" "Amount.__lt__" (am 22) f fd) : FnOk P w K mg base (L2.CX P w) 7 f fd ["self", "other"] (spOpO C Wc) := by
  refine F.okX sc_lt (fun vs H Q E h => ?_) (fun cdv A outer s H vs Q E hr h => ?_)
  · obtain ⟨a, y, q, rfl, _⟩ := h
    rfl
  · obtain ⟨a, y, q, rfl, ia, od, rv⟩ := h
    refine ⟨_, pss_one (ps_ret (pe_cmpR op_lt (pe_fld0 (f := "sign") (pe_op (op_sO (E := E) S (passes_call (takes_of rfl rfl rfl rfl) fun _ _ _ _ h => h) hr) (pv 0) (pv 1))) pe_int (nomark _))), ?_⟩
    obtain ⟨T, bt, ni⟩ := id od
    obtain ⟨dx, ea⟩ := id ia
    exact ⟨_, rfl, _, rfl, a, dx, _, T, rfl, ea, bt, a, y, q, rfl, ia, od, rv⟩
theorem sc_le : FnScope ["self", "other"] ["self", "other"] (defScope (am 23)) := ⟨rfl, rfl, rfl, by decide +kernel, rfl, by decide +kernel, by decide +kernel⟩
theorem ok_le (B : Base P w K mg base C) (S : Op P w K mg base C (Operator.Sub).info.2 6 fun q p => q - p) (F : Fun K "__le__" "Amount.__le__" (am 23) f fd) : FnOk P w K mg base CX0 7 f fd ["self", "other"] (spCmp C fun q p => decide (q ≤ p)) := by
  refine F.ok sc_le (fun vs H Q E h => ?_) (fun cdv A outer s H vs Q E hr h => ?_)
  · obtain ⟨a, y, q, p, rfl, _⟩ := h
    rfl
  · obtain ⟨a, y, q, p, rfl, ia, ny, sq, sp, z⟩ := h
    have h2 := hr.mono (show 2 ≤ 6 by decide)
    refine ⟨_, pss_one (ps_ret (pe_cmpR op_le (pe_pSgn B h2 (pe_op (op_O S hr) (pv 0) (pv 1))) pe_int (nomark _))), ?_⟩
    refine ⟨_, rfl, _, rfl, a, q, p, rfl, ia, ny, sq, sp, fun r H1 e1 n1 i1 => ⟨r, q - p, rfl, i1, _, _, rfl, rfl, ?_⟩⟩
    show Q (.bl (decide ((q - p).num.sign ≤ 0))) H1
    rw [show decide ((q - p).num.sign ≤ 0) = decide (q ≤ p) from decide_eq_decide.mpr (lez q p)]
    exact z H1 e1
theorem ok_leO (S : SubO P w K mg base C Wc) (F : Fun K "__le__" "Amount.__le__" (am 23) f fd) : FnOk P w K mg base (L2.CX P w) 7 f fd ["self", "other"] (spOpO C Wc) := by
  refine F.okX sc_le (fun vs H Q E h => ?_) (fun cdv A outer s H vs Q E hr h => ?_)
  · obtain ⟨a, y, q, rfl, _⟩ := h
    rfl
  · obtain ⟨a, y, q, rfl, ia, od, rv⟩ := h
    refine ⟨_, pss_one (ps_ret (pe_cmpR op_le (pe_fld0 (f := "sign") (pe_op (op_sO (E := E) S (passes_call (takes_of rfl rfl rfl rfl) fun _ _ _ _ h => h) hr) (pv 0) (pv 1))) pe_int (nomark _))), ?_⟩
    obtain ⟨T, bt, ni⟩ := id od
    obtain ⟨dx, ea⟩ := id ia
    exact ⟨_, rfl, _, rfl, a, dx, _, T, rfl, ea, bt, a, y, q, rfl, ia, od, rv⟩
theorem sc_gt : FnScope ["self", "other"] ["self", "other"] (defScope (am 24)) := ⟨rfl, rfl, rfl, by decide +kernel, rfl, by decide +kernel, by decide +kernel⟩
theorem ok_gt (B : Base P w K mg base C) (S : Op P w K mg base C (Operator.Sub).info.2 6 fun q p => q - p) (F : Fun K "__gt__" "Amount.__gt__" (am 24) f fd) : FnOk P w K mg base CX0 7 f fd ["self", "other"] (spCmp C fun q p => decide (p < q)) := by
  refine F.ok sc_gt (fun vs H Q E h => ?_) (fun cdv A outer s H vs Q E hr h => ?_)
  · obtain ⟨a, y, q, p, rfl, _⟩ := h
    rfl
  · obtain ⟨a, y, q, p, rfl, ia, ny, sq, sp, z⟩ := h
    have h2 := hr.mono (show 2 ≤ 6 by decide)
    refine ⟨_, pss_one (ps_ret (pe_cmpR op_gt (pe_pSgn B h2 (pe_op (op_O S hr) (pv 0) (pv 1))) pe_int (nomark _))), ?_⟩
    refine ⟨_, rfl, _, rfl, a, q, p, rfl, ia, ny, sq, sp, fun r H1 e1 n1 i1 => ⟨r, q - p, rfl, i1, _, _, rfl, rfl, ?_⟩⟩
    show Q (.bl (decide (0 < (q - p).num.sign))) H1
    rw [show decide (0 < (q - p).num.sign) = decide (p < q) from decide_eq_decide.mpr (gtz q p)]
    exact z H1 e1
theorem ok_gtO (S : SubO P w K mg base C Wc) (F : Fun K "__gt__" "Amount.__gt__" (am 24) f fd) : FnOk P w K mg base (L2.CX P w) 7 f fd ["self", "other"] (spOpO C Wc) := by
  refine F.okX sc_gt (fun vs H Q E h => ?_) (fun cdv A outer s H vs Q E hr h => ?_)
  · obtain ⟨a, y, q, rfl, _⟩ := h
    rfl
  · obtain ⟨a, y, q, rfl, ia, od, rv⟩ := h
    refine ⟨_, pss_one (ps_ret (pe_cmpR op_gt (pe_fld0 (f := "sign") (pe_op (op_sO (E := E) S (passes_call (takes_of rfl rfl rfl rfl) fun _ _ _ _ h => h) hr) (pv 0) (pv 1))) pe_int (nomark _))), ?_⟩
    obtain ⟨T, bt, ni⟩ := id od
    obtain ⟨dx, ea⟩ := id ia
    exact ⟨_, rfl, _, rfl, a, dx, _, T, rfl, ea, bt, a, y, q, rfl, ia, od, rv⟩
theorem sc_ge : FnScope ["self", "other"] ["self", "other"] (defScope (am 25)) := ⟨rfl, rfl, rfl, by decide +kernel, rfl, by decide +kernel, by decide +kernel⟩
theorem ok_ge (B : Base P w K mg base C) (S : Op P w K mg base C (Operator.Sub).info.2 6 fun q p => q - p) (F : Fun K "__ge__" "Amount.__ge__" (am 25) f fd) : FnOk P w K mg base CX0 7 f fd ["self", "other"] (spCmp C fun q p => decide (p ≤ q)) := by
  refine F.ok sc_ge (fun vs H Q E h => ?_) (fun cdv A outer s H vs Q E hr h => ?_)
  · obtain ⟨a, y, q, p, rfl, _⟩ := h
    rfl
  · obtain ⟨a, y, q, p, rfl, ia, ny, sq, sp, z⟩ := h
    have h2 := hr.mono (show 2 ≤ 6 by decide)
    refine ⟨_, pss_one (ps_ret (pe_cmpR op_ge (pe_pSgn B h2 (pe_op (op_O S hr) (pv 0) (pv 1))) pe_int (nomark _))), ?_⟩
    refine ⟨_, rfl, _, rfl, a, q, p, rfl, ia, ny, sq, sp, fun r H1 e1 n1 i1 => ⟨r, q - p, rfl, i1, _, _, rfl, rfl, ?_⟩⟩
    show Q (.bl (decide (0 ≤ (q - p).num.sign))) H1
    rw [show decide (0 ≤ (q - p).num.sign) = decide (p ≤ q) from decide_eq_decide.mpr (gez q p)]
    exact z H1 e1
theorem ok_geO (S : SubO P w K mg base C Wc) (F : Fun K "__ge__" "Amount.__ge__" (am 25) f fd) : FnOk P w K mg base (L2.CX P w) 7 f fd ["self", "other"] (spOpO C Wc) := by
  refine F.okX sc_ge (fun vs H Q E h => ?_) (fun cdv A outer s H vs Q E hr h => ?_)
  · obtain ⟨a, y, q, rfl, _⟩ := h
    rfl
  · obtain ⟨a, y, q, rfl, ia, od, rv⟩ := h
    refine ⟨_, pss_one (ps_ret (pe_cmpR op_ge (pe_fld0 (f := "sign") (pe_op (op_sO (E := E) S (passes_call (takes_of rfl rfl rfl rfl) fun _ _ _ _ h => h) hr) (pv 0) (pv 1))) pe_int (nomark _))), ?_⟩
    obtain ⟨T, bt, ni⟩ := id od
    obtain ⟨dx, ea⟩ := id ia
    exact ⟨_, rfl, _, rfl, a, dx, _, T, rfl, ea, bt, a, y, q, rfl, ia, od, rv⟩
end
end KA

set_option Elab.async false
set_option linter.all false
set_option maxRecDepth 100000
set_option maxHeartbeats 1000000
set_option exponentiation.threshold 9000
/-! Comparisons by values. -/
namespace KA
open PySem PySem.Spec PyProof.Rows L2 Oo Gd Am
section
variable {P : Program} {w : World} {K : W.Frag} {mg : Str → Option Value} {base : Heap} {C Wc f : Addr} {fd : FuncData}
structure CmpD (P : Program) (w : World) (K : W.Frag) (mg : Str → Option Value) (base : Heap) (C Wc : Addr) (nm : Str) (g : Rat → Rat → Bool) : Prop where
  of : ∃ f fd, W.findIn K (.ref C) nm = some (some (.ref f)) ∧ W.isFn K (.ref f) = true ∧ FnOk P w K mg base CX0 7 f fd ["self", "other"] (spCmp C g) ∧ FnOk P w K mg base (L2.CX P w) 7 f fd ["self", "other"] (spOpO C Wc) ∧ Binds K fd ["self", "other"] []
/-- two NUMBERS, one an Amount -/
def rNC (C : Addr) (g : Rat → Rat → Bool) : R2 := fun x y H Q => ∃ q p, Num C H x q ∧ Num C H y p ∧ ((∃ a, x = .ref a) ∨ ∃ a, y = .ref a) ∧ Sz q ∧ Sz p ∧ ∀ H', Am.Ext H H' → Q (.bl (g q p)) H'
theorem op_NC {X : Cx} {op : CmpOp} {g g' : Rat → Rat → Bool} (h4 : Four op) (hg : ∀ q p, g' p q = g q p) (pl : Plain X.K C) (D : CmpD X.prog X.w X.K X.mg X.base C Wc (cmpInfo op).2.1 g) (D' : CmpD X.prog X.w X.K X.mg X.base C Wc (cmpInfo op).2.2 g') (hr : Room 7 X.A) :
    OpR X (compareOp op) (rNC C g) := fun pins s σ H x y v u Q I rx ry h => by
  obtain ⟨f, fd, hs, hf, F, _, b⟩ := D.of
  obtain ⟨f', fd', hs', hf', F', _, b'⟩ := D'.of
  obtain ⟨q, p, nx, ny, one, sq, sp, z⟩ := h
  rcases id nx with ⟨i, rfl, _⟩ | ⟨a, rfl, ia⟩
  · rcases id ny with ⟨j, rfl, _⟩ | ⟨c, rfl, ic⟩
    · rcases one with ⟨_, e⟩ | ⟨_, e⟩ <;> cases e
    · obtain ⟨dy, ec⟩ := id ic
      exact op_cmpR (E := E0) h4 pl hs' hf' F' b' pass0 hr pins s σ H _ _ v u Q I rx ry ⟨c, dy, _, "int", rfl, ec, .int i, c, .int i, p, q, rfl, ic, nx, sp, sq, fun H' e => by rw [hg]; exact z H' e⟩
  · obtain ⟨dx, ea⟩ := id ia
    refine op_cmpL (E := E0) (fun M A E s a b Q z => four_rich h4 z) hs hf F b pass0 hr pins s σ H _ _ v u Q I rx ry ⟨a, dx, _, rfl, ea, ?_, a, y, q, p, rfl, ia, ny, sq, sp, z⟩
    rcases id ny with ⟨j, rfl, _⟩ | ⟨c, rfl, dy, ec⟩
    · exact .inr ⟨_, .int j⟩
    · exact .inl ⟨c, dy, _, rfl, ec⟩
/-- an Amount and what is no number -/
def rXC (C Wc : Addr) (E : XK) : R2 := fun x y H Q => (∃ a q, x = .ref a ∧ Is C H a q ∧ Odd H y ∧ RefV Wc y H E) ∨ (∃ b p T, y = .ref b ∧ Is C H b p ∧ Bt H x T ∧ T ≠ "int" ∧ RefV Wc x H E)
theorem op_XC {X : Cx} {op : CmpOp} {g g' : Rat → Rat → Bool} {E : XK} (h4 : Four op) (pl : Plain X.K C) (D : CmpD X.prog X.w X.K X.mg X.base C Wc (cmpInfo op).2.1 g) (D' : CmpD X.prog X.w X.K X.mg X.base C Wc (cmpInfo op).2.2 g') (hx : Passes (L2.CX X.prog X.w) X E) (hr : Room 7 X.A) :
    OpR X (compareOp op) (rXC C Wc E) := fun pins s σ H x y v u Q I rx ry h => by
  obtain ⟨f, fd, hs, hf, _, F, b⟩ := D.of
  obtain ⟨f', fd', hs', hf', _, F', b'⟩ := D'.of
  rcases h with ⟨a, q, rfl, ia, od, rv⟩ | ⟨c, p, T, rfl, ic, bt, n1, rv⟩
  · obtain ⟨dx, ea⟩ := id ia
    obtain ⟨T, bt, _⟩ := id od
    exact op_cmpL (E := E) (fun M A E s a b Q z => four_rich h4 z) hs hf F b hx hr pins s σ H _ _ v u Q I rx ry ⟨a, dx, _, rfl, ea, .inr ⟨T, bt⟩, a, y, q, rfl, ia, od, rv⟩
  · obtain ⟨dy, ec⟩ := id ic
    exact op_cmpR (E := E) h4 pl hs' hf' F' b' hx hr pins s σ H _ _ v u Q I rx ry ⟨c, dy, _, T, rfl, ec, bt, c, x, p, rfl, ic, ⟨T, bt, n1⟩, rv⟩
/-! ### == and != with what is no Amount -/
theorem ok_eqO (fr : Frees mg) (mgA : mg "Amount" = some (.ref C)) (kc : Kc K C) (F : Fun K "__eq__" "Amount.__eq__" (am 21) f fd) (T : Cl K C) : FnOk P w K mg base CX0 1 f fd ["self", "other"] (spEqO C) := by
  refine F.ok scEq (fun vs H Q E h => ?_) (fun cdv A' outer s H vs Q E hr h => ?_)
  · obtain ⟨a, y, q, T, rfl, _⟩ := h
    rfl
  · obtain ⟨a, y, q, Ty, rfl, ia, bt, z⟩ := h
    refine ⟨_, pss_one (ps_ret (pe_and (pe_callB call_isi rfl (fr.h _ (by decide +kernel)) (by decide +kernel) (pa_cons (pv 1) (pa_cons (pe_glob (v := V.ref C) rfl mgA rfl) pa_nil)))
      (pe_and (pe_cmpR op_eq (pe_top T (pv 0)) (pe_top T (pv 1)) (nomark _)) (pe_one (pe_cmpR op_eq (pe_bot T (pv 0)) (pe_bot T (pv 1)) (nomark _)))))), ?_⟩
    exact ⟨_, rfl, _, _, _, _, false, rfl, ClsV.own C, bt.ty, kit_no bt.mem kc.ks kc.kt, false, rfl, z⟩
structure EqO (P : Program) (w : World) (K : W.Frag) (mg : Str → Option Value) (base : Heap) (C : Addr) : Prop where
  of : ∃ f fd, W.findIn K (.ref C) "__eq__" = some (some (.ref f)) ∧ W.isFn K (.ref f) = true ∧ FnOk P w K mg base CX0 1 f fd ["self", "other"] (spEqO C) ∧ Binds K fd ["self", "other"] [] ∧
    ∃ B bm, CmpFacts B bm ∧ ∀ (h : Heap) (x dx : Addr), K.In h → h.get? x = some (W.instObj C dx) → h.OwnEqNoNe x C f B bm
def rEqX (C : Addr) (c : Bool) : R2 := fun x y H Q => ∃ a q T, x = .ref a ∧ Is C H a q ∧ Bt H y T ∧ Q (.bl c) H
theorem op_eqX {X : Cx} {k : Nat} (T : EqO X.prog X.w X.K X.mg X.base C) (hr : Room (k + 2) X.A) : OpR X (compareOp .Eq) (rEqX C false) := fun pins s σ H x y v u Q I rx ry h => by
  obtain ⟨f, fd, hs, hf, F, b, _⟩ := T.of
  obtain ⟨a, q, Ty, rfl, ia, bt, z⟩ := h
  obtain ⟨dx, ea⟩ := id ia
  exact op_cmpL (E := E0) (fun M A E s a b Q z => W.cmp_ofEq z) hs hf F b pass0 (hr.mono (by omega)) pins s σ H _ _ v u Q I rx ry ⟨a, dx, _, rfl, ea, .inr ⟨Ty, bt⟩, a, y, q, Ty, rfl, ia, bt, z⟩
theorem op_neX {X : Cx} {k : Nat} (T : EqO X.prog X.w X.K X.mg X.base C) (hr : Room (k + 2) X.A) : OpR X (compareOp .NotEq) (rEqX C true) := fun pins s σ H x y v u Q I rx ry h => by
  obtain ⟨f, fd, hs, hf, F, b, B, bm, FB, ne⟩ := T.of
  obtain ⟨a, q, Ty, rfl, ia, bt, z⟩ := h
  obtain ⟨dx, ea⟩ := id ia
  cases (show v = Value.ref a from rx)
  obtain ⟨od, J, e1⟩ := inst_at I ea
  refine W.cmp_ofNotEq (ne_rich FB (ne s.heap a dx I.kIn e1) (bt.is I ry) (sub_T bt.mem) I.kIn (by have := hr.units; omega) ?_)
  refine wpAny_mono (run_atO (Q := fun w' H' => w' = .bl false ∧ H' = H) (us := [.ref a, u]) (ws := [.ref a, y]) F b ((hr.mono (show 2 ≤ k + 2 by omega)).in1) I.env0.in1 pass0 I (.cons rfl (.cons ry .nil)) ⟨a, y, q, Ty, rfl, ia, bt, rfl, rfl⟩) (fun v' s' ⟨z', H', I', rz, ez, eh⟩ => ?_) fun _ _ z => z
  subst ez eh
  cases (show v' = Value.bool false from rz)
  exact ⟨false, rfl, .bl true, _, I', rfl, z⟩
/-- an INTEGER == an Amount -/
def rEqI (C : Addr) : R2 := fun x y H Q => ∃ i b q, x = .int i ∧ y = .ref b ∧ Is C H b q ∧ Q (.bl false) H
theorem op_eqI {X : Cx} {k : Nat} (pl : Plain X.K C) (T : EqO X.prog X.w X.K X.mg X.base C) (hr : Room (k + 2) X.A) : OpR X (compareOp .Eq) (rEqI C) := fun pins s σ H x y v u Q I rx ry h => by
  obtain ⟨f, fd, hs, hf, F, b, _⟩ := T.of
  obtain ⟨i, c, q, rfl, rfl, ic, z⟩ := h
  obtain ⟨dy, ec⟩ := id ic
  obtain ⟨t, rfl⟩ := (show ∃ t, v = Value.int i t from rx)
  cases (show u = Value.ref c from ry)
  obtain ⟨oe, J2, e2⟩ := inst_at I ec
  refine W.cmp_ofEq (cmp_right (op := .Eq) (T := "int") hr.units0 I.kIn J2 rfl (sub_C pl (by decide)) (c_int_eq e2) hs hf fun t' => ?_)
  have I2 : Inv X pins σ H { s with toks := t' } := I.tok t'
  exact wpAny_mono (run_fn (E := E0) (us := [.ref c, .int i t]) (vs := [.ref c, .int i]) F (hr.mono (by omega)) b .nil pass0 I2 (.cons rfl (.cons ⟨t, rfl⟩ .nil)) (show spEqO C ([V.ref c, V.int i] ++ []) H Q E0 from ⟨c, .int i, q, "int", rfl, ic, .int i, z⟩)) (fun v' s' ⟨z', H', I', rz, qz⟩ => SlX.cmpback (P := EP X pins σ Q) rz ⟨z', H', I', rz, qz⟩) fun _ _ z => z
end
end KA

set_option Elab.async false
set_option linter.all false
set_option maxRecDepth 100000
set_option maxHeartbeats 1000000
/-! A list or a tuple gone through: for, enumerate. -/
namespace SqX
open PySem PySem.Spec
set_option maxHeartbeats 1000000 in
theorem meets_enumerate_newB1 {v : Value} {o : Obj} {H : Heap → Prop} (B : Begins v o H) :
    Meets (Builtin.«enumerate.__new__» ⟨[.type "enumerate", v], []⟩) (fun _ R s => H s.heap ∧
      R (.ok (.ret (.ref (s.heap.push o).objs.size))) { s with heap := (s.heap.push o).push { cls := .type "enumerate", data := .fields #[.none, .bool false, .ref s.heap.objs.size, rawInt 0, .none, .none] } }) :=
  .of_wp fun prog w A R s h => by
    obtain ⟨hp, g, d, tk, os⟩ := s; obtain ⟨h1, h⟩ := h
    have hsub := sub_enumerate
    have q1 : ∀ {A' : Around} {E : Value → Shared → Prop} {Q : Value → Shared → Prop}, Q (.ref hp.objs.size) ⟨hp.push o, g, d, tk, os⟩ → wpAny (model prog w) A' (pyIter v) Q E ⟨hp, g, d, tk, os⟩ :=
      fun q => B.iter prog w _ _ ⟨hp, g, d, tk, os⟩ _ h1 q
    wp_walk
    refine wpAny_stack_any fun st => wpAny_pure ?_
    split
    · rename_i c _ _ _ _ _
      cases (c == Value.type "enumerate")
      · wp_walk using q1
        exact ⟨_, rfl, h⟩
      · wp_walk using q1
        exact ⟨_, rfl, h⟩
    · wp_walk using q1
      exact ⟨_, rfl, h⟩
section
variable {prog : Program} {w : World} {A : Around} {E : Value → Shared → Prop} {s : Shared}
theorem call_enumerateB {v : Value} {o : Obj} {H : Heap → Prop} {Q : Value → Shared → Prop} (B : Begins v o H) (h1 : H s.heap)
    (ht : checkTypeCall "enumerate" ⟨[v], []⟩ = pure ()) (hn : checkBuiltinCall "enumerate.__new__" ⟨[.type "enumerate", v], []⟩ = pure ()) (hi : ∀ obj, argsOk "object.__init__" ⟨[obj, v], []⟩)
    (h : ∀ h', IsEnum h' (s.heap.objs.size + 1) s.heap.objs.size 0 .none → h'.get? s.heap.objs.size = some o → h'.objs.size = s.heap.objs.size + 2 →
      (∀ b o, s.heap.get? b = some o → h'.get? b = some o) → Q (.ref (s.heap.objs.size + 1)) { s with heap := h' }) :
    wpAny (model prog w) A (call (.type "enumerate") [v]) Q E s := by
  refine callType_new F.called_enumerate (by decide) ht hn hi F.entry_enumerate_new (meets_enumerate_newB1 B) ⟨h1, ?_⟩
  have hz : (s.heap.push o).objs.size = s.heap.objs.size + 1 := Heap.size_push ..
  show _ ∧ _
  rw [hz]
  have he : IsEnum ((s.heap.push o).push { cls := .type "enumerate", data := .fields #[.none, .bool false, .ref s.heap.objs.size, rawInt 0, .none, .none] }) (s.heap.objs.size + 1) s.heap.objs.size 0 .none := by
    have := Heap.get?_push_size (s.heap.push o) (o := { cls := .type "enumerate", data := .fields #[.none, .bool false, .ref s.heap.objs.size, rawInt 0, .none, .none] }) rfl
    rw [hz] at this; exact this
  refine ⟨⟨_, he, rfl⟩, h _ he (Heap.get?_push_of_some _ (Heap.get?_push_size _ B.free)) (by rw [Heap.size_push, hz]) fun b o x => Heap.get?_push_of_some _ (Heap.get?_push_of_some _ x)⟩
end
end SqX
namespace SqX
open PySem PySem.Spec PyProof.Rows L2
theorem enumT_end {prog : Program} {w : World} {A : Around} {E : Value → Shared → Prop} {s : Shared} {e it l : Addr} {i : Nat} {items : Array Value} {old : Value} {Q : Option Value → Shared → Prop} (hh : A.handled = none)
    (he : IsEnum s.heap e it i old) (hit : s.heap.IsTupleIter it l i) (hl : s.heap.IsTuple l items) (hx : items[i]? = none)
    (hQ : ∀ h', Heap.ExtBut it s.heap h' → Q none { s with heap := h' }) : wpAny (model prog w) A (pyNext (.ref e)) Q E s := by
  have hT : s.TypeIs (.ref e) "enumerate" := ⟨_, he, rfl⟩
  unfold pyNext
  refine wpAny_bind (wpAny_attempt (wpAny_callSpecial?_slot (name := Str.ofString "__next__") hT F.slot_enumerate_next
    (wpAny_call_entry F.slot_enumerate_next hT F.entry_enumerate_next ?_ (F.args_enumerate_next_1 _))))
  show wpAny _ _ (field (.ref e) 2 >>= _) _ _ _
  refine wpAny_bind (wpAny_field he rfl (x := .ref it) rfl ?_)
  refine wpAny_bind (wpAny_nextOf_tuple_end hh hit hl hx fun h' x he' hx' => ?_)
  obtain ⟨o, ho, hc⟩ := hx'
  refine wpAny_bind (wpAny_isInstance (T := "StopIteration") (b := true) ⟨o, ho, hc⟩ isSubtype_stop ?_)
  exact wpAny_pure (hQ _ he')
/-- the tuple at a, each item in a new pair -/
def Itte (K : PySem.W.Frag) (a : Addr) : It :=
  ⟨fun i H => ∃ (xs : List V) (x : V), SqT K H a xs ∧ xs[i]? = some x, fun i H v H' => ∃ T x, v = .ref T ∧ H T = none ∧ H' = upd H T (.tup [.int (i : Nat), x]) ∧ ∀ xs, SqT K H a xs → xs[i]? = some x, fun i H => ∃ xs : List V, SqT K H a xs ∧ xs.length ≤ i⟩
theorem turn_enumT {P : Program} {w : World} {K : PySem.W.Frag} {elts : List Expr} {kk : Nat} {tpos : Pos} (a e it : Addr) (hea : e ≠ a) (hia : it ≠ a) :
    Turn P w K (.Tuple elts kk tpos) (Itte K a) [e, it] e (fun i h => (∃ old, IsEnum h e it ((i : Nat) : Int) old) ∧ h.IsTupleIter it a i ∧ e ≠ it) where
  mem := by simp
  obj := fun i h st b hb => by
    obtain ⟨⟨old, he⟩, ⟨o, ho, hc, hd⟩, _⟩ := st
    have e' : b = e ∨ b = it := by simpa using hb
    rcases e' with z | z
    · rw [z]; exact ⟨_, he, fun v q => nomatch q⟩
    · rw [z]; exact ⟨o, ho, fun v q => by rw [hd] at q; cases q⟩
  keep := fun i h h' st k => let ⟨⟨old, he⟩, hi, hne⟩ := st; ⟨⟨old, k e (by simp) _ he⟩, hi.at fun o q => k it (by simp) o q, hne⟩
  item := by
    intro X hP hw hK hc i pins s σ H E I hf st hg
    subst hP hw hK
    obtain ⟨⟨old, he⟩, hit, hne⟩ := st
    obtain ⟨xs, x, hq, hx⟩ := hg
    obtain ⟨its, rv, p, hz⟩ := I.tuple hq
    obtain ⟨u, hu, ru⟩ := rv.get hx
    have hel : e < s.heap.objs.size := Heap.lt_size he
    have hil : it < s.heap.objs.size := by obtain ⟨_, q, _⟩ := hit; exact Heap.lt_size q
    have pt : s.heap.IsTuple a its.toArray := p
    have lt : i < its.toArray.size := by
      have := (List.getElem?_eq_some_iff.mp hu).1
      simpa using this
    refine wpAny_pyNext_enum_itemD (Draws.tuple (A := X.A.in1) (show X.A.in1.handled = none from I.ok.hd hc) it a (Ne.symm hia) its.toArray) he ⟨hit, pt⟩ lt hne (by simp [hne, hea]) fun x' h' tk hx' ho st' hT hsz hk => ?_
    have ex : x' = u := by
      have q1 : its.toArray[i]? = some x' := hx'
      rw [List.getElem?_toArray, hu] at q1
      exact (Option.some.inj q1).symm
    subst ex
    obtain ⟨hit', _⟩ := st'
    refine ⟨_, rfl, wpAny_letOwnedTupleGo_enum (s := { s with heap := h', toks := tk + 1 }) ho fun h'' he' sb => ?_⟩
    have hT2 : h''.get? s.heap.objs.size = some { cls := .type "tuple", data := .seq #[.int i tk, x'] } := (sb.2 _ (Nat.ne_of_gt hel)).trans hT
    have new : ObjOk X.prog X.w (upd H s.heap.objs.size (.tup [.int (i : Nat), x])) h'' s.heap.objs.size (.tup [.int (i : Nat), x]) :=
      ⟨by show 2 ≤ sizeLine; decide, [.int i tk, x'], .cons ⟨_, rfl⟩ (.cons ru .nil), ⟨_, hT2, rfl, _, rfl⟩⟩
    have I1 : Inv X pins σ (upd H s.heap.objs.size (.tup [.int (i : Nat), x])) { s with heap := h'', toks := tk + 1 } :=
      I.turnedNew (ch := [e, it]) (fun b ob hb q => (sb.2 b (fun z => hb (by simp [z]))).trans (hk b ob (fun z => hb (by simp [z])) (fun z => hb (by simp [z])) q)) hf (Nat.le_refl _) new
    refine ⟨.ref s.heap.objs.size, _, I1, rfl, ⟨_, x, rfl, I.hok.fresh (Nat.le_refl _), rfl, fun ys hy => by rw [I.tuple_inj hy hq]; exact hx⟩, ⟨⟨x', ?_⟩, hit'.at fun o q => (sb.2 it (Ne.symm hne)).trans q, hne⟩, fun b hb => ?_⟩
    · have e1 : ((i + 1 : Nat) : Int) = (i : Int) + 1 := by omega
      rw [e1]; exact he'
    · have hb' : b < s.heap.objs.size := by
        have e' : b = e ∨ b = it := by simpa using hb
        rcases e' with z | z
        · rw [z]; exact hel
        · rw [z]; exact hil
      rw [upd_ne (Nat.ne_of_lt hb')]
      exact (hf b hb).1
  done := by
    intro X hP hw hK hc i pins s σ H E I hf st hg
    subst hP hw hK
    obtain ⟨⟨old, he⟩, hit, hne⟩ := st
    obtain ⟨xs, hq, hx⟩ := hg
    obtain ⟨its, rv, p, hz⟩ := I.tuple hq
    obtain ⟨f0, f1, f2, f3, f4, f5⟩ := hf it (by simp)
    have hl := rv.length
    have pt : s.heap.IsTuple a its.toArray := p
    have nn : its.toArray[i]? = none := by simp; omega
    exact enumT_end (I.ok.hd hc) he hit pt nn fun h' eb => ⟨rfl, I.turned (t' := s.toks) (fun b o hb q => eb b o hb q) f0 f1 f3 f4 f5⟩
  self := fun A i s Q E st h => let ⟨⟨_, he⟩, _⟩ := st; wpAny_pyIter_enum he h

theorem Rd.ext {H H' : Hp} {a : Addr} {o : HO} (e : Am.Ext H H') (h : Rd H a o) : Rd H' a o := by
  rcases h with h | ⟨o', h⟩
  · exact .inl (e _ _ h)
  · exact .inr ⟨o', e _ _ h⟩
theorem SqT.ext {K : PySem.W.Frag} {H H' : Hp} {a : Addr} {xs : List V} (e : Am.Ext H H') (h : SqT K H a xs) : SqT K H' a xs := h.imp (Rd.ext e) fun z => z
/-- a list or a tuple -/
def SqA (K : PySem.W.Frag) (H : Hp) (a : Addr) (xs : List V) : Prop := SqL K H a xs ∨ SqT K H a xs
theorem SqA.ext {K : PySem.W.Frag} {H H' : Hp} {a : Addr} {xs : List V} (e : Am.Ext H H') (h : SqA K H a xs) : SqA K H' a xs := h.imp (Am.Ext.seq e) (SqT.ext e)
theorem walk_enumT {K : PySem.W.Frag} {a : Addr} {xs : List V} : Walk (Itte K a) xs.length (fun H => SqT K H a xs) (YPair (fun i => some (.int (i : Nat))) (fun i => xs[i]?)) := by
  refine ⟨fun i _ hi q => ⟨xs, xs[i], q, by simp [hi]⟩, fun _ q => ⟨xs, q, Nat.le_refl _⟩, fun i H v H' _ q y => ?_⟩
  obtain ⟨T, x, h1, h2, h3, h4⟩ := y
  exact ⟨T, .int (i : Nat), x, h1, h2, h3, rfl, h4 xs q⟩
/-- a walk over it, which stays so while all that stood at H0 stands on -/
def Goes (H0 H1 : Hp) (n : Nat) (Y : Nat → Hp → V → Hp → Prop) (R : It → Hp → Prop) : Prop := ∀ (J : It) (G : Hp → Prop), Walk J n G Y → (∀ H', Am.Ext H0 H' → G H') → R J H1
def iSeq (K : PySem.W.Frag) (tl : TE) : TI := fun σ H R => tl σ H fun x H1 => ∃ a xs H0, x = .ref a ∧ SqA K H0 a xs ∧ Am.Ext H0 H1 ∧ Goes H0 H1 xs.length (YAt xs) R
def iEnumA (K : PySem.W.Frag) (ta : TA) : TI := fun σ H R => ta σ H fun vs H1 => ∃ a xs H0, vs = [.ref a] ∧ SqA K H0 a xs ∧ Am.Ext H0 H1 ∧ Goes H0 H1 xs.length (YPair (fun i => some (.int (i : Nat))) (fun i => xs[i]?)) R
section
variable {X : Cx} {tg : Expr}
theorem pi_seq {l : Expr} {tl : TE} (hl : PE X l tl) : PI X tg l (iSeq X.K tl) := by
  refine ⟨fun pins s σ H R I h => ?_⟩
  refine thn (hl.run pins s σ H _ I h) fun v s1 ⟨x, H1, I1, r1, q1⟩ => ?_
  obtain ⟨a, xs, H0, e, h0 | h0, e0, q⟩ := q1
  · subst e
    cases r1
    have hq := Am.Ext.seq e0 h0
    obtain ⟨its, rv, p, hz⟩ := I1.list hq
    refine wpAny_pyIter_list p.isList ?_
    refine ⟨s1.heap.objs.size, [s1.heap.objs.size], _, _, H1, rfl, I1.kept (t' := s1.toks) fun b o e => Heap.get?_push_of_some _ e, turn_list a _, ⟨_, Heap.get?_push_size _ rfl, rfl, rfl⟩, fun b hb => ?_, q _ _ walk_list fun H' e => Am.Ext.seq e h0⟩
    have e : b = s1.heap.objs.size := by simpa using hb
    subst e
    exact I1.fpOk (Nat.le_refl _) (I1.hok.fresh (Nat.le_refl _))
  · subst e
    cases r1
    have hq := SqT.ext e0 h0
    obtain ⟨its, rv, p, hz⟩ := I1.tuple hq
    refine wpAny_pyIter_tuple (show s1.heap.IsTuple a its.toArray from p) ?_
    refine ⟨s1.heap.objs.size, [s1.heap.objs.size], _, _, H1, rfl, I1.kept (t' := s1.toks) fun b o e => Heap.get?_push_of_some _ e, turn_tuple a _, ⟨_, Heap.get?_push_size _ rfl, rfl, rfl⟩, fun b hb => ?_, q _ _ walk_tup fun H' e => SqT.ext e h0⟩
    have e : b = s1.heap.objs.size := by simpa using hb
    subst e
    exact I1.fpOk (Nat.le_refl _) (I1.hok.fresh (Nat.le_refl _))
theorem pi_enumA {e : Expr} {ta : TA} {p pos tpos : Pos} {elts : List Expr} {kk : Nat} (hg : Gl X "enumerate") (hm : X.mg "enumerate" = none) (ha : PA X [e] ta) (hs : starEach [e] X.env = [(false, eval e X.env)] := by rfl) :
    PI X (.Tuple elts kk tpos) (.Call (.Name "enumerate" p) [e] [] pos) (iEnumA X.K ta) := by
  refine ⟨fun pins s σ H R I h => ?_⟩
  refine Call_ (ld_blt I hg hm boot_enumerate (PyProof.Rows.callWith_type1 (thn (ha.run pos pins s σ H _ I h) fun us s1 ⟨vs, H1, I1, r1, q1⟩ => ?_) hs rfl))
  obtain ⟨a, xs, H0, ex, h0, e0, q⟩ := q1
  subst ex
  cases r1 with
  | cons r rr =>
    cases rr
    cases r
    have fp : ∀ b, b ∈ [s1.heap.objs.size + 1, s1.heap.objs.size] → FpOk X pins H1 b := fun b hb => by
      have e' : b = s1.heap.objs.size + 1 ∨ b = s1.heap.objs.size := by simpa using hb
      have hle : s1.heap.objs.size ≤ b := by
        rcases e' with z | z
        · rw [z]; exact Nat.le_add_right _ _
        · rw [z]; exact Nat.le_refl _
      exact I1.fpOk hle (I1.hok.fresh hle)
    rcases h0 with h0 | h0
    · have hq := Am.Ext.seq e0 h0
      obtain ⟨its, rv, p', hz⟩ := I1.list hq
      refine call_enumerate_list p'.isList fun h' he hit hsz hk => wpAny_pyIter_enum he ?_
      have I2 : Inv X pins σ H1 { s1 with heap := h' } := I1.kept (t' := s1.toks) hk
      exact ⟨s1.heap.objs.size + 1, [s1.heap.objs.size + 1, s1.heap.objs.size], _, _, H1, rfl, I2, turn_enum a (s1.heap.objs.size + 1) s1.heap.objs.size, ⟨⟨.none, he⟩, hit, Nat.succ_ne_self _⟩, fp, q _ _ walk_enum fun H' e => Am.Ext.seq e h0⟩
    · have hq := SqT.ext e0 h0
      obtain ⟨its, rv, p', hz⟩ := I1.tuple hq
      have pt : s1.heap.IsTuple a its.toArray := p'
      have al : a < s1.heap.objs.size := by obtain ⟨o, q, _⟩ := id pt; exact Heap.lt_size q
      refine call_enumerateB (begins_tuple a its.toArray) pt (F.typeCall_enumerate_1 _) (F.newCall_enumerate_1 _) (fun obj => F.args_object_init_2 obj _) fun h' he hit hsz hk => wpAny_pyIter_enum he ?_
      have I2 : Inv X pins σ H1 { s1 with heap := h' } := I1.kept (t' := s1.toks) hk
      exact ⟨s1.heap.objs.size + 1, [s1.heap.objs.size + 1, s1.heap.objs.size], _, _, H1, rfl, I2, turn_enumT a (s1.heap.objs.size + 1) s1.heap.objs.size (by have : a ≠ s1.heap.objs.size + 1 := Nat.ne_of_lt (Nat.lt_succ_of_lt al); exact Ne.symm this) (by have : a ≠ s1.heap.objs.size := Nat.ne_of_lt al; exact Ne.symm this),
        ⟨⟨.none, he⟩, ⟨_, hit, rfl, rfl⟩, Nat.succ_ne_self _⟩, fp, q _ _ walk_enumT fun H' e => SqT.ext e h0⟩
end
end SqX

set_option Elab.async false
set_option linter.all false
set_option maxRecDepth 100000
set_option maxHeartbeats 1000000
/-! is_name, is_list. -/
namespace KD
open PySem PySem.Spec PyProof.Rows L2 Oo Gd Am KA SqX
def low (c : Nat) : Bool := decide (97 ≤ c ∧ c < 123)
def nsg (c : Nat) : Bool := decide ((97 ≤ c ∧ c < 123) ∨ (48 ≤ c ∧ c < 58))
theorem in_low (c : Nat) : decide (c ∈ (Str.ofString "abcdefghijklmnopqrstuvwxyz").cps.toList) = low c := by
  have e : (Str.ofString "abcdefghijklmnopqrstuvwxyz").cps.toList = List.range' 97 26 := by decide +kernel
  rw [e]
  unfold low
  exact decide_eq_decide.mpr (by rw [List.mem_range'_1])
theorem in_nsg (c : Nat) : decide (c ∈ (Str.ofString "abcdefghijklmnopqrstuvwxyz0123456789").cps.toList) = nsg c := by
  have e : (Str.ofString "abcdefghijklmnopqrstuvwxyz0123456789").cps.toList = List.range' 97 26 ++ List.range' 48 10 := by decide +kernel
  rw [e]
  unfold nsg
  exact decide_eq_decide.mpr (by rw [List.mem_append, List.mem_range'_1, List.mem_range'_1])
/-- the signs of a text -/
abbrev sg (x : Str) : List Nat := x.cps.toList
theorem sg_len (x : Str) : (sg x).length = x.length := Array.length_toList
def nameB (x : Str) : Bool := decide (1 ≤ x.length) && (decide (x.length ≤ 8) && (low ((sg x).headD 0) && (sg x).all nsg))
section
variable {P : Program} {w : World} {K : W.Frag} {mg : Str → Option Value} {base : Heap} {f C : Addr} {fd : FuncData} {t t2 t3 : Tok}
def spName : Sp := fun vs H Q _ => ∃ x : Str, vs = [.str x] ∧ x.length ≤ 3000 ∧ ∀ H', Am.Ext H H' → Q (.bl (nameB x)) H'
theorem scName : FnScope ["value", "sign"] ["value"] (defScope (top 20)) := ⟨rfl, rfl, rfl, by decide +kernel, rfl, by decide +kernel, by decide +kernel⟩
theorem ok_name (fr : Frees mg) (m8 : mg "LONGEST_NAME" = some (.int 8 t)) (mL : mg "LETTERS" = some (.str "abcdefghijklmnopqrstuvwxyz" t2)) (mS : mg "NAME_SIGNS" = some (.str "abcdefghijklmnopqrstuvwxyz0123456789" t3))
    (F : Fun K "is_name" "is_name" (top 20) f fd) : FnOk P w K mg base CX0 1 f fd ["value"] spName := by
  refine F.ok scName (fun vs H Q E h => ?_) (fun cdv A outer s H vs Q E hr h => ?_)
  · obtain ⟨x, rfl, _⟩ := h
    rfl
  · obtain ⟨x, rfl, lx, z⟩ := h
    have nd := scName.nd
    have isk : IsK K := ⟨trivial⟩
    refine ⟨_, pss_cons (ps_if (PW.pt (pw_or (pt_not (pt_val (pe_callB call_isi rfl (fr.h _ (by decide +kernel)) (by decide +kernel) (pa_cons (pv 0) (pa_cons (pe_bltn (v := V.ty "str") rfl (fr.h _ (by decide +kernel)) (by rfl) rfl) pa_nil)))))
        (pw_or1 (pt_not (pt_chain op_le op_le pe_int (pe_callB call_len_str rfl (fr.h _ (by decide +kernel)) (by decide +kernel) (pa_cons (pv 0) pa_nil)) (pe_glob (v := V.int 8) rfl m8 ⟨t, rfl⟩)))))) (pss_one (ps_ret pe_bl)) pss_nil)
      (pss_one (ps_ret (pe_and (pe_cmpR op_in_sign (pe_ix (ixK isk) (pv 0) pe_int (fun _ _ => rfl)) (pe_glob (v := V.str "abcdefghijklmnopqrstuvwxyz") rfl mL ⟨t2, rfl⟩) rfl)
        (pe_one (pe_callB (allK isk rfl) rfl (fr.h _ (by decide +kernel)) (by decide +kernel) (pa_cons (pe_lc (own := [("sign", 1)]) (g := gName 1) (tt := tYes) rfl nd (pi_str (pv 0)) (blkOk_by (N := ["value", "sign"]) (sc := defScope (top 20)) (by decide +kernel)) (fun _ _ _ _ _ => pg_name (i := 1) nd rfl (Or.inl rfl)) (fun _ _ _ _ _ => pts_nil) (fun _ _ _ _ _ => pe_cmpR op_in_sign (pv 1) (pe_glob (v := V.str "abcdefghijklmnopqrstuvwxyz0123456789") rfl mS ⟨t3, rfl⟩) rfl)) pa_nil)))))), ?_⟩
    have big : (3000 : Nat) < sizeLine := by decide
    have lt := sg_len x
    refine ⟨_, rfl, _, _, _, _, true, rfl, ClsV.ty "str", TyX.base (TyOf.str x), kit_ty (by decide +kernel), _, rfl, ?_⟩
    refine iteF ⟨_, rfl, _, rfl, (by omega), _, _, rfl, rfl, _, rfl, ?_⟩
    by_cases h1 : 1 ≤ x.length
    · rw [decide_eq_true (show (1 : Int) ≤ (x.length : Int) by omega)]
      refine iteT ⟨_, _, rfl, rfl, _, rfl, ?_⟩
      by_cases h8 : x.length ≤ 8
      · rw [decide_eq_true (show (x.length : Int) ≤ 8 by omega)]
        refine iteF ?_
        obtain ⟨c, r, er⟩ : ∃ c r, sg x = c :: r := by
          cases e : sg x with
          | nil => rw [e] at lt; simp at lt; omega
          | cons c r => exact ⟨c, r, rfl⟩
        have key : nameB x = (low c && (sg x).all nsg) := by
          unfold nameB
          rw [decide_eq_true h1, decide_eq_true h8, er]
          rfl
        refine ⟨_, rfl, .inr (.inr ⟨x, 0, c, rfl, rfl, by omega, (by have := atI_nat (j := 0) (show (sg x)[0]? = some c by rw [er]; rfl); exact this), c, _, rfl, rfl, _, rfl, ?_⟩)⟩
        rw [in_low]
        by_cases hl : low c = true
        · rw [hl, Bool.true_and] at key
          rw [hl]
          refine iteT ⟨_, rfl, _, rfl, fun D hD => ?_⟩
          refine lc_it walk_str (fun i H' => Am.Ext H H' ∧ H' D = some (.lst (((sg x).take i).map fun c => V.bl (nsg c)))) ⟨Am.Ext.new hD, by rw [upd_same]; rfl⟩ (fun _ _ _ _ => trivial) ?_ ?_
          · rintro i y H' H2 hi ⟨e, d⟩ ⟨rfl, c', hc, rfl⟩
            have hc' : (sg x)[i]? = some c' := by
              rw [← hc]
              exact Array.getElem?_toList
            refine ⟨rfl, _, rfl, c', _, rfl, rfl, _, d, ?_, ⟨fun b o hb => ?_, ?_⟩⟩
            · rw [List.length_map, List.length_take]
              omega
            · rw [upd_ne (ne_of_none hb hD)]
              exact e b o hb
            · rw [upd_same, List.take_succ, hc', Option.toList_some, List.map_append, in_nsg]
              rfl
          · rintro H' ⟨e, d⟩
            rw [show x.cps.size = (sg x).length from lt.symm, List.take_length] at d
            refine ⟨D, (sg x).map nsg, rfl, SqL.of (by rw [d, List.map_map]; rfl), ?_⟩
            have : ((sg x).map nsg).all id = (sg x).all nsg := by rw [List.all_map]; rfl
            rw [this, ← key]
            exact z H' e
        · have hl' : low c = false := by simpa using hl
          rw [hl', Bool.false_and] at key
          rw [hl']
          have := z H (Am.Ext.refl H)
          rw [key] at this
          exact iteF this
      · rw [decide_eq_false (show ¬ (x.length : Int) ≤ 8 by omega)]
        have key : nameB x = false := by
          unfold nameB
          rw [decide_eq_false h8, Bool.false_and, Bool.and_false]
        have := z H (Am.Ext.refl H)
        rw [key] at this
        exact iteT this
    · rw [decide_eq_false (show ¬ (1 : Int) ≤ (x.length : Int) by omega)]
      have key : nameB x = false := by
        unfold nameB
        rw [decide_eq_false h1, Bool.false_and]
      have := z H (Am.Ext.refl H)
      rw [key] at this
      exact iteF ⟨_, rfl, iteT this⟩
/-- a list or a tuple that stands, or a tuple of the written part -/
def SeqH (K : W.Frag) (H : Hp) (a : Addr) (xs : List V) : Prop := H a = some (.lst xs) ∨ H a = some (.tup xs) ∨ ∃ (o : Obj) (its : Array Value) (n : Nat), K.lookup a = some o ∧ o.cls = .type "tuple" ∧ o.data = .seq its n ∧ its.size ≤ sizeLine ∧ Vals xs its.toList
theorem SeqH.ext {K : W.Frag} {H H' : Hp} {a : Addr} {xs : List V} (e : Am.Ext H H') (h : SeqH K H a xs) : SeqH K H' a xs := h.imp (e _ _) fun q => q.imp (e _ _) fun z => z
theorem SeqH.sq {K : W.Frag} {H : Hp} {a : Addr} {xs : List V} (h : SeqH K H a xs) : SqA K H a xs := by
  rcases h with h | h | h
  · exact .inl (SqL.of h)
  · exact .inr (SqT.of h)
  · exact .inr (.inr h)
/-- is_list of a list or a tuple -/
def spList (K : W.Frag) : Sp := fun vs H Q _ => ∃ a xs, vs = [.ref a] ∧ SeqH K H a xs ∧ ∀ H', Am.Ext H H' → Q (.bl true) H'
theorem scList : FnScope ["value"] ["value"] (defScope (top 21)) := ⟨rfl, rfl, rfl, by decide +kernel, rfl, by decide +kernel, by decide +kernel⟩
theorem ok_list (fr : Frees mg) (F : Fun K "is_list" "is_list" (top 21) f fd) : FnOk P w K mg base CX0 1 f fd ["value"] (spList K) := by
  refine F.ok scList (fun vs H Q E h => ?_) (fun cdv A outer s H vs Q E hr h => ?_)
  · obtain ⟨a, xs, rfl, _⟩ := h
    rfl
  · obtain ⟨a, xs, rfl, hx, z⟩ := h
    refine ⟨_, pss_one (ps_ret (pe_callB call_isiT rfl (fr.h _ (by decide +kernel)) (by decide +kernel) (pa_cons (pv 0) (pa_cons (pe_tup (pa_cons (pe_bltn (v := V.ty "list") rfl (fr.h _ (by decide +kernel)) (by rfl) rfl) (pa_cons (pe_bltn (v := V.ty "tuple") rfl (fr.h _ (by decide +kernel)) (by rfl) rfl) pa_nil))) pa_nil)))), ?_⟩
    refine ⟨_, rfl, (by show 2 ≤ sizeLine; decide), fun T hT => ?_⟩
    have na : ∀ {o}, H a = some o → a ≠ T := fun e => ne_of_none e hT
    rcases hx with hx | hx | ⟨o, its, n, hk, hc, _⟩
    · exact ⟨_, T, _, _, _, true, rfl, upd_same, .cons (ClsV.ty "list") (.cons (ClsV.ty "tuple") .nil), TyX.base (TyOf.lst (by rw [upd_ne (na hx)]; exact hx)), kitAny_cons (b := true) (kit_ty (by decide +kernel)) (fun z => nomatch z) (fun _ => rfl), z _ (Am.Ext.new hT)⟩
    · exact ⟨_, T, _, _, _, true, rfl, upd_same, .cons (ClsV.ty "list") (.cons (ClsV.ty "tuple") .nil), TyX.base (TyOf.tup (by rw [upd_ne (na hx)]; exact hx)), kitAny_cons (b := false) (kit_ty (by decide +kernel)) (fun _ => kitAny_cons (b := true) (kit_ty (by decide +kernel)) (fun z => nomatch z) (fun _ => rfl)) (fun z => nomatch z), z _ (Am.Ext.new hT)⟩
    · exact ⟨_, T, _, _, _, true, rfl, upd_same, .cons (ClsV.ty "list") (.cons (ClsV.ty "tuple") .nil), TyX.kTuple hk hc, kitAny_cons (b := false) (kit_ty (by decide +kernel)) (fun _ => kitAny_cons (b := true) (kit_ty (by decide +kernel)) (fun z => nomatch z) (fun _ => rfl)) (fun z => nomatch z), z _ (Am.Ext.new hT)⟩
end
end KD

set_option Elab.async false
set_option linter.all false
set_option maxRecDepth 100000
set_option maxHeartbeats 1000000
/-! wrong_name_at, wrong_choice_at, sorted_names: of names that are right. -/
namespace KD
open PySem PySem.Spec PyProof.Rows L2 Oo Gd Am KA SqX
theorem ext_off {H H' : Hp} {D : Addr} {o : HO} (e : Am.Ext H H') (n : H D = none) : Am.Ext H (upd H' D o) := fun b u hb => by
  rw [upd_ne (ne_of_none hb n)]
  exact e b u hb
theorem take_suc {α : Type} {l : List α} {i : Nat} {c : α} (h : l[i]? = some c) : l.take (i + 1) = l.take i ++ [c] := by
  rw [List.take_succ, h]
  rfl
/-- the dict at D holds the names ys -/
def Seen (H : Hp) (D : Addr) (ys : List Str) : Prop := ∃ kvs : List (Key × V), H D = some (.dK kvs) ∧ kvs.length ≤ ys.length ∧ ∀ y : Str, (valV kvs (Sum.inr y : Key)).isSome = decide (y ∈ ys)
theorem seen0 {H : Hp} {D : Addr} : Seen (upd H D (.dK [])) D [] := ⟨[], upd_same, Nat.le_refl _, fun y => by rw [valV_nil]; simp⟩
theorem Seen.put {H : Hp} {D : Addr} {ys : List Str} {y : Str} {v : V} (s : Seen H D ys) (hl : ys.length < 1000) : ∃ H', DPut H D (.str y) v H' ∧ (∀ H0, H0 D = none → Am.Ext H0 H → Am.Ext H0 H') ∧ Seen H' D (ys ++ [y]) := by
  obtain ⟨kvs, hd, hk, hv⟩ := s
  have big : (1000 : Nat) < sizeLine := by decide
  refine ⟨_, DPut.k (k := (Sum.inr y : Key)) hd (by omega), fun H0 n e => ext_off e n, _, upd_same, ?_, fun z => ?_⟩
  · have := length_putK kvs (Sum.inr y : Key) v
    rw [List.length_append]
    simp
    omega
  · rw [valV_put]
    by_cases e : z = y
    · subst e
      rw [if_pos rfl]
      simp
    · rw [if_neg (fun q => e (by injection q)), hv z]
      simp [e]
/-- right names, all apart -/
structure Nms (xs : List Str) : Prop where
  ok : ∀ x ∈ xs, nameB x = true
  nd : xs.Nodup
  few : xs.length < 64
theorem name_len {x : Str} (h : nameB x = true) : 1 ≤ x.length ∧ x.length ≤ 8 := by
  unfold nameB at h
  simp only [Bool.and_eq_true, decide_eq_true_eq] at h
  exact ⟨h.1, h.2.1⟩
theorem map_at {xs : List Str} {i : Nat} {x : V} (h : (xs.map V.str)[i]? = some x) : ∃ y, xs[i]? = some y ∧ x = .str y := by
  rw [List.getElem?_map] at h
  obtain ⟨y, e, r⟩ := Option.map_eq_some_iff.mp h
  exact ⟨y, e, r.symm⟩
section
variable {P : Program} {w : World} {K : W.Frag} {mg : Str → Option Value} {base : Heap} {f C : Addr} {fd : FuncData} {t t2 t3 : Tok}
/-- wrong_name_at(values, earlier): there is none -/
def spWna (K : W.Frag) : Sp := fun vs H Q _ => ∃ (a b : Addr) (xs ys : List Str), vs = [.ref a, .ref b] ∧ SqA K H a (xs.map V.str) ∧ SqA K H b (ys.map V.str) ∧ Nms xs ∧ ys.length < 64 ∧ (∀ x ∈ xs, x ∉ ys) ∧ ∀ H', Am.Ext H H' → Q .non H'
abbrev nWna : List Str := ["values", "earlier", "seen", "name", "at", "value"]
theorem scWna : FnScope nWna ["values", "earlier"] (defScope (top 22)) := ⟨rfl, rfl, rfl, by decide +kernel, rfl, by decide +kernel, by decide +kernel⟩
theorem ok_wna (fr : Frees mg) (DN : Dn P w K mg base CX0 1 "is_name" ["value"] spName) (F : Fun K "wrong_name_at" "wrong_name_at" (top 22) f fd) : FnOk P w K mg base CX0 2 f fd ["values", "earlier"] (spWna K) := by
  refine F.ok scWna (fun vs H Q E h => ?_) (fun cdv A outer s H vs Q E hr h => ?_)
  · obtain ⟨a, b, xs, ys, rfl, _⟩ := h
    rfl
  · obtain ⟨a, b, xs, ys, rfl, ha, hb, nx, ly, off, z⟩ := h
    have nd := scWna.nd
    have isk : IsK K := ⟨trivial⟩
    have hu := hu_of hr
    refine ⟨_, pss_cons (ps_set (i := 2) nd rfl (.inl rfl) pe_dnewK)
      (pss_cons (ps_for PassesOwn.never rfl (pi_seq (pv 1)) (pg_name (i := 3) nd rfl (.inl rfl)) (pss_one (ps_dput hu (pv 2) (pv 3) pe_bl rfl)))
      (pss_cons (ps_for PassesOwn.never rfl (pi_enumA rfl (fr.h _ (by decide +kernel)) (pa_cons (pv 0) pa_nil)) (pg_tup rfl (pgs_cons (pg_name (i := 4) nd rfl (.inl rfl)) (pgs_cons (pg_name (i := 5) nd rfl (.inl rfl)) pgs_nil)))
        (pss_cons (ps_if (PW.pt (pw_or (pt_not (pt_val (pe_dn DN hr (by rfl) (by decide) (pa_cons (pv 5) pa_nil)))) (pw_or1 (pt_cmp (pc_din hu (pv 5) (pv 2)))))) (pss_one (ps_ret (pv 4))) pss_nil)
          (pss_one (ps_dput hu (pv 2) (pv 5) pe_bl rfl))))
      (pss_one (ps_ret pe_non)))), ?_⟩
    intro D hD
    refine ⟨_, rfl, b, _, H, rfl, hb, Am.Ext.new hD, fun J G wk st => ?_⟩
    rw [List.length_map] at wk
    refine for_it wk (fun i σ H' => Am.Ext H H' ∧ Seen H' D (ys.take i) ∧ ∃ e3, σ = [some (.ref a), some (.ref b), some (.ref D), e3, none, none]) ⟨Am.Ext.new hD, seen0, none, rfl⟩ (fun i σ H' _ h => st H' h.1) ?_ ?_
    · rintro i x σ H' H2 hi ⟨eH, sn, e3, rfl⟩ ⟨rfl, hx⟩
      obtain ⟨y, hy, rfl⟩ := map_at hx
      obtain ⟨H3, dp, keep, sn2⟩ := sn.put (y := y) (v := .bl true) (by rw [List.length_take]; omega)
      rw [← take_suc hy] at sn2
      exact ⟨_, rfl, _, rfl, D, H3, rfl, dp, keep H hD eH, sn2, _, rfl⟩
    · rintro σ H1 ⟨e1, sn, e3, rfl⟩
      rw [List.take_length] at sn
      refine ⟨_, rfl, a, _, H, rfl, ha, e1, fun J G wk st => ?_⟩
      rw [List.length_map] at wk
      refine for_it wk (fun i σ H' => Am.Ext H H' ∧ Seen H' D (ys ++ xs.take i) ∧ ∃ e4 e5, σ = [some (.ref a), some (.ref b), some (.ref D), e3, e4, e5]) ⟨e1, by simpa using sn, none, none, rfl⟩ (fun i σ H' _ h => st H' h.1) ?_ ?_
      · rintro i x σ H' H2 hi ⟨eH, sn, e4, e5, rfl⟩ ⟨T, v1, v2, rfl, hT, rfl, hv1, hx⟩
        cases hv1
        obtain ⟨y, hy, rfl⟩ := map_at hx
        have hm : y ∈ xs := List.mem_of_getElem? hy
        have nm := nx.ok y hm
        have l8 := name_len nm
        have eT : Am.Ext H' (upd H' T (.tup [.int (i : Nat), .str y])) := Am.Ext.new hT
        have hDT : D ≠ T := by
          obtain ⟨kvs, hd, _⟩ := sn
          exact ne_of_none hd hT
        have snT : Seen (upd H' T (.tup [.int (i : Nat), .str y])) D (ys ++ xs.take i) := by
          obtain ⟨kvs, hd, r⟩ := sn
          exact ⟨kvs, by rw [upd_ne hDT]; exact hd, r⟩
        have fresh : y ∉ ys ++ xs.take i := by
          rw [List.mem_append]
          rintro (q | q)
          · exact off y hm q
          · obtain ⟨j, hj, e⟩ := List.getElem_of_mem q
            rw [List.length_take] at hj
            rw [List.getElem_take] at e
            have hyi := (List.getElem?_eq_some_iff.mp hy)
            exact List.pairwise_iff_getElem.mp nx.nd j i (by omega) hyi.1 (by omega) (by rw [e, hyi.2])
        refine ⟨T, _, rfl, SqT.of upd_same, rfl, _, _, rfl, _, _, rfl, rfl, ?_⟩
        refine ⟨_, rfl, y, rfl, by omega, fun H4 e4' => ⟨_, rfl, ?_⟩⟩
        rw [nm]
        have eH4 : Am.Ext H H4 := (eH.trans eT).trans e4'
        have sn4 : Seen H4 D (ys ++ xs.take i) := by
          obtain ⟨kvs, hd, r⟩ := snT
          exact ⟨kvs, e4' _ _ hd, r⟩
        obtain ⟨kvs, hd, hk, hv⟩ := id sn4
        refine iteF ⟨_, rfl, _, rfl, D, _, rfl, DGet.k (k := (Sum.inr y : Key)) hd, _, rfl, ?_⟩
        rw [hv y, decide_eq_false fresh]
        refine iteF ?_
        obtain ⟨H5, dp, keep, sn5⟩ := sn4.put (y := y) (v := .bl true) (by rw [List.length_append, List.length_take]; have := nx.few; omega)
        rw [List.append_assoc, ← take_suc hy] at sn5
        exact ⟨_, rfl, _, rfl, D, H5, rfl, dp, keep H hD eH4, sn5, _, _, rfl⟩
      · rintro σ H' ⟨eH, sn, e4, e5, rfl⟩
        exact z H' eH
end
end KD

set_option Elab.async false
set_option linter.all false
set_option maxRecDepth 100000
set_option maxHeartbeats 1000000
/-! sorted of texts, by themselves or by key=str. -/
namespace KD
open PySem PySem.Spec PyProof.Rows L2
def srt (xs : List Str) : List Str := xs.mergeSort fun a b => decide (a.cps.toList ≤ b.cps.toList)
theorem srt_perm (xs : List Str) : (srt xs).Perm xs := List.mergeSort_perm ..
theorem srt_len (xs : List Str) : (srt xs).length = xs.length := (srt_perm xs).length_eq
theorem srt_mem (xs : List Str) (x : Str) : x ∈ srt xs ↔ x ∈ xs := (srt_perm xs).mem_iff
theorem srt_of_perm {xs ys : List Str} (h : xs.Perm ys) : srt xs = srt ys := by
  have tr : ∀ a b c : Str, decide (a.cps.toList ≤ b.cps.toList) = true → decide (b.cps.toList ≤ c.cps.toList) = true → decide (a.cps.toList ≤ c.cps.toList) = true := fun a b c p q =>
    decide_eq_true (List.le_trans (of_decide_eq_true p) (of_decide_eq_true q))
  have to : ∀ a b : Str, (decide (a.cps.toList ≤ b.cps.toList) || decide (b.cps.toList ≤ a.cps.toList)) = true := fun a b => by
    rw [Bool.or_eq_true, decide_eq_true_eq, decide_eq_true_eq]
    exact List.le_total ..
  have s1 := List.pairwise_mergeSort tr to xs
  have s2 := List.pairwise_mergeSort tr to ys
  refine List.Perm.eq_of_pairwise (le := fun a b => decide (a.cps.toList ≤ b.cps.toList) = true) (fun a b _ _ p q => ?_) s1 s2 (((srt_perm xs).trans h).trans (srt_perm ys).symm)
  have e := List.le_antisymm (of_decide_eq_true p) (of_decide_eq_true q)
  cases a with
  | mk a =>
    cases b with
    | mk b => exact congrArg Str.mk (Array.toList_inj.mp e)
abbrev isS : Value → Str → Prop := fun v b => ∃ t, v = .str b t
theorem each_s : ∀ {xs : List Str} {us : List Value}, Vals (xs.map V.str) us → PySem.W.EachIs isS us xs
  | [], _, r => by cases r; exact .nil
  | x :: xs, _, r => by
    cases r with
    | cons a b => exact .cons a (each_s b)
theorem s_each : ∀ {xs : List Str} {us : List Value}, PySem.W.EachIs isS us xs → Vals (xs.map V.str) us
  | _, _, .nil => .nil
  | _, _, .cons a b => .cons a (s_each b)
theorem alike_s (xs : List Str) : PySem.W.AllAlike (xs.map PyData.str) := PySem.W.AllAlike.of fun _ _ => rfl
theorem sortable_s (xs : List Str) : PySem.W.Sortable (xs.map PyData.str) := PySem.W.Sortable.others (enc := PyData.str) fun _ => And.intro (fun h => nomatch h) (fun _ h => nomatch h)
theorem le_s : PySem.W.dataLe false (fun b : Str => PyData.str b) = fun a b => decide (a.cps.toList ≤ b.cps.toList) := PySem.W.dataLe_str (fun b : Str => b)
def rSrt (K : PySem.W.Frag) : List V → Hp → VK → Prop := fun vs H Q => ∃ (a : Addr) (xs : List Str), vs = [.ref a] ∧ SqL K H a (xs.map V.str) ∧ xs.length ≤ 1000 ∧ ∀ p, H p = none → Q (.ref p) (upd H p (.lst ((srt xs).map V.str)))
def rSrtK (K : PySem.W.Frag) : List V → List V → Hp → VK → Prop := fun vs zs H Q => zs = [.ty "str"] ∧ rSrt K vs H Q
section
variable {X : Cx} {k : Nat}
theorem cr_srt (hr : Room k X.A) : CallR X (.builtin "sorted") (rSrt X.K) := by
  intro pins s σ H vs us Q I r h
  obtain ⟨a, xs, rfl, hs, hl, q⟩ := h
  obtain ⟨its, rv, pl, _⟩ := I.list hs
  rw [Vals.ref1 r]
  have big : (1000 : Nat) < sizeLine := by decide
  have e := each_s rv
  have un := hr.units
  refine PySem.W.sorted_data (enc := PyData.str) pl.isList e (e.mono fun v b ⟨t, z⟩ => ⟨[], by rw [z]; exact .str b t⟩) (alike_s xs) (sortable_s xs) (by omega) (fun b _ => by show X.A.units + 2 + 0 < cLine; omega) fun out lo ko => ?_
  obtain ⟨ep, he'⟩ := PyProof.Rows.sortedAll_at s.heap its out.toArray
  rw [le_s] at ko
  have hlen : ((srt xs).map V.str).length ≤ sizeLine := by rw [List.length_map, srt_len]; omega
  exact ⟨.ref _, upd H (s.heap.objs.size + 1) (.lst ((srt xs).map V.str)), I.laid (t' := s.toks) (fun _ _ => PyProof.Rows.sortedAll_old) (Nat.le_succ _) ⟨hlen, out, ep, s_each ko, he'⟩, rfl, q _ (I.hok.fresh (Nat.le_succ _))⟩
theorem tree_str (a : Addr) : Builtin.«list.sort» ⟨[.ref a], [(Str.ofString "key", .type "str")]⟩ = PyProof.Rows.ksk_tree a (.type "str") false := rfl
theorem cr_srtK (hr : Room k X.A) : CallRK X (.builtin "sorted") [Str.ofString "key"] (rSrtK X.K) := by
  intro pins s σ H vs zs us ws Q I r rz h
  obtain ⟨rfl, a, xs, rfl, hs, hl, q⟩ := h
  obtain ⟨its, rv, pl, _⟩ := I.list hs
  rw [Vals.ref1 r]
  obtain ⟨w1, rfl, e1⟩ := vals1 rz
  obtain rfl : w1 = Value.type "str" := e1
  have big : (1000 : Nat) < sizeLine := by decide
  have e := each_s rv
  have un := hr.units
  refine PySem.W.sorted_key_data (f := .type "str") (b := false) PyData.str pl.isList e (alike_s xs) (sortable_s xs) (by omega) (fun b _ => by show X.A.units + 2 + 0 < cLine; omega) (PyProof.Rows.ksk_s1 _ _) (fun _ => PyProof.Rows.ksk_l1 _ _) (fun x => tree_str x) (fun v x hR _ h tk kp => ?_) fun out c h' tk kp hn hD lo ko => ?_
  · obtain ⟨t, rfl⟩ := hR
    exact PySem.P.str_of_str ⟨h, tk, rfl, fun _ _ z => z, .str x t⟩
  · rw [le_s] at ko
    have hlen : ((srt xs).map V.str).length ≤ sizeLine := by rw [List.length_map, srt_len]; omega
    exact ⟨.ref _, upd H (s.heap.objs.size + 1) (.lst ((srt xs).map V.str)), I.laid (t' := tk) kp (Nat.le_succ _) ⟨hlen, out, c, s_each ko, hD⟩, rfl, q _ (I.hok.fresh (Nat.le_succ _))⟩
end
end KD

set_option Elab.async false
set_option linter.all false
set_option maxRecDepth 100000
set_option maxHeartbeats 1000000
/-! sorted_names. -/
namespace KD
open PySem PySem.Spec PyProof.Rows L2 Oo Gd Am KA SqX
section
variable {P : Program} {w : World} {K : W.Frag} {mg : Str → Option Value} {base : Heap} {f C : Addr} {fd : FuncData} {t t2 t3 : Tok}
/-- a new tuple of these texts -/
def NewT (H : Hp) (Q : VK) (xs : List Str) : Prop := ∀ (T : Addr) (H' : Hp), Am.Ext H H' → H T = none → H' T = some (.tup (xs.map V.str)) → Q (.ref T) H'
def spSn (K : W.Frag) : Sp := fun vs H Q _ => ∃ (a : Addr) (xs : List Str), vs = [.ref a] ∧ SqA K H a (xs.map V.str) ∧ xs.length ≤ 100 ∧ NewT H Q (srt xs)
def spSnD : Sp := fun vs H Q _ => ∃ (a : Addr) (kvs : List (Key × V)) (xs : List Str), vs = [.ref a] ∧ H a = some (.dK kvs) ∧ kvs.map (·.1) = xs.map Sum.inr ∧ xs.length ≤ 100 ∧ NewT H Q (srt xs)
theorem scSn : FnScope ["names", "name"] ["names"] (defScope (top 24)) := ⟨rfl, rfl, rfl, by decide +kernel, rfl, by decide +kernel, by decide +kernel⟩
theorem ok_sn (fr : Frees mg) (F : Fun K "sorted_names" "sorted_names" (top 24) f fd) : FnOk P w K mg base CX0 1 f fd ["names"] (spSn K) := by
  refine F.ok scSn (fun vs H Q E h => ?_) (fun cdv A outer s H vs Q E hr h => ?_)
  · obtain ⟨a, xs, rfl, _⟩ := h
    rfl
  · obtain ⟨a, xs, rfl, hx, lx, z⟩ := h
    have nd := scSn.nd
    have isk : IsK K := ⟨trivial⟩
    have big : (1000 : Nat) < sizeLine := by decide
    refine ⟨_, pss_one (ps_ret (pe_callTy (tupK isk) rfl (fr.h _ (by decide +kernel)) (by decide +kernel) (pa_cons (pe_callB (cr_srt hr) rfl (fr.h _ (by decide +kernel)) (by decide +kernel) (pa_cons
      (pe_lc (own := [("name", 1)]) (g := gName 1) (tt := tYes) rfl nd (pi_seq (pv 0)) (blkOk_by (N := ["names", "name"]) (sc := defScope (top 24)) (by decide +kernel)) (fun _ _ _ _ _ => pg_name (i := 1) nd rfl (Or.inl rfl)) (fun _ _ _ _ _ => pts_nil)
        (fun _ _ _ _ _ => pe_callTy SkE.call_str_str rfl (fr.h _ (by decide +kernel)) (by decide +kernel) (pa_cons (pv 1) pa_nil))) pa_nil)) pa_nil))), ?_⟩
    refine ⟨_, rfl, a, _, H, rfl, hx, Am.Ext.refl H, fun J G wk st D hD => ?_⟩
    rw [List.length_map] at wk
    refine lc_it wk (fun i H' => Am.Ext H H' ∧ H' D = some (.lst ((xs.take i).map V.str))) ⟨Am.Ext.new hD, by rw [upd_same]; rfl⟩ (fun i H' _ h => st H' h.1) ?_ ?_
    · rintro i y H' H2 hi ⟨e, d⟩ ⟨rfl, hy⟩
      obtain ⟨x, hx', rfl⟩ := map_at hy
      refine ⟨rfl, _, rfl, x, rfl, _, d, ?_, ext_off e hD, ?_⟩
      · rw [List.length_map, List.length_take]
        omega
      · rw [upd_same, take_suc hx', List.map_append]
        rfl
    · rintro H' ⟨e, d⟩
      rw [List.take_length] at d
      refine ⟨D, xs, rfl, SqL.of d, by omega, fun p hp => ?_⟩
      have e2 := e.then (o := .lst ((srt xs).map V.str)) hp
      refine ⟨p, (srt xs).map V.str, rfl, .inl ⟨SqL.of upd_same, fun T hT => ?_⟩⟩
      exact z T _ (e2.then hT) (e2.gone hT) upd_same
theorem ok_snD (fr : Frees mg) (F : Fun K "sorted_names" "sorted_names" (top 24) f fd) : FnOk P w K mg base CX0 1 f fd ["names"] spSnD := by
  refine F.ok scSn (fun vs H Q E h => ?_) (fun cdv A outer s H vs Q E hr h => ?_)
  · obtain ⟨a, kvs, xs, rfl, _⟩ := h
    rfl
  · obtain ⟨a, kvs, xs, rfl, hx, hk, lx, z⟩ := h
    have nd := scSn.nd
    have isk : IsK K := ⟨trivial⟩
    have big : (1000 : Nat) < sizeLine := by decide
    refine ⟨_, pss_one (ps_ret (pe_callTy (tupK isk) rfl (fr.h _ (by decide +kernel)) (by decide +kernel) (pa_cons (pe_callB (cr_srt hr) rfl (fr.h _ (by decide +kernel)) (by decide +kernel) (pa_cons
      (pe_lock (pe_lc (own := [("name", 1)]) (g := gName 1) (tt := tYes) rfl nd (pi_keys (pv 0)) (blkOk_by (N := ["names", "name"]) (sc := defScope (top 24)) (by decide +kernel)) (fun _ _ _ _ _ => pg_name (i := 1) nd rfl (Or.inl rfl)) (fun _ _ _ _ _ => pts_nil)
        (fun _ _ _ _ _ => pe_callTy SkE.call_str_str rfl (fr.h _ (by decide +kernel)) (by decide +kernel) (pa_cons (pv 1) pa_nil)))) pa_nil)) pa_nil))), ?_⟩
    have lk : kvs.length = xs.length := by
      have := congrArg List.length hk
      simpa using this
    refine ⟨a, _, hx, trivial, fun od => ?_⟩
    have ha : upd H a (.frz od (.dK kvs)) a = some (.frz od (.dK kvs)) := upd_same
    refine ⟨_, rfl, a, od, rfl, .inl ⟨kvs, ha, fun D hD => ?_⟩⟩
    have hDa : D ≠ a := fun q => by rw [q, upd_same] at hD; cases hD
    have hD' : H D = none := by rw [upd_ne hDa] at hD; exact hD
    have eu : ∀ {H' : Hp}, Am.Ext (upd H a (.frz od (.dK kvs))) H' → Am.Ext H (upd H' a (.dK kvs)) := fun {H'} e b o hb => by
      by_cases q : b = a
      · rw [q, upd_same]
        rw [q, hx] at hb
        exact hb
      · rw [upd_ne q]
        exact e b o (by rw [upd_ne q]; exact hb)
    refine lc_it walk_keys (fun i H' => Am.Ext (upd H a (.frz od (.dK kvs))) H' ∧ H' D = some (.lst ((xs.take i).map V.str))) ⟨Am.Ext.new hD, by rw [upd_same]; rfl⟩ (fun i H' _ h => h.1 _ _ ha) ?_ ?_
    · rintro i y H' H2 hi ⟨e, d⟩ ⟨rfl, k, v, hk', rfl⟩
      have hxi : (kvs.map (·.1))[i]? = some k := by rw [List.getElem?_map, hk']; rfl
      rw [hk, List.getElem?_map] at hxi
      obtain ⟨x, hx', rfl⟩ := Option.map_eq_some_iff.mp hxi
      refine ⟨rfl, _, rfl, x, rfl, _, d, ?_, ext_off e hD, ?_⟩
      · rw [List.length_map, List.length_take]
        omega
      · rw [upd_same, take_suc hx', List.map_append]
        rfl
    · rintro H' ⟨e, d⟩
      rw [lk, List.take_length] at d
      have d2 : upd H' a (.dK kvs) D = some (.lst (xs.map V.str)) := by rw [upd_ne hDa]; exact d
      refine ⟨e _ _ ha, D, xs, rfl, SqL.of d2, by omega, fun p hp => ?_⟩
      have e2 := (eu e).then (o := .lst ((srt xs).map V.str)) hp
      refine ⟨p, (srt xs).map V.str, rfl, .inl ⟨SqL.of upd_same, fun T hT => ?_⟩⟩
      exact z T _ (e2.then hT) (e2.gone hT) upd_same
end
end KD

set_option Elab.async false
set_option linter.all false
set_option maxRecDepth 100000
set_option maxHeartbeats 1000000
/-! wrong_choice_at of choices that are right. -/
namespace KD
open PySem PySem.Spec PyProof.Rows L2 Oo Gd Am KA SqX
theorem flat_s (xs : List Str) : (xs.map V.str).all flatV = true := by
  rw [List.all_map]
  exact List.all_eq_true.mpr fun x _ => rfl
theorem inV_s (y : Str) (xs : List Str) : inV (.str y) (xs.map V.str) = decide (y ∈ xs) := by
  unfold inV
  rw [List.any_map]
  by_cases h : y ∈ xs
  · rw [decide_eq_true h]
    exact List.any_eq_true.mpr ⟨y, h, beq_self_eq_true y⟩
  · rw [decide_eq_false h]
    refine List.any_eq_false.mpr fun z hz q => h ?_
    have : (z == y) = true := q
    rw [beq_iff_eq] at this
    rw [← this]
    exact hz
theorem cut_to (xs : List V) (i : Nat) (h : i ≤ xs.length) : cutV xs none (some (i : Int)) = xs.take i := by
  unfold cutV
  rw [HT.sIx_none, HT.sIx_nat, Nat.min_eq_left h]
  rfl
section
variable {P : Program} {w : World} {K : W.Frag} {mg : Str → Option Value} {base : Heap} {f C : Addr} {fd : FuncData} {t t2 t3 : Tok}
theorem in_A {H : Hp} {a : Addr} {y : Str} {xs : List Str} {Q : VK} {neg : Bool} (h : SqA K H a (xs.map V.str)) (q : Q (.bl (if neg then !decide (y ∈ xs) else decide (y ∈ xs))) H) : rIn K neg (.str y) (.ref a) H Q :=
  ⟨a, _, rfl, h, rfl, flat_s xs, by rw [inV_s]; exact q⟩
/-- xs[:i] of a list or a tuple -/
theorem cut_A {H : Hp} {a : Addr} {xs : List V} {i : Nat} {Q : VK} (h : SqA K H a xs) (hi : i < xs.length) (q : ∀ (p : Addr) (H' : Hp), Am.Ext H H' → SqA K H' p (xs.take i) → Q (.ref p) H') :
    rSlL K (.ref a) none (some (i : Int)) H Q ∨ rSlA K (.ref a) none (some (i : Int)) H Q := by
  rcases h with h | h
  · refine .inl ⟨a, xs, rfl, h, fun p hp => ?_⟩
    rw [cut_to xs i (by omega)]
    exact q p _ (Am.Ext.new hp) (.inl (SqL.of upd_same))
  · refine .inr ⟨a, xs, rfl, h, fun c => ?_, fun _ p hp => ?_⟩
    · exfalso
      have := c.2
      rw [HT.sIx_nat] at this
      omega
    · rw [cut_to xs i (by omega)]
      exact q p _ (Am.Ext.new hp) (.inr (SqT.of upd_same))
def spWch (K : W.Frag) : Sp := fun vs H Q _ => ∃ (a b : Addr) (xs ys : List Str), vs = [.ref a, .ref b] ∧ SqA K H a (xs.map V.str) ∧ SqA K H b (ys.map V.str) ∧ xs.Nodup ∧ (∀ x ∈ xs, x ∈ ys) ∧ ∀ H', Am.Ext H H' → Q .non H'
abbrev nWch : List Str := ["values", "choices", "at", "value"]
theorem scWch : FnScope nWch ["values", "choices"] (defScope (top 23)) := ⟨rfl, rfl, rfl, by decide +kernel, rfl, by decide +kernel, by decide +kernel⟩
theorem ok_wch (fr : Frees mg) (F : Fun K "wrong_choice_at" "wrong_choice_at" (top 23) f fd) : FnOk P w K mg base CX0 1 f fd ["values", "choices"] (spWch K) := by
  refine F.ok scWch (fun vs H Q E h => ?_) (fun cdv A outer s H vs Q E hr h => ?_)
  · obtain ⟨a, b, xs, ys, rfl, _⟩ := h
    rfl
  · obtain ⟨a, b, xs, ys, rfl, ha, hb, nx, sub, z⟩ := h
    have nd := scWch.nd
    have isk : IsK K := ⟨trivial⟩
    refine ⟨_, pss_cons (ps_for PassesOwn.never rfl (pi_enumA rfl (fr.h _ (by decide +kernel)) (pa_cons (pv 0) pa_nil)) (pg_tup rfl (pgs_cons (pg_name (i := 2) nd rfl (.inl rfl)) (pgs_cons (pg_name (i := 3) nd rfl (.inl rfl)) pgs_nil)))
        (pss_one (ps_if (PW.pt (pw_or (pt_not (pt_val (pe_callB call_isi rfl (fr.h _ (by decide +kernel)) (by decide +kernel) (pa_cons (pv 3) (pa_cons (pe_bltn (v := V.ty "str") rfl (fr.h _ (by decide +kernel)) (by rfl) rfl) pa_nil)))))
          (pw_or (pt_cmpR (niK isk) (pv 3) (pv 1) (by rfl)) (pw_or1 (pt_cmpR (inK isk) (pv 3) (pe_slice (sl_list.or sl_tupA) (pv 0) po_none (po_some (pv 2))) (by rfl)))))) (pss_one (ps_ret (pv 2))) pss_nil)))
      (pss_one (ps_ret pe_non)), ?_⟩
    refine ⟨_, rfl, a, _, H, rfl, ha, Am.Ext.refl H, fun J G wk st => ?_⟩
    rw [List.length_map] at wk
    refine for_it wk (fun i σ H' => Am.Ext H H' ∧ ∃ e2 e3, σ = [some (.ref a), some (.ref b), e2, e3]) ⟨Am.Ext.refl H, none, none, rfl⟩ (fun i σ H' _ h => st H' h.1) ?_ ?_
    · rintro i x σ H' H2 hi ⟨eH, e2, e3, rfl⟩ ⟨T, v1, v2, rfl, hT, rfl, hv1, hx⟩
      cases hv1
      obtain ⟨y, hy, rfl⟩ := map_at hx
      have hm : y ∈ xs := List.mem_of_getElem? hy
      have eT : Am.Ext H (upd H' T (.tup [.int (i : Nat), .str y])) := eH.trans (Am.Ext.new hT)
      have fresh : y ∉ xs.take i := by
        intro q
        obtain ⟨j, hj, e⟩ := List.getElem_of_mem q
        rw [List.length_take] at hj
        rw [List.getElem_take] at e
        have hyi := (List.getElem?_eq_some_iff.mp hy)
        exact List.pairwise_iff_getElem.mp nx j i (by omega) hyi.1 (by omega) (by rw [e, hyi.2])
      refine ⟨T, _, rfl, SqT.of upd_same, rfl, _, _, rfl, _, _, rfl, rfl, ?_⟩
      refine ⟨_, rfl, _, _, _, _, true, rfl, ClsV.ty "str", TyX.base (TyOf.str y), kit_ty (by decide +kernel), _, rfl, iteF ?_⟩
      refine ⟨_, rfl, _, rfl, in_A (SqA.ext eT hb) ⟨_, rfl, ?_⟩⟩
      rw [if_pos rfl, decide_eq_true (sub y hm)]
      refine iteF ⟨_, rfl, _, rfl, _, rfl, _, rfl, cut_A (SqA.ext eT ha) (by rw [List.length_map]; exact hi) fun p H3 e3' hp => ?_⟩
      rw [← List.map_take] at hp
      refine in_A hp ⟨_, rfl, ?_⟩
      rw [if_neg Bool.false_ne_true, decide_eq_false fresh]
      exact iteF ⟨eT.trans e3', _, _, rfl⟩
    · rintro σ H' ⟨eH, e2, e3, rfl⟩
      exact z H' eH
end
end KD

set_option Elab.async false
set_option linter.all false
set_option maxRecDepth 100000
set_option maxHeartbeats 1000000
/-! _check_weights, _check_side, _checked_ways: of what is right. -/
namespace KD
open PySem PySem.Spec PyProof.Rows L2 Oo Gd Am KA SqX
/-- names and their numbers as a dict's pairs -/
def wts (ls : List (Str × Int)) : List (Key × V) := ls.map fun p => (Sum.inr p.1, V.int p.2)
def wt (ls : List (Str × Int)) (x : Str) : Option Int := (ls.find? fun p => decide (p.1 = x)).map (·.2)
theorem valV_w (x : Str) : ∀ ls : List (Str × Int), valV (wts ls) (Sum.inr x : Key) = (wt ls x).map V.int
  | [] => rfl
  | p :: r => by
    by_cases e : p.1 = x
    · rw [show wts (p :: r) = ((Sum.inr p.1 : Key), V.int p.2) :: wts r from rfl, valV_pos (by rw [e])]
      unfold wt
      rw [List.find?_cons_of_pos (by simpa using e)]
      rfl
    · rw [show wts (p :: r) = ((Sum.inr p.1 : Key), V.int p.2) :: wts r from rfl, valV_neg (fun q => e (by injection q)), valV_w x r]
      unfold wt
      rw [List.find?_cons_of_neg (by simpa using e)]
theorem wt_some {ls : List (Str × Int)} {x : Str} (h : x ∈ ls.map (·.1)) : ∃ n, wt ls x = some n ∧ (x, n) ∈ ls := by
  obtain ⟨p, hp, rfl⟩ := List.mem_map.mp h
  unfold wt
  cases e : ls.find? fun q => decide (q.1 = p.1) with
  | none =>
    have := List.find?_eq_none.mp e p hp
    simp at this
  | some q =>
    have h1 := List.find?_some e
    have h2 := List.mem_of_find?_eq_some e
    simp only [decide_eq_true_eq] at h1
    exact ⟨q.2, rfl, by rw [← h1]; exact h2⟩
theorem keys_w (ls : List (Str × Int)) : (wts ls).map (·.1) = (ls.map (·.1)).map (Sum.inr : Str → Key) := by
  unfold wts
  rw [List.map_map, List.map_map]
  rfl
theorem len_w (ls : List (Str × Int)) : (wts ls).length = ls.length := List.length_map ..
section
variable {P : Program} {w : World} {K : W.Frag} {mg : Str → Option Value} {base : Heap} {f C : Addr} {fd : FuncData} {t t2 t3 : Tok}
def spChkW : Sp := fun vs H Q _ => ∃ (a : Addr) (ls : List (Str × Int)), vs = [.ref a] ∧ H a = some (.dK (wts ls)) ∧ Nms (ls.map (·.1)) ∧ ls ≠ [] ∧ (∀ p ∈ ls, p.2 ≠ 0) ∧ ∀ H', Am.Ext H H' → Q .non H'
abbrev nChkW : List Str := ["weights", "key"]
theorem scChkW : FnScope nChkW ["weights"] (defScope (top 37)) := ⟨rfl, rfl, rfl, by decide +kernel, rfl, by decide +kernel, by decide +kernel⟩
theorem ok_chkW (fr : Frees mg) (DN : Dn P w K mg base CX0 1 "is_name" ["value"] spName) (DW : Dn P w K mg base CX0 1 "is_whole" ["value"] spWhole) (DS : Dn P w K mg base CX0 1 "sorted_names" ["names"] spSnD)
    (F : Fun K "_check_weights" "_check_weights" (top 37) f fd) : FnOk P w K mg base CX0 2 f fd ["weights"] spChkW := by
  refine F.ok scChkW (fun vs H Q E h => ?_) (fun cdv A outer s H vs Q E hr h => ?_)
  · obtain ⟨a, ls, rfl, _⟩ := h
    rfl
  · obtain ⟨a, ls, rfl, ha, nm, ne, n0, z⟩ := h
    have nd := scChkW.nd
    have isk : IsK K := ⟨trivial⟩
    have hu := hu_of hr
    have big : (1000 : Nat) < sizeLine := by decide
    have few : ls.length < 64 := by have := nm.few; rwa [List.length_map] at this
    refine ⟨_, PSs.nox (pss_cons (ps_if (PW.pt (pw_or (pt_not (pt_val (pe_callB call_isi rfl (fr.h _ (by decide +kernel)) (by decide +kernel) (pa_cons (pv 0) (pa_cons (pe_bltn (v := V.ty "dict") rfl (fr.h _ (by decide +kernel)) (by rfl) rfl) pa_nil)))))
          (pw_or (pt_cmpR op_eq (pe_callB call_lenD rfl (fr.h _ (by decide +kernel)) (by decide +kernel) (pa_cons (pv 0) pa_nil)) pe_int (nomark _))
          (pw_or1 (pt_not (pt_val (pe_callB (allK isk rfl) rfl (fr.h _ (by decide +kernel)) (by decide +kernel) (pa_cons
            (pe_lock (pe_lc (own := [("key", 1)]) (g := gName 1) (tt := tYes) rfl nd (pi_keys (pv 0)) (blkOk_by (N := nChkW) (sc := defScope (top 37)) (by decide +kernel)) (fun _ _ _ _ _ => pg_name (i := 1) nd rfl (Or.inl rfl)) (fun _ _ _ _ _ => pts_nil)
              (fun _ _ _ _ _ => pe_dn DN hr (by rfl) (by decide) (pa_cons (pv 1) pa_nil)))) pa_nil)))))))) (pss_one ps_never) pss_nil)
      (pss_one (ps_for PassesOwn.never rfl (pi_seq (pe_dn DS hr (by rfl) (by decide) (pa_cons (pv 0) pa_nil))) (pg_name (i := 1) nd rfl (.inl rfl))
        (pss_one (ps_if (PW.pt (pw_or (pt_not (pt_val (pe_dn DW hr (by rfl) (by decide) (pa_cons (pe_dget hu (pv 0) (pv 1) (fun _ _ => rfl)) pa_nil)))) (pw_or1 (pt_cmpR op_eq (pe_dget hu (pv 0) (pv 1) (fun _ _ => rfl)) pe_int (nomark _))))) (pss_one ps_never) pss_nil))))), ?_⟩
    refine ⟨_, rfl, _, _, _, _, true, rfl, ClsV.ty "dict", TyX.base (TyOf.dK ha), kit_ty (by decide +kernel), _, rfl, iteF ?_⟩
    refine ⟨_, rfl, a, _, rfl, ha, rfl, _, rfl, ite2 (fun q => ?_) (fun _ => ?_)⟩
    · exfalso
      have : (wts ls).length = 0 := by simpa using q
      rw [len_w] at this
      exact ne (List.length_eq_zero_iff.mp this)
    have ha' : ∀ od, upd H a (.frz od (.dK (wts ls))) a = some (.frz od (.dK (wts ls))) := fun od => upd_same
    refine ⟨a, _, ha, trivial, fun od => ⟨_, rfl, a, od, rfl, .inl ⟨_, ha' od, fun D hD => ?_⟩⟩⟩
    have hDa : D ≠ a := fun q => by rw [q, upd_same] at hD; cases hD
    have eu : ∀ {H' : Hp}, Am.Ext (upd H a (.frz od (.dK (wts ls)))) H' → Am.Ext H (upd H' a (.dK (wts ls))) := fun {H'} e b o hb => by
      by_cases q : b = a
      · rw [q, upd_same]
        rw [q, ha] at hb
        exact hb
      · rw [upd_ne q]
        exact e b o (by rw [upd_ne q]; exact hb)
    refine lc_it walk_keys (fun i H' => Am.Ext (upd H a (.frz od (.dK (wts ls)))) H' ∧ ∃ bs : List Bool, H' D = some (.lst (bs.map V.bl)) ∧ bs.length = i ∧ bs.all id = true) ⟨Am.Ext.new hD, [], by rw [upd_same]; rfl, rfl, rfl⟩ (fun i H' _ h => h.1 _ _ (ha' od)) ?_ ?_
    · rintro i y H' H2 hi ⟨e, bs, d, bl, ba⟩ ⟨rfl, k, v, hk', rfl⟩
      have hxi : ((wts ls).map (·.1))[i]? = some k := by rw [List.getElem?_map, hk']; rfl
      rw [keys_w, List.getElem?_map] at hxi
      obtain ⟨x, hx', rfl⟩ := Option.map_eq_some_iff.mp hxi
      have nx := nm.ok x (List.mem_of_getElem? hx')
      have l8 := name_len nx
      rw [len_w] at hi
      refine ⟨rfl, _, rfl, x, rfl, by omega, fun H3 e3 => ?_⟩
      rw [nx]
      refine ⟨_, e3 _ _ d, ?_, ext_off (e.trans e3) hD, bs ++ [true], ?_, ?_, ?_⟩
      · rw [List.length_map]
        omega
      · rw [upd_same, List.map_append]
        rfl
      · rw [List.length_append, bl]
        rfl
      · rw [List.all_append, ba]
        rfl
    · rintro H' ⟨e, bs, d, bl, ba⟩
      have d2 : upd H' a (.dK (wts ls)) D = some (.lst (bs.map V.bl)) := by rw [upd_ne hDa]; exact d
      refine ⟨e _ _ (ha' od), D, bs, rfl, SqL.of d2, _, rfl, ?_⟩
      rw [ba]
      refine iteF ?_
      have e1 := eu e
      refine ⟨_, rfl, a, _, _, rfl, e1 _ _ ha, keys_w ls, by rw [List.length_map]; omega, fun T H3 e3 hT hT3 => ?_⟩
      have e13 := e1.trans e3
      refine ⟨T, _, H3, rfl, .inr (SqT.of hT3), Am.Ext.refl H3, fun J G wk st => ?_⟩
      rw [List.length_map, srt_len, List.length_map] at wk
      refine for_it wk (fun i σ H' => Am.Ext H3 H' ∧ ∃ e1, σ = [some (.ref a), e1]) ⟨Am.Ext.refl H3, none, rfl⟩ (fun i σ H' _ h => st H' h.1) ?_ ?_
      · rintro i x σ H' H2 hi ⟨eH, e1, rfl⟩ ⟨rfl, hx⟩
        obtain ⟨y, hy, rfl⟩ := map_at hx
        have hm : y ∈ ls.map (·.1) := (srt_mem _ _).mp (List.mem_of_getElem? hy)
        obtain ⟨n, hn, hmem⟩ := wt_some hm
        have g : DGet H2 a (.str y) (some (.int n)) := by
          have := DGet.k (k := (Sum.inr y : Key)) (eH _ _ (e13 _ _ ha))
          rw [valV_w, hn] at this
          exact this
        refine ⟨_, rfl, _, rfl, a, _, rfl, g, n, rfl, _, rfl, iteF ⟨_, rfl, _, rfl, a, _, rfl, g, rfl, _, rfl, ite2 (fun q => ?_) (fun _ => ⟨eH, _, rfl⟩)⟩⟩
        exfalso
        exact n0 _ hmem (by simpa using q)
      · rintro σ H' ⟨eH, e1, rfl⟩
        exact z H' (e13.trans eH)
end
end KD

set_option Elab.async false
set_option linter.all false
set_option maxRecDepth 100000
set_option maxHeartbeats 1000000
/-! _check_side, _checked_ways: of what is right. -/
namespace KD
open PySem PySem.Spec PyProof.Rows L2 Oo Gd Am KA SqX
section
variable {P : Program} {w : World} {K : W.Frag} {mg : Str → Option Value} {base : Heap} {f C : Addr} {fd : FuncData} {t t2 t3 : Tok}
def spChkS (K : W.Frag) : Sp := fun vs H Q _ => ∃ (v : V) (a b : Addr) (xs ys : List Str), vs = [v, .ref a, .ref b] ∧ SeqH K H a (xs.map V.str) ∧ SqA K H b (ys.map V.str) ∧ Nms xs ∧ ys.length < 64 ∧ (∀ x ∈ xs, x ∉ ys) ∧ ∀ H', Am.Ext H H' → Q .non H'
abbrev nChkS : List Str := ["side", "names", "earlier", "position"]
theorem scChkS : FnScope nChkS ["side", "names", "earlier"] (defScope (top 38)) := ⟨rfl, rfl, rfl, by decide +kernel, rfl, by decide +kernel, by decide +kernel⟩
theorem ok_chkS (DL : Dn P w K mg base CX0 1 "is_list" ["value"] (spList K)) (DW : Dn P w K mg base CX0 2 "wrong_name_at" ["values", "earlier"] (spWna K))
    (F : Fun K "_check_side" "_check_side" (top 38) f fd) : FnOk P w K mg base CX0 3 f fd ["side", "names", "earlier"] (spChkS K) := by
  refine F.ok scChkS (fun vs H Q E h => ?_) (fun cdv A outer s H vs Q E hr h => ?_)
  · obtain ⟨v, a, b, xs, ys, rfl, _⟩ := h
    rfl
  · obtain ⟨v, a, b, xs, ys, rfl, ha, hb, nx, ly, off, z⟩ := h
    have nd := scChkS.nd
    refine ⟨_, PSs.nox (pss_cons (ps_if (pt_not (pt_val (pe_dn DL hr (by rfl) (by decide) (pa_cons (pv 1) pa_nil)))) (pss_one ps_never) pss_nil)
      (pss_cons (ps_set (i := 3) nd rfl (.inl rfl) (pe_dn DW hr (by rfl) (by decide) (pa_cons (pv 1) (pa_cons (pv 2) pa_nil))))
      (pss_one (ps_if (pt_cmpR op_notN (pv 3) pe_non (nomark _)) (pss_one ps_never) pss_nil)))), ?_⟩
    refine ⟨_, rfl, a, _, rfl, ha, fun H1 e1 => ⟨_, rfl, iteF ?_⟩⟩
    refine ⟨_, rfl, _, rfl, a, b, xs, ys, rfl, SqA.ext e1 ha.sq, SqA.ext e1 hb, nx, ly, off, fun H2 e2 => ?_⟩
    exact ⟨_, rfl, rfl, _, rfl, iteF (z H2 (e1.trans e2))⟩
def spWays (K : W.Frag) : Sp := fun vs H Q _ => ∃ (a : Addr) (v : V) (fs : List Str), vs = [.ref a, v] ∧ H a = some (.tup (fs.map V.str)) ∧
  ((v = .non ∧ Q (.ref a) H) ∨ ∃ (b : Addr) (ws : List Str), v = .ref b ∧ SeqH K H b (ws.map V.str) ∧ ws ≠ [] ∧ ws.length ≤ 100 ∧ ws.Nodup ∧ (∀ x ∈ ws, x ∈ fs) ∧ NewT H Q (srt ws))
abbrev nWays : List Str := ["fields", "ways", "position"]
theorem scWays : FnScope nWays ["fields", "ways"] (defScope (top 39)) := ⟨rfl, rfl, rfl, by decide +kernel, rfl, by decide +kernel, by decide +kernel⟩
theorem ok_ways (fr : Frees mg) (DL : Dn P w K mg base CX0 1 "is_list" ["value"] (spList K)) (DW : Dn P w K mg base CX0 1 "wrong_choice_at" ["values", "choices"] (spWch K)) (DS : Dn P w K mg base CX0 1 "sorted_names" ["names"] (spSn K))
    (F : Fun K "_checked_ways" "_checked_ways" (top 39) f fd) : FnOk P w K mg base CX0 2 f fd ["fields", "ways"] (spWays K) := by
  refine F.ok scWays (fun vs H Q E h => ?_) (fun cdv A outer s H vs Q E hr h => ?_)
  · obtain ⟨a, v, fs, rfl, _⟩ := h
    rfl
  · obtain ⟨a, v, fs, rfl, ha, hv⟩ := h
    have nd := scWays.nd
    have isk : IsK K := ⟨trivial⟩
    refine ⟨_, PSs.nox (pss_cons (ps_if (pt_cmpR op_isN (pv 1) pe_non (nomark _)) (pss_one (ps_ret (pv 0))) pss_nil)
      (pss_cons (ps_if (PW.pt (pw_or (pt_not (pt_val (pe_dn DL hr (by rfl) (by decide) (pa_cons (pv 1) pa_nil)))) (pw_or1 (pt_cmpR op_eq (pe_callB (lenK isk) rfl (fr.h _ (by decide +kernel)) (by decide +kernel) (pa_cons (pv 1) pa_nil)) pe_int (nomark _))))) (pss_one ps_never) pss_nil)
      (pss_cons (ps_set (i := 2) nd rfl (.inl rfl) (pe_dn DW hr (by rfl) (by decide) (pa_cons (pv 1) (pa_cons (pv 0) pa_nil))))
      (pss_cons (ps_if (pt_cmpR op_notN (pv 2) pe_non (nomark _)) (pss_one ps_never) pss_nil)
      (pss_one (ps_ret (pe_dn DS hr (by rfl) (by decide) (pa_cons (pv 1) pa_nil)))))))), ?_⟩
    rcases hv with ⟨rfl, z⟩ | ⟨b, ws, rfl, hb, ne, few, nx, sub, z⟩
    · exact ⟨_, rfl, rfl, _, rfl, iteT ⟨_, rfl, z⟩⟩
    · refine ⟨_, rfl, rfl, _, rfl, iteF ?_⟩
      refine ⟨_, rfl, b, _, rfl, hb, fun H1 e1 => ⟨_, rfl, iteF ?_⟩⟩
      refine ⟨_, rfl, .inl ⟨b, ws.map V.str, rfl, SqA.ext e1 hb.sq, rfl, _, rfl, ite2 (fun q => ?_) (fun _ => ?_)⟩⟩
      · exfalso
        have : (ws.map V.str).length = 0 := by simpa using q
        rw [List.length_map] at this
        exact ne (List.length_eq_zero_iff.mp this)
      · refine ⟨_, rfl, _, rfl, b, a, ws, fs, rfl, SqA.ext e1 hb.sq, .inr (SqT.of (e1 _ _ ha)), nx, sub, fun H2 e2 => ?_⟩
        refine ⟨_, rfl, rfl, _, rfl, iteF ?_⟩
        exact ⟨_, rfl, b, ws, rfl, SqA.ext (e1.trans e2) hb.sq, few, fun T H' e n t => z T H' ((e1.trans e2).trans e) (Am.Ext.gone (e1.trans e2) n) t⟩
end
end KD

set_option Elab.async false
set_option linter.all false
set_option maxRecDepth 100000
set_option maxHeartbeats 1000000
/-! Loose: made. -/
namespace KD
open PySem PySem.Spec PyProof.Rows L2 Oo Gd Am KA SqX
/-- what the text says of a class of rules -/
structure ClR (K : W.Frag) (C : Addr) : Prop where
  cl : Cls K C
  no : ∀ x ∈ ([("_fields" : Str), "_ways", "_weights", "_total", "_factor", "_left", "_right"] : List Str), NoAttr K C x
abbrev Tp (H : Hp) (a : Addr) (xs : List Str) : Prop := H a = some (.tup (xs.map V.str))
/-- the ways that a rule over fs is given by v -/
def WaysV (K : W.Frag) (H : Hp) (v : V) (fs ws : List Str) : Prop := (v = .non ∧ ws = fs) ∨ ∃ (b : Addr) (us : List Str), v = .ref b ∧ SeqH K H b (us.map V.str) ∧ us ≠ [] ∧ us.length ≤ 100 ∧ us.Nodup ∧ (∀ x ∈ us, x ∈ fs) ∧ ws = srt us
theorem WaysV.ext {K : W.Frag} {H H' : Hp} {v : V} {fs ws : List Str} (e : Am.Ext H H') (h : WaysV K H v fs ws) : WaysV K H' v fs ws := by
  rcases h with h | ⟨b, us, h1, h2, h3⟩
  · exact .inl h
  · exact .inr ⟨b, us, h1, h2.ext e, h3⟩
theorem WaysV.call {K : W.Frag} {H : Hp} {Q : VK} {a : Addr} {v : V} {fs ws : List Str} {E : XK} (ha : Tp H a fs) (h : WaysV K H v fs ws) (z : ∀ p H', Am.Ext H H' → Tp H' p ws → Q (.ref p) H') : spWays K [.ref a, v] H Q E := by
  refine ⟨a, v, fs, rfl, ha, ?_⟩
  rcases h with ⟨rfl, rfl⟩ | ⟨b, us, rfl, h2, h3, h4, h5, h6, rfl⟩
  · exact .inl ⟨rfl, z a H (Am.Ext.refl H) ha⟩
  · exact .inr ⟨b, us, rfl, h2, h3, h4, h5, h6, fun T H' e _ t => z T H' e t⟩
def fldL (pf pw : Addr) : List (Str × V) := [("_fields", .ref pf), ("_ways", .ref pw)]
/-- an instance's own fields are set: behind it all else stands on -/
theorem ext_set {H H' : Hp} {x C dx : Addr} {fs gs : List (Str × V)} (hx : H x = some (.ins C dx fs)) (e : Am.Ext (upd H x (.ins C dx gs)) H') : Am.Ext H (upd H' x (.ins C dx fs)) := fun b o hb => by
  by_cases q : b = x
  · rw [q, upd_same]
    rw [q, hx] at hb
    exact hb
  · rw [upd_ne q]
    exact e b o (by rw [upd_ne q]; exact hb)
theorem tp_ne {H : Hp} {a x C dx : Addr} {fs : List (Str × V)} {xs : List V} (hx : H x = some (.ins C dx fs)) (ha : H a = some (.tup xs)) : a ≠ x := ne_of ha hx (fun q => nomatch q)
theorem SeqH.set {K : W.Frag} {H : Hp} {a x C dx : Addr} {fs gs : List (Str × V)} {xs : List V} (hx : H x = some (.ins C dx fs)) (ha : SeqH K H a xs) : SeqH K (upd H x (.ins C dx gs)) a xs := by
  rcases ha with h | h | h
  · exact .inl (by rw [upd_ne (ne_of h hx (fun q => nomatch q))]; exact h)
  · exact .inr (.inl (by rw [upd_ne (ne_of h hx (fun q => nomatch q))]; exact h))
  · exact .inr (.inr h)
theorem WaysV.set {K : W.Frag} {H : Hp} {v : V} {x C dx : Addr} {gs hs : List (Str × V)} {fs ws : List Str} (hx : H x = some (.ins C dx gs)) (h : WaysV K H v fs ws) : WaysV K (upd H x (.ins C dx hs)) v fs ws := by
  rcases h with h | ⟨b, us, h1, h2, h3⟩
  · exact .inl h
  · exact .inr ⟨b, us, h1, h2.set hx, h3⟩
section
variable {P : Program} {w : World} {K : W.Frag} {mg : Str → Option Value} {base : Heap} {f C : Addr} {fd : FuncData} {t t2 t3 : Tok}
def spInL (K : W.Frag) (C : Addr) : Sp := fun vs H Q _ => ∃ (x dx a : Addr) (v : V) (xs ws : List Str), vs = [.ref x, .ref a, v] ∧ H x = some (.ins C dx []) ∧ SeqH K H a (xs.map V.str) ∧ Nms xs ∧ xs ≠ [] ∧ WaysV K H v (srt xs) ws ∧
  ∀ (H' : Hp) (pf pw : Addr), Am.Ext H H' → Tp H' pf (srt xs) → Tp H' pw ws → Q .non (upd H' x (.ins C dx (fldL pf pw)))
theorem scInL : FnScope ["self", "fields", "ways"] ["self", "fields", "ways"] (defScope (lo 0)) := ⟨rfl, rfl, rfl, by decide +kernel, rfl, by decide +kernel, by decide +kernel⟩
abbrev FunIL (K : W.Frag) (f : Addr) (fd : FuncData) : Prop := FunD K "__init__" "Loose.__init__" (defArgs (lo 0)) (defBody (lo 0)) (defScope (lo 0)) [] [("ways", .non)] f fd
theorem ok_inL (fr : Frees mg) (T : ClR K C) (DC : Dn P w K mg base CX0 3 "_check_side" ["side", "names", "earlier"] (spChkS K)) (DS : Dn P w K mg base CX0 1 "sorted_names" ["names"] (spSn K)) (DY : Dn P w K mg base CX0 2 "_checked_ways" ["fields", "ways"] (spWays K))
    (F : FunIL K f fd) : FnOk P w K mg base CX0 4 f fd ["self", "fields", "ways"] (spInL K C) := by
  refine F.ok scInL (fun vs H Q E h => ?_) (fun cdv A outer s H vs Q E hr h => ?_)
  · obtain ⟨x, dx, a, v, xs, ws, rfl, _⟩ := h
    rfl
  · obtain ⟨x, dx, a, v, xs, ws, rfl, hx, ha, nx, ne, hv, z⟩ := h
    have nd := scInL.nd
    have isk : IsK K := ⟨trivial⟩
    refine ⟨_, PSs.nox (pss_cons (ps_expr (pe_dn DC hr (by rfl) (by decide) (pa_cons pe_str (pa_cons (pv 1) (pa_cons (pe_lst pa_nil) pa_nil)))))
      (pss_cons (ps_if (pt_cmpR op_eq (pe_callB (lenK isk) rfl (fr.h _ (by decide +kernel)) (by decide +kernel) (pa_cons (pv 1) pa_nil)) pe_int (nomark _)) (pss_one ps_never) pss_nil)
      (pss_cons (ps_fld (pv 0) (pe_dn DS hr (by rfl) (by decide) (pa_cons (pv 1) pa_nil)) rfl)
      (pss_one (ps_fld (pv 0) (pe_dn DY hr (by rfl) (by decide) (pa_cons (pe_fld (pv 0) rfl) (pa_cons (pv 2) pa_nil))) rfl))))), ?_⟩
    refine ⟨_, rfl, (by show 0 ≤ sizeLine; decide), fun L hL => ?_⟩
    have e1 : Am.Ext H (upd H L (.lst [])) := Am.Ext.new hL
    refine ⟨_, a, L, xs, [], rfl, ha.ext e1, .inl (SqL.of upd_same), nx, by decide, (fun _ _ q => nomatch q), fun H2 e2 => ?_⟩
    have e12 := e1.trans e2
    refine ⟨_, rfl, .inl ⟨a, _, rfl, SqA.ext e12 ha.sq, rfl, _, rfl, ite2 (fun q => ?_) (fun _ => ?_)⟩⟩
    · exfalso
      have : (xs.map V.str).length = 0 := by simpa using q
      rw [List.length_map] at this
      exact ne (List.length_eq_zero_iff.mp this)
    refine ⟨_, rfl, a, xs, rfl, SqA.ext e12 ha.sq, by have := nx.few; omega, fun pf H3 e3 n3 t3 => ?_⟩
    have e13 := e12.trans e3
    have hx3 := e13 _ _ hx
    refine ⟨_, rfl, x, C, dx, [], rfl, hx3, T.cl, T.no _ (by simp), (by decide), ?_⟩
    have t4 : Tp (upd H3 x (.ins C dx (putF "_fields" (.ref pf) []))) pf (srt xs) := by
      show upd _ _ _ _ = _
      rw [upd_ne (tp_ne hx3 t3)]
      exact t3
    refine ⟨_, rfl, x, C, dx, _, _, rfl, upd_same, T.cl, T.no _ (by simp), rfl, _, rfl, ?_⟩
    dsimp only [L2.tNil]
    refine WaysV.call t4 ((hv.ext e13).set hx3) fun pw H4 e4 tw => ?_
    refine ⟨_, rfl, x, C, dx, _, rfl, e4 _ _ upd_same, T.cl, T.no _ (by simp), (by show 1 < 1000; decide), ?_⟩
    have := z (upd H4 x (.ins C dx [])) pf pw (e13.trans (ext_set hx3 e4)) (by show upd _ _ _ _ = _; rw [upd_ne (tp_ne (e4 _ _ upd_same) (e4 _ _ t4))]; exact e4 _ _ t4) (by show upd _ _ _ _ = _; rw [upd_ne (tp_ne (e4 _ _ upd_same) tw)]; exact tw)
    rw [upd_upd] at this
    exact this
end
end KD

set_option Elab.async false
set_option linter.all false
set_option maxRecDepth 100000
set_option maxHeartbeats 1000000
/-! Total: made. -/
namespace KD
open PySem PySem.Spec PyProof.Rows L2 Oo Gd Am KA SqX
section
variable {J : It} {n : Nat} {G : Hp → Prop} {Y : Nat → Hp → V → Hp → Prop}
/-- a dict's comprehension over a walk -/
theorem dc_it (w : Walk J n G Y) {g : TG} {tt : TT} {tk tv : TE} {vs : List Nat} {σ : L2.St} {H1 : Hp} {D : Addr} {Qd : Hp → Prop} (Pv : Nat → Hp → Prop) (h0 : Pv 0 (upd H1 D (.dK []))) (hG : ∀ i H, i ≤ n → Pv i H → G H)
    (hs : ∀ i x H H', i < n → Pv i H → Y i H x H' → g x (wipe σ vs) H' fun σ2 H2 => wipe σ2 vs = wipe σ vs ∧ tt σ2 H2 fun b H3 =>
      if b = true then tk σ2 H3 fun y H4 => tv σ2 H4 fun z H5 => ∃ kvs k, y = kV k ∧ H5 D = some (.dK kvs) ∧ kvs.length < sizeLine ∧ Pv (i + 1) (upd H5 D (.dK (putK kvs k z))) else Pv (i + 1) H3) (hd : ∀ H, Pv n H → Qd H) :
    ∃ W : Nat → Nat → Hp → Prop, (∃ m, W 0 m (upd H1 D (.dK []))) ∧ ∀ i m H, W i m H →
      (J.stop i H ∧ Qd H) ∨ (J.go i H ∧ ∃ Nx : Hp → Prop, (∀ H', Nx H' → ∃ m', m' < m ∧ W (i + 1) m' H') ∧ ∀ x H', J.yld i H x H' → g x (wipe σ vs) H' fun σ2 H2 => wipe σ2 vs = wipe σ vs ∧ tt σ2 H2 fun b H3 =>
        if b = true then tk σ2 H3 fun y H4 => tv σ2 H4 fun z H5 => ∃ kvs k, y = kV k ∧ H5 D = some (.dK kvs) ∧ kvs.length < sizeLine ∧ Nx (upd H5 D (.dK (putK kvs k z))) else Nx H3) := by
  refine ⟨fun i m H => m = n - i ∧ i ≤ n ∧ Pv i H, ⟨n, by simp, Nat.zero_le _, h0⟩, ?_⟩
  rintro i m H ⟨rfl, hi, p⟩
  have q := hG i H hi p
  by_cases hlt : i < n
  · refine .inr ⟨w.goes i H hlt q, Pv (i + 1), fun H' p' => ⟨n - (i + 1), by omega, rfl, hlt, p'⟩, fun x H' y => hs i x H H' hlt p (w.yields i H x H' hlt q y)⟩
  · have e : i = n := by omega
    subst e
    exact .inl ⟨w.stops H q, hd H p⟩
end
theorem upd_self {H : Hp} {a : Addr} {o : HO} (h : H a = some o) : upd H a o = H := by
  funext b
  by_cases e : b = a
  · rw [e, upd_same, h]
  · rw [upd_ne e]
/-- an instance under way: what stands behind a step -/
theorem hold {G H2 : Hp} {x C dx : Addr} {gs : List (Str × V)} (hx : G x = some (.ins C dx [])) (e : Am.Ext (upd G x (.ins C dx gs)) H2) : ∃ G', H2 = upd G' x (.ins C dx gs) ∧ Am.Ext G G' ∧ G' x = some (.ins C dx []) :=
  ⟨upd H2 x (.ins C dx []), by rw [upd_upd, upd_self (e _ _ upd_same)], ext_set hx e, upd_same⟩
theorem off_ins {G : Hp} {x C dx a : Addr} {gs : List (Str × V)} {o : HO} (h : upd G x (.ins C dx gs) a = some o) (n : o ≠ .ins C dx gs) : G a = some o := by
  by_cases e : a = x
  · rw [e, upd_same] at h
    exact absurd (Option.some.inj h).symm n
  · rwa [upd_ne e] at h
theorem on_ins {G : Hp} {x C dx a : Addr} {gs : List (Str × V)} {o : HO} (hx : G x = some (.ins C dx [])) (h : G a = some o) (n : o ≠ .ins C dx []) : upd G x (.ins C dx gs) a = some o := by
  by_cases e : a = x
  · rw [e, hx] at h
    exact absurd (Option.some.inj h).symm n
  · rwa [upd_ne e]
theorem wt_none {ls : List (Str × Int)} {x : Str} (h : x ∉ ls.map (·.1)) : wt ls x = none := by
  unfold wt
  rw [List.find?_eq_none.mpr fun p hp q => h (by simp only [decide_eq_true_eq] at q; rw [← q]; exact List.mem_map_of_mem hp)]
  rfl
/-- the numbers by the names in order -/
def ordW (ls : List (Str × Int)) : List (Str × Int) := (srt (ls.map (·.1))).map fun x => (x, (wt ls x).getD 0)
def fldT (pt pf pd pw : Addr) : List (Str × V) := [("_total", .ref pt), ("_fields", .ref pf), ("_weights", .ref pd), ("_ways", .ref pw)]
theorem fst_map {g : Str → Int} (l : List Str) : (l.map fun x => (x, g x)).map (·.1) = l := by
  rw [List.map_map]
  exact List.map_id l
theorem srt_nd {xs : List Str} (h : xs.Nodup) : (srt xs).Nodup := (srt_perm xs).nodup_iff.mpr h
theorem not_taken {xs : List Str} (nd : xs.Nodup) {i : Nat} {y : Str} (hy : xs[i]? = some y) : y ∉ xs.take i := by
  intro q
  obtain ⟨j, hj, e⟩ := List.getElem_of_mem q
  rw [List.length_take] at hj
  rw [List.getElem_take] at e
  have hyi := (List.getElem?_eq_some_iff.mp hy)
  exact List.pairwise_iff_getElem.mp nd j i (by omega) hyi.1 (by omega) (by rw [e, hyi.2])
section
variable {P : Program} {w : World} {K : W.Frag} {mg : Str → Option Value} {base : Heap} {f A C : Addr} {fd : FuncData} {t t2 t3 : Tok}
def spInT (K : W.Frag) (A C : Addr) : Sp := fun vs H Q _ => ∃ (x dx a : Addr) (u v : V) (ls : List (Str × Int)) (q : Rat) (ws : List Str), vs = [.ref x, .ref a, u, v] ∧ H x = some (.ins C dx []) ∧ H a = some (.dK (wts ls)) ∧ Nms (ls.map (·.1)) ∧ ls ≠ [] ∧ (∀ p ∈ ls, p.2 ≠ 0) ∧
  Num A H u q ∧ Sz q ∧ WaysV K H v (srt (ls.map (·.1))) ws ∧
  ∀ (H' : Hp) (pt pf pd pw : Addr), Am.Ext H H' → Is A H' pt q → Tp H' pf (srt (ls.map (·.1))) → H' pd = some (.dK (wts (ordW ls))) → H pd = none → Tp H' pw ws → Q .non (upd H' x (.ins C dx (fldT pt pf pd pw)))
abbrev nInT : List Str := ["self", "weights", "total", "ways", "field"]
theorem scInT : FnScope nInT ["self", "weights", "total", "ways"] (defScope (tot 0)) := ⟨rfl, rfl, rfl, by decide +kernel, rfl, by decide +kernel, by decide +kernel⟩
abbrev FunIT (K : W.Frag) (f : Addr) (fd : FuncData) : Prop := FunD K "__init__" "Total.__init__" (defArgs (tot 0)) (defBody (tot 0)) (defScope (tot 0)) [V.int 0] [("ways", .non)] f fd
theorem ok_inT (fr : Frees mg) (T : ClR K C) (B : Base P w K mg base A) (O : Of P w K mg base A) (DC : Dn P w K mg base CX0 2 "_check_weights" ["weights"] spChkW) (DS : Dn P w K mg base CX0 1 "sorted_names" ["names"] spSnD) (DY : Dn P w K mg base CX0 2 "_checked_ways" ["fields", "ways"] (spWays K))
    (F : FunIT K f fd) : FnOk P w K mg base CX0 5 f fd ["self", "weights", "total", "ways"] (spInT K A C) := by
  refine F.ok scInT (fun vs H Q E h => ?_) (fun cdv A' outer s H vs Q E hr h => ?_)
  · obtain ⟨x, dx, a, u, v, ls, q, ws, rfl, _⟩ := h
    rfl
  · obtain ⟨x, dx, a, u, v, ls, q, ws, rfl, hx, ha, nx, ne, n0, nu, sq, hv, z⟩ := h
    have nd := scInT.nd
    have hu := hu_of hr
    have big : (1000 : Nat) < sizeLine := by decide
    have few : ls.length < 64 := by have := nx.few; rwa [List.length_map] at this
    refine ⟨_, PSs.nox (pss_cons (ps_expr (pe_dn DC hr (by rfl) (by decide) (pa_cons (pv 1) pa_nil)))
      (pss_cons (ps_fld (pv 0) (pe_of O hr (pe_glob (v := V.ref A) rfl B.mgA rfl) (pa_cons (pv 2) pa_nil)) rfl)
      (pss_cons (ps_fld (pv 0) (pe_dn DS hr (by rfl) (by decide) (pa_cons (pv 1) pa_nil)) rfl)
      (pss_cons (ps_fld (pv 0) (pe_dc (own := [("field", 4)]) (g := gName 4) (tt := tYes) rfl nd (pi_seq (pe_fld (pv 0) rfl)) (blkOk_by (N := nInT) (sc := defScope (tot 0)) (by decide +kernel)) (fun _ _ _ _ _ => pg_name (i := 4) nd rfl (Or.inl rfl)) (fun _ _ _ _ _ => pts_nil) (fun _ _ _ _ _ => pv 4) (fun _ _ _ _ _ => pe_dget hu (pv 1) (pv 4) (fun _ _ => rfl))) rfl)
      (pss_one (ps_fld (pv 0) (pe_dn DY hr (by rfl) (by decide) (pa_cons (pe_fld (pv 0) rfl) (pa_cons (pv 3) pa_nil))) rfl)))))), ?_⟩
    have nin : ∀ {kvs : List (Key × V)} {gs : List (Str × V)}, HO.dK kvs ≠ .ins C dx gs := fun q => nomatch q
    have nit : ∀ {ks : List V} {gs : List (Str × V)}, HO.tup ks ≠ .ins C dx gs := fun q => nomatch q
    refine ⟨_, rfl, a, ls, rfl, ha, nx, ne, n0, fun H1 e1 => ?_⟩
    refine ⟨rfl, _, rfl, u, q, rfl, nu.ext e1, sq, fun pt H2 e2 ip => ?_⟩
    have e12 := e1.trans e2
    have hx2 := e12 _ _ hx
    obtain ⟨dq, hp⟩ := ip
    have npx : pt ≠ x := fun q => by
      rw [q, hx2] at hp
      injection Option.some.inj hp with _ _ q3
      cases q3
    refine ⟨_, rfl, x, C, dx, [], rfl, hx2, T.cl, T.no _ (by simp), (by decide), ?_⟩
    refine ⟨_, rfl, a, _, _, rfl, on_ins hx2 (e12 _ _ ha) nin, keys_w ls, by rw [List.length_map]; omega, fun pf H3 e3 n3 t3 => ?_⟩
    obtain ⟨G3, rfl, g3, gx3⟩ := hold hx2 e3
    have t3' : Tp G3 pf _ := off_ins t3 nit
    refine ⟨_, rfl, x, C, dx, _, rfl, upd_same, T.cl, T.no _ (by simp), (by show 1 < 1000; decide), ?_⟩
    rw [upd_upd]
    refine ⟨_, rfl, x, C, dx, _, _, rfl, upd_same, T.cl, T.no _ (by simp), rfl, pf, _, _, rfl, .inr (SqT.of (on_ins gx3 t3' nit)), Am.Ext.refl _, fun J G wk st D hD => ?_⟩
    rw [List.length_map] at wk
    have ndS := srt_nd nx.nd
    have lenS : (srt (ls.map (·.1))).length < 64 := by rw [srt_len]; exact nx.few
    have ha3 : ∀ {gs : List (Str × V)}, upd G3 x (.ins C dx gs) a = some (.dK (wts ls)) := on_ins gx3 (g3 _ _ (e12 _ _ ha)) nin
    refine dc_it wk (fun i H' => Am.Ext (upd G3 x (.ins C dx (putF "_fields" (.ref pf) (putF "_total" (.ref pt) [])))) H' ∧ H' D = some (.dK (wts (((srt (ls.map (·.1))).take i).map fun x => (x, (wt ls x).getD 0))))) ⟨Am.Ext.new hD, by rw [upd_same]; rfl⟩ (fun i H' _ h => st H' h.1) ?_ ?_
    · rintro i y H' H4 hi ⟨e, d⟩ ⟨rfl, hy⟩
      obtain ⟨s1, hs1, rfl⟩ := map_at hy
      have hm : s1 ∈ ls.map (·.1) := (srt_mem _ _).mp (List.mem_of_getElem? hs1)
      obtain ⟨m, hm1, _⟩ := wt_some hm
      have g : DGet H4 a (.str s1) (some (.int m)) := by
        have := DGet.k (k := (Sum.inr s1 : Key)) (e _ _ ha3)
        rw [valV_w, hm1] at this
        exact this
      have out : valV (wts (((srt (ls.map (·.1))).take i).map fun x => (x, (wt ls x).getD 0))) (Sum.inr s1 : Key) = none := by
        rw [valV_w, wt_none]
        · rfl
        · rw [fst_map]
          exact not_taken ndS hs1
      refine ⟨rfl, _, rfl, _, rfl, _, rfl, a, _, rfl, g, _, Sum.inr s1, rfl, d, ?_, ext_off e hD, ?_⟩
      · rw [len_w, List.length_map, List.length_take]
        omega
      · rw [upd_same, putK_new _ out, take_suc hs1, List.map_append]
        unfold wts
        rw [List.map_append]
        have : (wt ls s1).getD 0 = m := by rw [hm1]; rfl
        simp only [List.map_cons, List.map_nil, this]
    · rintro H' ⟨e, d⟩
      rw [List.take_length] at d
      obtain ⟨G4, rfl, g4, gx4⟩ := hold gx3 e
      have d4 : G4 D = some (.dK (wts (ordW ls))) := off_ins d nin
      have t4 := g4 _ _ t3'
      refine ⟨_, rfl, x, C, dx, _, rfl, upd_same, T.cl, T.no _ (by simp), (by show 2 < 1000; decide), ?_⟩
      rw [upd_upd]
      refine ⟨_, rfl, x, C, dx, _, _, rfl, upd_same, T.cl, T.no _ (by simp), rfl, _, rfl, ?_⟩
      dsimp only [L2.tNil]
      have e4 : Am.Ext H G4 := (e12.trans g3).trans g4
      refine WaysV.call (on_ins gx4 t4 nit) ((hv.ext e4).set gx4) fun pw H5 e5 tw => ?_
      obtain ⟨G5, rfl, g5, gx5⟩ := hold gx4 e5
      refine ⟨_, rfl, x, C, dx, _, rfl, upd_same, T.cl, T.no _ (by simp), (by show 3 < 1000; decide), ?_⟩
      rw [upd_upd]
      have Dx : D ≠ x := fun q => by
        rw [q, upd_same] at hD
        cases hD
      have hD0 : H D = none := (e12.trans g3).gone (by rw [upd_ne Dx] at hD; exact hD)
      exact z G5 pt pf D pw (e4.trans g5) ⟨dq, g5 _ _ (g4 _ _ (g3 _ _ hp))⟩ (g5 _ _ t4) (g5 _ _ d4) hD0 (off_ins tw nit)
end
end KD

set_option Elab.async false
set_option linter.all false
set_option maxRecDepth 100000
set_option maxHeartbeats 1000000
/-! Product: made. -/
namespace KD
open PySem PySem.Spec PyProof.Rows L2 Oo Gd Am KA SqX
def fldP (pt pl pr pf pw : Addr) : List (Str × V) := [("_factor", .ref pt), ("_left", .ref pl), ("_right", .ref pr), ("_fields", .ref pf), ("_ways", .ref pw)]
theorem SeqH.on {K : W.Frag} {G : Hp} {x C dx a : Addr} {gs : List (Str × V)} {xs : List V} (hx : G x = some (.ins C dx [])) (h : SeqH K G a xs) : SeqH K (upd G x (.ins C dx gs)) a xs := h.set hx
theorem Nms.left {xs ys : List Str} (h : Nms (xs ++ ys)) : Nms xs := ⟨fun x hx => h.ok x (List.mem_append_left _ hx), (List.nodup_append.mp h.nd).1, by have := h.few; rw [List.length_append] at this; omega⟩
theorem Nms.right {xs ys : List Str} (h : Nms (xs ++ ys)) : Nms ys := ⟨fun x hx => h.ok x (List.mem_append_right _ hx), (List.nodup_append.mp h.nd).2.1, by have := h.few; rw [List.length_append] at this; omega⟩
theorem Nms.off {xs ys : List Str} (h : Nms (xs ++ ys)) : ∀ y ∈ ys, y ∉ xs := fun y hy hx => (List.nodup_append.mp h.nd).2.2 y hx y hy rfl
section
variable {P : Program} {w : World} {K : W.Frag} {mg : Str → Option Value} {base : Heap} {f A C tp : Addr} {fd : FuncData} {t t2 t3 : Tok}
def spInP (K : W.Frag) (A C : Addr) : Sp := fun vs H Q _ => ∃ (x dx a b : Addr) (u v : V) (xs ys : List Str) (q : Rat) (ws : List Str), vs = [.ref x, .ref a, .ref b, u, v] ∧ H x = some (.ins C dx []) ∧ SeqH K H a (xs.map V.str) ∧ SeqH K H b (ys.map V.str) ∧
  Nms (xs ++ ys) ∧ xs ++ ys ≠ [] ∧ Num A H u q ∧ Sz q ∧ q ≠ 0 ∧ WaysV K H v (srt (xs ++ ys)) ws ∧
  ∀ (H' : Hp) (pt pl pr pf pw : Addr), Am.Ext H H' → Is A H' pt q → Tp H' pl (srt xs) → Tp H' pr (srt ys) → Tp H' pf (srt (xs ++ ys)) → Tp H' pw ws → Q .non (upd H' x (.ins C dx (fldP pt pl pr pf pw)))
abbrev nInP : List Str := ["self", "left", "right", "factor", "ways"]
theorem scInP : FnScope nInP nInP (defScope (pro 0)) := ⟨rfl, rfl, rfl, by decide +kernel, rfl, by decide +kernel, by decide +kernel⟩
abbrev FunIP (K : W.Frag) (tp f : Addr) (fd : FuncData) : Prop := FunD K "__init__" "Product.__init__" (defArgs (pro 0)) (defBody (pro 0)) (defScope (pro 0)) [V.ref tp, V.int 1] [("ways", .non)] f fd
theorem ok_inP (fr : Frees mg) (T : ClR K C) (B : Base P w K mg base A) (O : Of P w K mg base A) (DC : Dn P w K mg base CX0 3 "_check_side" ["side", "names", "earlier"] (spChkS K)) (DS : Dn P w K mg base CX0 1 "sorted_names" ["names"] (spSn K)) (DY : Dn P w K mg base CX0 2 "_checked_ways" ["fields", "ways"] (spWays K))
    (F : FunIP K tp f fd) : FnOk P w K mg base CX0 5 f fd nInP (spInP K A C) := by
  refine F.ok scInP (fun vs H Q E h => ?_) (fun cdv A' outer s H vs Q E hr h => ?_)
  · obtain ⟨x, dx, a, b, u, v, xs, ys, q, ws, rfl, _⟩ := h
    rfl
  · obtain ⟨x, dx, a, b, u, v, xs, ys, q, ws, rfl, hx, ha, hb, nx, ne, nu, sq, q0, hv, z⟩ := h
    have nd := scInP.nd
    have isk : IsK K := ⟨trivial⟩
    have big : (1000 : Nat) < sizeLine := by decide
    have few := nx.few
    rw [List.length_append] at few
    obtain ⟨sp_, sg_, sfd, SP, SF, SB⟩ := B.sgn
    refine ⟨_, PSs.nox (pss_cons (ps_expr (pe_dn DC hr (by rfl) (by decide) (pa_cons pe_str (pa_cons (pv 1) (pa_cons (pe_lst pa_nil) pa_nil)))))
      (pss_cons (ps_expr (pe_dn DC hr (by rfl) (by decide) (pa_cons pe_str (pa_cons (pv 2) (pa_cons (pv 1) pa_nil)))))
      (C8.pss_cut (ps_if (PW.pt (pw_and (pt_cmpR op_eq (pe_callB (lenK isk) rfl (fr.h _ (by decide +kernel)) (by decide +kernel) (pa_cons (pv 1) pa_nil)) pe_int (nomark _)) (pw_and1 (pt_cmpR op_eq (pe_callB (lenK isk) rfl (fr.h _ (by decide +kernel)) (by decide +kernel) (pa_cons (pv 2) pa_nil)) pe_int (nomark _))))) (pss_one ps_never) pss_nil)
      (pss_cons (ps_fld (pv 0) (pe_of O hr (pe_glob (v := V.ref A) rfl B.mgA rfl) (pa_cons (pv 3) pa_nil)) rfl)
      (pss_cons (ps_if (pt_cmpR op_eq (pe_pr B.T SP SF SB (hr.mono (by decide)) (pe_fld (pv 0) rfl)) pe_int (nomark _)) (pss_one ps_never) pss_nil)
      (pss_cons (ps_fld (pv 0) (pe_dn DS hr (by rfl) (by decide) (pa_cons (pv 1) pa_nil)) rfl)
      (pss_cons (ps_fld (pv 0) (pe_dn DS hr (by rfl) (by decide) (pa_cons (pv 2) pa_nil)) rfl)
      (pss_cons (ps_fld (pv 0) (pe_dn DS hr (by rfl) (by decide) (pa_cons (pe_lst (StX.pa_star (pv 1) (StX.pa_star (pv 2) pa_nil))) pa_nil)) rfl)
      (pss_one (ps_fld (pv 0) (pe_dn DY hr (by rfl) (by decide) (pa_cons (pe_fld (pv 0) rfl) (pa_cons (pv 4) pa_nil))) rfl)))))))))), ?_⟩
    have nit : ∀ {ks : List V} {gs : List (Str × V)}, HO.tup ks ≠ .ins C dx gs := fun q => nomatch q
    refine ⟨_, rfl, (by show 0 ≤ sizeLine; decide), fun L hL => ?_⟩
    have e0 : Am.Ext H (upd H L (.lst [])) := Am.Ext.new hL
    refine ⟨_, a, L, xs, [], rfl, ha.ext e0, .inl (SqL.of upd_same), nx.left, by decide, (fun _ _ q => nomatch q), fun H1 e1 => ?_⟩
    have e01 := e0.trans e1
    refine ⟨_, rfl, _, rfl, _, b, a, ys, xs, rfl, hb.ext e01, (ha.ext e01).sq, nx.right, by omega, nx.off, fun H2 e2 => ?_⟩
    have e02 := e01.trans e2
    have hx2 := e02 _ _ hx
    have ha2 := ha.ext e02
    have hb2 := hb.ext e02
    refine ⟨fun σ H' => H' = H2 ∧ σ = L2.start nInP [.ref x, .ref a, .ref b, u, v], ?_, ?_⟩
    · refine ⟨_, rfl, .inl ⟨a, _, rfl, ha2.sq, rfl, _, rfl, ite2 (fun c => ?_) (fun _ => ⟨rfl, rfl⟩)⟩⟩
      refine ⟨_, rfl, .inl ⟨b, _, rfl, hb2.sq, rfl, _, rfl, ite2 (fun c2 => ?_) (fun _ => ⟨rfl, rfl⟩)⟩⟩
      exfalso
      have l1 : (xs.map V.str).length = 0 := by simpa using c
      have l2 : (ys.map V.str).length = 0 := by simpa using c2
      rw [List.length_map] at l1 l2
      exact ne (by rw [List.length_eq_zero_iff.mp l1, List.length_eq_zero_iff.mp l2]; rfl)
    rintro σ H3 ⟨rfl, rfl⟩
    refine ⟨rfl, _, rfl, u, q, rfl, nu.ext e02, sq, fun pt H3 e3 ip => ?_⟩
    have hx3 := e3 _ _ hx2
    obtain ⟨dq, hp⟩ := ip
    have npx : pt ≠ x := fun q => by
      rw [q, hx3] at hp
      injection Option.some.inj hp with _ _ q3
      cases q3
    refine ⟨_, rfl, x, C, dx, [], rfl, hx3, T.cl, T.no _ (by simp), (by decide), ?_⟩
    have hp' : ∀ {gs : List (Str × V)}, upd H3 x (.ins C dx gs) pt = some (.ins A dq (flds q)) := by
      intro gs
      rw [upd_ne npx]
      exact hp
    refine ⟨_, rfl, x, C, dx, _, _, rfl, upd_same, T.cl, T.no _ (by simp), rfl, pt, q, rfl, ⟨dq, hp'⟩, rfl, _, rfl, ite2 (fun c => ?_) (fun _ => ?_)⟩
    · exfalso
      have : q.num.sign = 0 := by simpa using c
      exact q0 (Rat.num_eq_zero.mp (Int.sign_eq_zero_iff_zero.mp this))
    have ha3 := ha2.ext e3
    have hb3 := hb2.ext e3
    refine ⟨_, rfl, a, xs, rfl, (ha3.on hx3).sq, by omega, fun pl H4 e4 n4 t4 => ?_⟩
    obtain ⟨G4, rfl, g4, gx4⟩ := hold hx3 e4
    have t4' : Tp G4 pl _ := off_ins t4 nit
    refine ⟨_, rfl, x, C, dx, _, rfl, upd_same, T.cl, T.no _ (by simp), (by show 1 < 1000; decide), ?_⟩
    rw [upd_upd]
    refine ⟨_, rfl, b, ys, rfl, ((hb3.ext g4).on gx4).sq, by omega, fun pr H5 e5 n5 t5 => ?_⟩
    obtain ⟨G5, rfl, g5, gx5⟩ := hold gx4 e5
    have t5' : Tp G5 pr _ := off_ins t5 nit
    refine ⟨_, rfl, x, C, dx, _, rfl, upd_same, T.cl, T.no _ (by simp), (by show 2 < 1000; decide), ?_⟩
    rw [upd_upd]
    have ha5 := ((ha3.ext g4).ext g5).on (gs := [("_factor", .ref pt), ("_left", .ref pl), ("_right", .ref pr)]) gx5
    have hb5 := ((hb3.ext g4).ext g5).on (gs := [("_factor", .ref pt), ("_left", .ref pl), ("_right", .ref pr)]) gx5
    refine ⟨_, rfl, a, _, rfl, (ha5.sq (K := K)).symm, _, rfl, b, _, rfl, (hb5.sq (K := K)).symm, ?_⟩
    refine ⟨by rw [List.append_nil, List.length_append, List.length_map, List.length_map]; omega, fun M hM => ?_⟩
    have eM := Am.Ext.new (o := .lst (xs.map V.str ++ (ys.map V.str ++ []))) hM
    refine ⟨M, xs ++ ys, rfl, .inl (SqL.of (by rw [upd_same, List.append_nil, List.map_append])), by rw [List.length_append]; omega, fun pf H6 e6 n6 t6 => ?_⟩
    obtain ⟨G6, rfl, g6, gx6⟩ := hold gx5 (eM.trans e6)
    have t6' : Tp G6 pf _ := off_ins t6 nit
    refine ⟨_, rfl, x, C, dx, _, rfl, upd_same, T.cl, T.no _ (by simp), (by show 3 < 1000; decide), ?_⟩
    rw [upd_upd]
    refine ⟨_, rfl, x, C, dx, _, _, rfl, upd_same, T.cl, T.no _ (by simp), rfl, _, rfl, ?_⟩
    dsimp only [L2.tNil]
    have e36 : Am.Ext H3 G6 := (g4.trans g5).trans g6
    have e06 : Am.Ext H G6 := (e02.trans e3).trans e36
    refine WaysV.call (on_ins gx6 t6' nit) ((hv.ext e06).set gx6) fun pw H7 e7 tw => ?_
    obtain ⟨G7, rfl, g7, gx7⟩ := hold gx6 e7
    refine ⟨_, rfl, x, C, dx, _, rfl, upd_same, T.cl, T.no _ (by simp), (by show 4 < 1000; decide), ?_⟩
    rw [upd_upd]
    exact z G7 pt pl pr pf pw (e06.trans g7) ⟨dq, g7 _ _ (e36 _ _ hp)⟩ (g7 _ _ (g6 _ _ (g5 _ _ t4'))) (g7 _ _ (g6 _ _ t5')) (g7 _ _ t6') (off_ins tw nit)
end
end KD

set_option Elab.async false
set_option linter.all false
set_option maxRecDepth 100000
set_option maxHeartbeats 1000000
/-! tuples of texts compared; the fields of an instance; _signed_term, _ways_text. -/
namespace KD
open PySem PySem.Spec PyProof.Rows L2 Oo Gd Am KA SqX
theorem dp_strs {K : W.Frag} {H : Hp} : ∀ xs : List Str, DpAll K H (xs.map V.str) (xs.map PyData.str)
  | [] => .nil
  | x :: r => .cons (.str x) (dp_strs r)
theorem eqv_strs : ∀ xs ys : List Str, PyData.eqvAll (xs.map PyData.str) (ys.map PyData.str) = decide (xs = ys)
  | [], [] => rfl
  | [], _ :: _ => rfl
  | _ :: _, [] => rfl
  | x :: xs, y :: ys => by
    show (PyData.eqv (.str x) (.str y) && PyData.eqvAll (xs.map PyData.str) (ys.map PyData.str)) = _
    rw [eqv_strs xs ys]
    show ((x == y) && _) = _
    by_cases h : x = y
    · subst h
      rw [beq_self_eq_true, Bool.true_and]
      exact decide_eq_decide.mpr ⟨fun e => by rw [e], fun e => by injection e⟩
    · rw [beq_eq_false_iff_ne.mpr h, Bool.false_and]
      exact (decide_eq_false fun e => h (by injection e)).symm
theorem shaped_tup {xs : List Str} (h : ∀ x ∈ xs, PyData.strOk x = true) : SeqAt.shaped (.tuple (xs.map .str)) = true := shaped_strs h
theorem name_ok {x : Str} (h : nameB x = true) : PyData.strOk x = true := by
  unfold nameB at h
  simp only [Bool.and_eq_true] at h
  have a := h.2.2.2
  unfold PyData.strOk
  rw [← Array.all_toList]
  refine List.all_eq_true.mpr fun c hc => ?_
  have := List.all_eq_true.mp a c hc
  unfold nsg at this
  simp only [decide_eq_true_eq] at this ⊢
  omega
theorem eq_tup {K : W.Frag} {H : Hp} {a b : Addr} {xs ys : List Str} {Q : VK} (ha : Tp H a xs) (hb : Tp H b ys) (ox : ∀ x ∈ xs, nameB x = true) (oy : ∀ y ∈ ys, nameB y = true) (q : Q (.bl (decide (xs = ys))) H) : rEqD K (.ref a) (.ref b) H Q := by
  refine ⟨.tuple (xs.map .str), .tuple (ys.map .str), .tup (SqT.of ha) (dp_strs xs), .tup (SqT.of hb) (dp_strs ys), shaped_tup fun x hx => name_ok (ox x hx), shaped_tup fun x hx => name_ok (oy x hx), ?_⟩
  show Q (.bl (PyData.eqvAll _ _)) H
  rw [eqv_strs]
  exact q
/-- a text of n signs at most -/
def sgnT (n : Int) : Str := if n < 0 then "-" else "+"
def termT (x : Str) (n : Int) : Str := if (if n < 0 then -n else n) = 1 then Str.empty ++ sgnT n ++ " " ++ x else Str.empty ++ sgnT n ++ " " ++ (toString (if n < 0 then -n else n) : String) ++ " " ++ x
section
variable {P : Program} {w : World} {K : W.Frag} {mg : Str → Option Value} {base : Heap} {f A C : Addr} {fd : FuncData} {t t2 t3 : Tok}
def spFld (C : Addr) (nm : Str) : Sp := fun vs H Q _ => ∃ (r dx : Addr) (fs : List (Str × V)) (v : V), vs = [.ref r] ∧ H r = some (.ins C dx fs) ∧ fs.lookup nm = some v ∧ Q v H
def spTerm : Sp := fun vs H Q _ => ∃ (x : Str) (n : Int), vs = [.str x, .int n] ∧ x.length ≤ 8 ∧ n.natAbs < 2 ^ 200 ∧ Q (.str (termT x n)) H
abbrev nTerm : List Str := ["field", "weight", "sign"]
theorem scTerm : FnScope nTerm ["field", "weight"] (defScope (top 44)) := ⟨rfl, rfl, rfl, by decide +kernel, rfl, by decide +kernel, by decide +kernel⟩
theorem ok_term (fr : Frees mg) (F : Fun K "_signed_term" "_signed_term" (top 44) f fd) : FnOk P w K mg base CX0 1 f fd ["field", "weight"] spTerm := by
  refine F.ok scTerm (fun vs H Q E h => ?_) (fun cdv A outer s H vs Q E hr h => ?_)
  · obtain ⟨x, n, rfl, _⟩ := h
    rfl
  · obtain ⟨x, n, rfl, lx, ln, z⟩ := h
    have nd := scTerm.nd
    have big : (20000 : Nat) ≤ sizeLine := by decide
    refine ⟨_, C8.pss_cut (ps_set (i := 2) nd rfl (.inl rfl) (pe_ifExp (pt_cmpR op_lt (pv 1) pe_int (nomark _)) pe_str pe_str))
      (pss_cons (ps_if (pt_cmpR op_eq (pe_callB call_abs rfl (fr.h _ (by decide +kernel)) (by decide +kernel) (pa_cons (pv 1) pa_nil)) pe_int (nomark _)) (pss_one (ps_ret (pe_joined (.cons (pe_fmt (pv 2)) (.cons pe_str (.cons (pe_fmt (pv 0)) .nil)))))) pss_nil)
      (pss_one (ps_ret (pe_joined (.cons (pe_fmt (pv 2)) (.cons pe_str (.cons (pe_fmt (pe_callB call_abs rfl (fr.h _ (by decide +kernel)) (by decide +kernel) (pa_cons (pv 1) pa_nil))) (.cons pe_str (.cons (pe_fmt (pv 0)) .nil))))))))), ?_⟩
    have k1 : (Str.ofString " ").length = 1 := by decide
    have km : (Str.ofString "-").length = 1 := by decide
    have kp : (Str.ofString "+").length = 1 := by decide
    have k0 : (Str.empty).length = 0 := by decide
    have la : (if n < 0 then -n else n).natAbs < 2 ^ 200 := by split <;> omega
    have lt := len_of (n := 200) (by decide) la
    have lg : (if n < 0 then -n else n).natAbs.log2 < 1920 := by
      by_cases q : (if n < 0 then -n else n).natAbs = 0
      · rw [q]; decide
      · exact Nat.lt_of_lt_of_le ((Nat.log2_lt q).mpr la) (by decide)
    have ls : (sgnT n).length = 1 := by unfold sgnT; split <;> decide
    refine ⟨fun σ H' => H' = H ∧ σ = (L2.start nTerm [.str x, .int n]).set 2 (some (.str (sgnT n))), ?_, ?_⟩
    · refine ⟨_, rfl, _, _, rfl, rfl, _, rfl, ite2 (fun h => ?_) (fun h => ?_)⟩
      · have h' : n < 0 := by simpa using h
        refine ⟨rfl, ?_⟩
        unfold sgnT
        rw [if_pos h']
      · have h' : ¬ n < 0 := by simpa using h
        refine ⟨rfl, ?_⟩
        unfold sgnT
        rw [if_neg h']
    rintro σ H' ⟨rfl, rfl⟩
    unfold termT at z
    refine ⟨_, rfl, _, rfl, rfl, _, rfl, ite2 (fun h => ?_) (fun h => ?_)⟩
    · have e : (if n < 0 then -n else n) = 1 := by simpa using h
      rw [if_pos e] at z
      refine ⟨_, rfl, .inl ⟨_, rfl, (by omega), _, rfl, ?_, _, rfl, ?_, _, rfl, .inl ⟨_, rfl, (by omega), _, rfl, ?_, z⟩⟩⟩ <;> (simp only [strLen_append, k1, k0, ls]; omega)
    · have e : ¬ (if n < 0 then -n else n) = 1 := fun e => h (by simpa using e)
      rw [if_neg e] at z
      refine ⟨_, rfl, .inl ⟨_, rfl, (by omega), _, rfl, ?_, _, rfl, ?_, _, rfl, _, rfl, .inr ⟨_, rfl, lg, _, rfl, ?_, _, rfl, ?_, _, rfl, .inl ⟨_, rfl, (by omega), _, rfl, ?_, z⟩⟩⟩⟩ <;> (simp only [strLen_append, k1, k0, ls]; omega)
end
end KD

set_option Elab.async false
set_option linter.all false
set_option maxRecDepth 100000
set_option maxHeartbeats 1000000
/-! _ways_text; Loose and Product as texts. -/
namespace KD
open PySem PySem.Spec PyProof.Rows L2 Oo Gd Am KA SqX
/-- names, not many -/
def Few (xs : List Str) : Prop := (∀ x ∈ xs, nameB x = true) ∧ xs.length < 64
theorem Nms.f {xs : List Str} (h : Nms xs) : Few xs := ⟨h.ok, h.few⟩
theorem Few.srt {xs : List Str} (h : Few xs) : Few (srt xs) := ⟨fun x hx => h.1 x ((srt_mem xs x).mp hx), by rw [srt_len]; exact h.2⟩
theorem sum_le (n : Nat) : ∀ xs : List Str, (∀ x ∈ xs, x.length ≤ n) → (xs.map (·.length)).sum ≤ n * xs.length
  | [], _ => Nat.le_refl _
  | x :: r, h => by
    have a := sum_le n r fun y hy => h y (List.mem_cons_of_mem _ hy)
    have b := h x List.mem_cons_self
    rw [List.map_cons, List.sum_cons, List.length_cons, Nat.mul_succ]
    omega
theorem Few.sum {xs : List Str} (h : Few xs) : (xs.map (·.length)).sum ≤ 8 * xs.length := sum_le 8 xs fun x hx => (name_len (h.1 x hx)).2
theorem join_len (sep : Str) (xs : List Str) : (Txt.join sep xs).length ≤ (xs.map (·.length)).sum + xs.length * sep.length := by
  show (Builtin.Str.glued sep xs).length ≤ _
  rw [size_glued]
  have : (xs.length - 1) * sep.length ≤ xs.length * sep.length := Nat.mul_le_mul_right _ (Nat.sub_le _ _)
  omega
theorem k1 : (Str.ofString " ").length = 1 := by decide
theorem Few.join {xs : List Str} (h : Few xs) : (Txt.join " " xs).length ≤ 9 * xs.length := by
  have a := join_len " " xs
  have b := h.sum
  rw [k1] at a
  omega
def wayT (fs ws : List Str) : Str := if ws = fs then "" else Str.empty ++ " by " ++ Txt.join " " ws
theorem wayT_len {fs ws : List Str} (h : Few ws) : (wayT fs ws).length ≤ 700 := by
  unfold wayT
  have := h.join
  have := h.2
  have k4 : (Str.ofString " by ").length = 4 := by decide
  have k0 : (Str.empty).length = 0 := by decide
  have ke : (Str.ofString "").length = 0 := by decide
  split
  · rw [ke]; omega
  · rw [strLen_append, strLen_append, k0, k4]; omega
def IsL (C : Addr) (H : Hp) (r : Addr) (fs ws : List Str) : Prop := ∃ dx pf pw, H r = some (.ins C dx (fldL pf pw)) ∧ Tp H pf fs ∧ Tp H pw ws
theorem IsL.ext {C : Addr} {H H' : Hp} {r : Addr} {fs ws : List Str} (e : Am.Ext H H') (h : IsL C H r fs ws) : IsL C H' r fs ws := let ⟨dx, pf, pw, a, b, c⟩ := h; ⟨dx, pf, pw, e _ _ a, e _ _ b, e _ _ c⟩
def IsP (A C : Addr) (H : Hp) (r : Addr) (q : Rat) (ls rs fs ws : List Str) : Prop := ∃ dx pt pl pr pf pw, H r = some (.ins C dx (fldP pt pl pr pf pw)) ∧ Is A H pt q ∧ Tp H pl ls ∧ Tp H pr rs ∧ Tp H pf fs ∧ Tp H pw ws
theorem IsP.ext {A C : Addr} {H H' : Hp} {r : Addr} {q : Rat} {ls rs fs ws : List Str} (e : Am.Ext H H') (h : IsP A C H r q ls rs fs ws) : IsP A C H' r q ls rs fs ws :=
  let ⟨dx, pt, pl, pr, pf, pw, a, b, c, d, f, g⟩ := h; ⟨dx, pt, pl, pr, pf, pw, e _ _ a, b.ext e, e _ _ c, e _ _ d, e _ _ f, e _ _ g⟩
def IsT (A C : Addr) (H : Hp) (r : Addr) (q : Rat) (ls : List (Str × Int)) (fs ws : List Str) : Prop := ∃ dx pt pf pd pw, H r = some (.ins C dx (fldT pt pf pd pw)) ∧ Is A H pt q ∧ Tp H pf fs ∧ H pd = some (.dK (wts ls)) ∧ Tp H pw ws
theorem IsT.ext {A C : Addr} {H H' : Hp} {r : Addr} {q : Rat} {ls : List (Str × Int)} {fs ws : List Str} (e : Am.Ext H H') (h : IsT A C H r q ls fs ws) : IsT A C H' r q ls fs ws :=
  let ⟨dx, pt, pf, pd, pw, a, b, c, d, f⟩ := h; ⟨dx, pt, pf, pd, pw, e _ _ a, b.ext e, e _ _ c, e _ _ d, e _ _ f⟩
section
variable {P : Program} {w : World} {K : W.Frag} {mg : Str → Option Value} {base : Heap} {f A C : Addr} {fd : FuncData} {t t2 t3 : Tok}
def spWayT : Sp := fun vs H Q _ => ∃ (a b : Addr) (fs ws : List Str), vs = [.ref a, .ref b] ∧ Tp H a fs ∧ Tp H b ws ∧ Few fs ∧ Few ws ∧ Q (.str (wayT fs ws)) H
abbrev nWayT : List Str := ["fields", "ways", "named"]
theorem scWayT : FnScope nWayT ["fields", "ways"] (defScope (top 45)) := ⟨rfl, rfl, rfl, by decide +kernel, rfl, by decide +kernel, by decide +kernel⟩
theorem ok_wayT (F : Fun K "_ways_text" "_ways_text" (top 45) f fd) : FnOk P w K mg base CX0 1 f fd ["fields", "ways"] spWayT := by
  refine F.ok scWayT (fun vs H Q E h => ?_) (fun cdv A outer s H vs Q E hr h => ?_)
  · obtain ⟨a, b, fs, ws, rfl, _⟩ := h
    rfl
  · obtain ⟨a, b, fs, ws, rfl, ha, hb, ff, fw, z⟩ := h
    have nd := scWayT.nd
    have isk : IsK K := ⟨trivial⟩
    have big : (20000 : Nat) ≤ sizeLine := by decide
    refine ⟨_, pss_cons (ps_if (pt_cmpR (eqK isk hr) (pv 1) (pv 0) (by rfl)) (pss_one (ps_ret pe_str)) pss_nil)
      (pss_cons (ps_set (i := 2) nd rfl (.inl rfl) (joinK isk pe_str (pv 1)))
      (pss_one (ps_ret (pe_joined (.cons pe_str (.cons (pe_fmt (pv 2)) .nil)))))), ?_⟩
    refine ⟨_, rfl, _, rfl, .inr (eq_tup hb ha fw.1 ff.1 ⟨_, rfl, ite2 (fun c => ?_) (fun c => ?_)⟩)⟩
    · have e : ws = fs := by simpa using c
      unfold wayT at z
      rw [if_pos e] at z
      exact z
    · have e : ¬ ws = fs := by simpa using c
      unfold wayT at z
      rw [if_neg e] at z
      have l1 := fw.sum
      have l2 := fw.join
      have l3 := fw.2
      have k4 : (Str.ofString " by ").length = 4 := by decide
      have k0 : (Str.empty).length = 0 := by decide
      refine ⟨⟨_, rfl⟩, _, rfl, _, b, ws, rfl, rfl, .inr (SqT.of hb), by rw [k1]; omega, ?_⟩
      refine ⟨_, rfl, ?_, _, rfl, .inl ⟨_, rfl, by omega, _, rfl, ?_, z⟩⟩ <;> (simp only [strLen_append, k4, k0]; omega)
def looseT (fs ws : List Str) : Str := Str.empty ++ "loose " ++ Txt.join " " fs ++ wayT fs ws
def spTxL (C : Addr) : Sp := fun vs H Q _ => ∃ (r : Addr) (fs ws : List Str), vs = [.ref r] ∧ IsL C H r fs ws ∧ Few fs ∧ Few ws ∧ Q (.str (looseT fs ws)) H
theorem scTxL : FnScope ["self", "named"] ["self"] (defScope (lo 4)) := ⟨rfl, rfl, rfl, by decide +kernel, rfl, by decide +kernel, by decide +kernel⟩
theorem ok_txL (T : ClR K C) (DW : Dn P w K mg base CX0 1 "_ways_text" ["fields", "ways"] spWayT) (F : Fun K "text" "Loose.text" (lo 4) f fd) : FnOk P w K mg base CX0 2 f fd ["self"] (spTxL C) := by
  refine F.ok scTxL (fun vs H Q E h => ?_) (fun cdv A outer s H vs Q E hr h => ?_)
  · obtain ⟨r, fs, ws, rfl, _⟩ := h
    rfl
  · obtain ⟨r, fs, ws, rfl, ⟨dx, pf, pw, hi, hf, hw⟩, ff, fw, z⟩ := h
    have nd := scTxL.nd
    have isk : IsK K := ⟨trivial⟩
    have big : (20000 : Nat) ≤ sizeLine := by decide
    refine ⟨_, pss_cons (ps_set (i := 1) nd rfl (.inl rfl) (joinK isk pe_str (pe_fld (pv 0) rfl)))
      (pss_one (ps_ret (pe_joined (.cons pe_str (.cons (pe_fmt (pv 1)) (.cons (pe_fmt (pe_dn DW hr (by rfl) (by decide) (pa_cons (pe_fld (pv 0) rfl) (pa_cons (pe_fld (pv 0) rfl) pa_nil)))) .nil)))))), ?_⟩
    have l1 := ff.sum
    have l2 := ff.join
    have l3 := ff.2
    have l4 := wayT_len (fs := fs) fw
    have k6 : (Str.ofString "loose ").length = 6 := by decide
    have k0 : (Str.empty).length = 0 := by decide
    refine ⟨⟨_, rfl⟩, _, rfl, r, C, dx, _, _, rfl, hi, T.cl, T.no _ (by simp), rfl, _, pf, fs, rfl, rfl, .inr (SqT.of hf), by rw [k1]; omega, ?_⟩
    refine ⟨_, rfl, ?_, _, rfl, .inl ⟨_, rfl, by omega, _, rfl, ?_, _, rfl, r, C, dx, _, _, rfl, hi, T.cl, T.no _ (by simp), rfl, _, rfl, r, C, dx, _, _, rfl, hi, T.cl, T.no _ (by simp), rfl, pf, pw, fs, ws, rfl, hf, hw, ff, fw, .inl ⟨_, rfl, by omega, _, rfl, ?_, z⟩⟩⟩ <;> (simp only [strLen_append, k6, k0]; omega)
end
end KD

set_option Elab.async false
set_option linter.all false
set_option maxRecDepth 100000
set_option maxHeartbeats 1000000
/-! Product and Total as texts. -/
namespace KD
open PySem PySem.Spec PyProof.Rows L2 Oo Gd Am KA SqX
theorem k0 : (Str.empty).length = 0 := by decide
theorem num_len {i : Int} (h : i.natAbs < 2 ^ 250) : (Str.ofString (toString i)).length ≤ 300 := by
  have := len_of (n := 250) (by decide) h
  omega
theorem written_len {q : Rat} (h : Low 250 q) : (written q).length ≤ 1000 := by
  have a := num_len h.1
  have b := num_len (i := (q.den : Int)) (by rw [Int.natAbs_natCast]; exact h.2)
  have k : (Str.ofString "/").length = 1 := by decide
  unfold written
  split
  · omega
  · simp only [strLen_append, k0, k]; omega
theorem term_len {x : Str} {n : Int} (hx : x.length ≤ 8) (hn : n.natAbs < 2 ^ 200) : (termT x n).length ≤ 330 := by
  have la : (if n < 0 then -n else n).natAbs < 2 ^ 250 := Nat.lt_of_le_of_lt (by split <;> omega) (Nat.lt_trans hn (by decide))
  have b := num_len la
  have ls : (sgnT n).length = 1 := by unfold sgnT; split <;> decide
  unfold termT
  by_cases e : (if n < 0 then -n else n) = 1
  · rw [if_pos e]
    simp only [strLen_append, k0, k1, ls]
    omega
  · rw [if_neg e]
    simp only [strLen_append, k0, k1, ls]
    omega
def leftT (ls : List Str) : Str := if ls = [] then "1" else Txt.join " " ls
def rightT (rs : List Str) : Str := Txt.join "" (rs.map fun x => Str.empty ++ " " ++ x)
def prodT (q : Rat) (ls rs fs ws : List Str) : Str := Str.empty ++ "product " ++ leftT ls ++ " = " ++ written q ++ rightT rs ++ wayT fs ws
theorem leftT_len {ls : List Str} (h : Few ls) : (leftT ls).length ≤ 700 := by
  have a := h.join
  have b := h.2
  have k : (Str.ofString "1").length = 1 := by decide
  unfold leftT
  split <;> omega
theorem right_sum {rs : List Str} (h : Few rs) : ((rs.map fun x => Str.empty ++ " " ++ x).map (·.length)).sum ≤ 9 * rs.length := by
  have := sum_le 9 (rs.map fun x => Str.empty ++ " " ++ x) fun y hy => by
    obtain ⟨x, hx, rfl⟩ := List.mem_map.mp hy
    have := (name_len (h.1 x hx)).2
    simp only [strLen_append, k0, k1]
    omega
  rwa [List.length_map] at this
theorem rightT_len {rs : List Str} (h : Few rs) : (rightT rs).length ≤ 700 := by
  have a := join_len "" (rs.map fun x => Str.empty ++ " " ++ x)
  have b := right_sum h
  have c := h.2
  have k : (Str.ofString "").length = 0 := by decide
  rw [k] at a
  unfold rightT
  omega
theorem prodT_len {q : Rat} {ls rs fs ws : List Str} (h1 : Low 250 q) (h2 : Few ls) (h3 : Few rs) (h4 : Few ws) : (prodT q ls rs fs ws).length ≤ 5000 := by
  have a := written_len h1
  have b := leftT_len h2
  have c := rightT_len h3
  have d := wayT_len (fs := fs) h4
  have k8 : (Str.ofString "product ").length = 8 := by decide
  have k3 : (Str.ofString " = ").length = 3 := by decide
  unfold prodT
  simp only [strLen_append, k0, k8, k3]
  omega
section
variable {P : Program} {w : World} {K : W.Frag} {mg : Str → Option Value} {base : Heap} {f A C : Addr} {fd : FuncData} {t t2 t3 : Tok}
def spTxP (A C : Addr) : Sp := fun vs H Q _ => ∃ (r : Addr) (q : Rat) (ls rs fs ws : List Str), vs = [.ref r] ∧ IsP A C H r q ls rs fs ws ∧ Low 250 q ∧ Few ls ∧ Few rs ∧ Few fs ∧ Few ws ∧ ∀ H', Am.Ext H H' → Q (.str (prodT q ls rs fs ws)) H'
abbrev nTxP : List Str := ["self", "left", "right", "field"]
theorem scTxP : FnScope nTxP ["self"] (defScope (pro 8)) := ⟨rfl, rfl, rfl, by decide +kernel, rfl, by decide +kernel, by decide +kernel⟩
theorem ok_txP (fr : Frees mg) (T : ClR K C) (U : Una P w K mg base A "__str__" 1 (spText A written)) (DW : Dn P w K mg base CX0 1 "_ways_text" ["fields", "ways"] spWayT) (F : Fun K "text" "Product.text" (pro 8) f fd) : FnOk P w K mg base CX0 4 f fd ["self"] (spTxP A C) := by
  refine F.ok scTxP (fun vs H Q E h => ?_) (fun cdv A' outer s H vs Q E hr h => ?_)
  · obtain ⟨r, q, ls, rs, fs, ws, rfl, _⟩ := h
    rfl
  · obtain ⟨r, q, ls, rs, fs, ws, rfl, ⟨dx, pt, pl, pr, pf, pw, hi, ht, hl, hrr, hf, hw⟩, lw, fl, frs, ff, fw, z⟩ := h
    have nd := scTxP.nd
    have isk : IsK K := ⟨trivial⟩
    have big : (1000000 : Nat) ≤ sizeLine := by decide
    refine ⟨_, C8.pss_cut (ps_set (i := 1) nd rfl (.inl rfl) (pe_ifExp (pt_cmpR op_gt (pe_callB (lenK isk) rfl (fr.h _ (by decide +kernel)) (by decide +kernel) (pa_cons (pe_fld (pv 0) rfl) pa_nil)) pe_int (nomark _)) (joinK isk pe_str (pe_fld (pv 0) rfl)) pe_str))
      (pss_cons (ps_set (i := 2) nd rfl (.inl rfl) (joinK isk pe_str (pe_lc (own := [("field", 3)]) (g := gName 3) (tt := tYes) rfl nd (pi_seq (pe_fld (pv 0) rfl)) (blkOk_by (N := nTxP) (sc := defScope (pro 8)) (by decide +kernel)) (fun _ _ _ _ _ => pg_name (i := 3) nd rfl (Or.inl rfl)) (fun _ _ _ _ _ => pts_nil)
        (fun _ _ _ _ _ => pe_joined (.cons pe_str (.cons (pe_fmt (pv 3)) .nil))))))
      (pss_one (ps_ret (pe_joined (.cons pe_str (.cons (pe_fmt (pv 1)) (.cons pe_str (.cons (pe_fmt (pe_callTy (call_strN U (hr.mono (by decide))) rfl (fr.h _ (by decide +kernel)) (by decide +kernel) (pa_cons (pe_fld (pv 0) rfl) pa_nil))) (.cons (pe_fmt (pv 2)) (.cons (pe_fmt (pe_dn DW hr (by rfl) (by decide) (pa_cons (pe_fld (pv 0) rfl) (pa_cons (pe_fld (pv 0) rfl) pa_nil)))) .nil)))))))))), ?_⟩
    have fN : ∀ x ∈ ([("_fields" : Str), "_ways", "_weights", "_total", "_factor", "_left", "_right"] : List Str), NoAttr K C x := T.no
    refine ⟨fun σ H' => H' = H ∧ σ = (L2.start nTxP [.ref r]).set 1 (some (.str (leftT ls))), ?_, ?_⟩
    · refine ⟨_, rfl, r, C, dx, _, _, rfl, hi, T.cl, T.no _ (by simp), rfl, .inl ⟨pl, _, rfl, .inr (SqT.of hl), _, _, rfl, rfl, _, rfl, ite2 (fun c => ?_) (fun c => ?_)⟩⟩
      · have e : ¬ ls = [] := fun e => by
          rw [e] at c
          simp at c
        have l1 := fl.sum
        have l3 := fl.2
        refine ⟨⟨_, rfl⟩, _, rfl, r, C, dx, _, _, rfl, hi, T.cl, T.no _ (by simp), rfl, _, pl, ls, rfl, rfl, .inr (SqT.of hl), by rw [k1]; omega, rfl, ?_⟩
        unfold leftT
        rw [if_neg e]
      · have e : ls = [] := by
          cases ls with
          | nil => rfl
          | cons a b => exfalso; apply c; simp
        refine ⟨rfl, ?_⟩
        unfold leftT
        rw [if_pos e]
    rintro σ H0 ⟨rfl, rfl⟩
    refine ⟨⟨_, rfl⟩, _, rfl, r, C, dx, _, _, rfl, hi, T.cl, T.no _ (by simp), rfl, pr, _, H0, rfl, .inr (SqT.of hrr), Am.Ext.refl H0, fun J G wk st D hD => ?_⟩
    rw [List.length_map] at wk
    refine lc_it (te := fun σ H Q => tJs [tC (V.str (Str.ofString " ")), tFmt (tVar 3)] Str.empty σ H fun out H1 => Q (V.str out) H1) wk (fun i H' => Am.Ext H0 H' ∧ H' D = some (.lst (((rs.take i).map fun x => Str.empty ++ " " ++ x).map V.str))) ⟨Am.Ext.new hD, by rw [upd_same]; rfl⟩ (fun i H' _ h => st H' h.1) ?_ ?_
    · rintro i y H' H2 hi' ⟨e, d⟩ ⟨rfl, hy⟩
      obtain ⟨x, hx, rfl⟩ := map_at hy
      have lx := (name_len (frs.1 x (List.mem_of_getElem? hx))).2
      have l3 := frs.2
      refine ⟨rfl, _, rfl, ?_, _, rfl, .inl ⟨_, rfl, by omega, _, rfl, ?_, _, d, ?_, ext_off e hD, ?_⟩⟩
      · simp only [strLen_append, k1, k0]; omega
      · simp only [strLen_append, k1, k0]; omega
      · rw [List.length_map, List.length_map, List.length_take]
        omega
      · rw [upd_same, take_suc hx, List.map_append, List.map_append]
        rfl
    · rintro H' ⟨e, d⟩
      rw [List.take_length] at d
      have l1 := right_sum frs
      have l3 := frs.2
      have l4 := leftT_len fl
      have l5 := rightT_len frs
      have l6 := written_len lw
      have l7 := wayT_len (fs := fs) fw
      have k8 : (Str.ofString "product ").length = 8 := by decide
      have k3 : (Str.ofString " = ").length = 3 := by decide
      have ke : (Str.ofString "").length = 0 := by decide
      have hi' := e _ _ hi
      have lw8 : Low 8000 q := lw.more (by decide)
      refine ⟨_, D, rs.map fun x => Str.empty ++ " " ++ x, rfl, rfl, .inl (SqL.of d), by rw [ke, List.length_map]; omega, ?_⟩
      have z' := z H' e
      unfold prodT rightT at z'
      unfold rightT at l5
      refine ⟨_, rfl, ?_, _, rfl, .inl ⟨_, rfl, by omega, _, rfl, ?_, _, rfl, ?_, _, rfl, r, C, dx, _, _, rfl, hi', T.cl, T.no _ (by simp), rfl, pt, q, rfl, ht.ext e, lw8, .inl ⟨_, rfl, by omega, _, rfl, ?_, _, rfl, .inl ⟨_, rfl, by omega, _, rfl, ?_, _, rfl, r, C, dx, _, _, rfl, hi', T.cl, T.no _ (by simp), rfl, _, rfl, r, C, dx, _, _, rfl, hi', T.cl, T.no _ (by simp), rfl, pf, pw, fs, ws, rfl, e _ _ hf, e _ _ hw, ff, fw, .inl ⟨_, rfl, by omega, _, rfl, ?_, z'⟩⟩⟩⟩⟩ <;> (simp only [strLen_append, k0, k8, k3]; omega)
end
end KD

set_option Elab.async false
set_option linter.all false
set_option maxRecDepth 100000
set_option maxHeartbeats 1000000
/-! Total as a text. -/
namespace KD
open PySem PySem.Spec PyProof.Rows L2 Oo Gd Am KA SqX
/-- numbers that are not great -/
def Wts (ls : List (Str × Int)) : Prop := ∀ p ∈ ls, p.2.natAbs < 2 ^ 200
def termsT (ls : List (Str × Int)) (fs : List Str) : Str := Txt.join " " (fs.map fun x => termT x ((wt ls x).getD 0))
def headT (s : Str) : Str := if Txt.startswith s "-" = true then Str.empty ++ "-" ++ cutS s (some 2) none else cutS s (some 2) none
def sumT (q : Rat) (ls : List (Str × Int)) (fs ws : List Str) : Str := Str.empty ++ "sum " ++ headT (termsT ls fs) ++ " = " ++ written q ++ wayT fs ws
theorem terms_sum {ls : List (Str × Int)} {fs : List Str} (h : Few fs) (hw : Wts ls) (sub : ∀ x ∈ fs, x ∈ ls.map (·.1)) : ((fs.map fun x => termT x ((wt ls x).getD 0)).map (·.length)).sum ≤ 330 * fs.length := by
  have := sum_le 330 (fs.map fun x => termT x ((wt ls x).getD 0)) fun y hy => by
    obtain ⟨x, hx, rfl⟩ := List.mem_map.mp hy
    obtain ⟨n, e, m⟩ := wt_some (sub x hx)
    rw [e]
    exact term_len (name_len (h.1 x hx)).2 (hw _ m)
  rwa [List.length_map] at this
theorem terms_len {ls : List (Str × Int)} {fs : List Str} (h : Few fs) (hw : Wts ls) (sub : ∀ x ∈ fs, x ∈ ls.map (·.1)) : (termsT ls fs).length ≤ 25000 := by
  have a := join_len " " (fs.map fun x => termT x ((wt ls x).getD 0))
  have b := terms_sum h hw sub
  have c := h.2
  rw [k1, List.length_map] at a
  unfold termsT
  omega
theorem cut2_len (x : Str) : (cutS x (some 2) none).length ≤ x.length := cut_len x _ _
theorem headT_len (s : Str) : (headT s).length ≤ s.length + 1 := by
  have := cut2_len s
  have k : (Str.ofString "-").length = 1 := by decide
  unfold headT
  split
  · rw [strLen_append, strLen_append, k0, k]; omega
  · omega
theorem sumT_len {q : Rat} {ls : List (Str × Int)} {fs ws : List Str} (h1 : Low 250 q) (h : Few fs) (hw : Wts ls) (sub : ∀ x ∈ fs, x ∈ ls.map (·.1)) (h4 : Few ws) : (sumT q ls fs ws).length ≤ 30000 := by
  have a := written_len h1
  have b := headT_len (termsT ls fs)
  have c := terms_len h hw sub
  have d := wayT_len (fs := fs) h4
  have k4 : (Str.ofString "sum ").length = 4 := by decide
  have k3 : (Str.ofString " = ").length = 3 := by decide
  unfold sumT
  simp only [strLen_append, k0, k4, k3]
  omega
section
variable {P : Program} {w : World} {K : W.Frag} {mg : Str → Option Value} {base : Heap} {f A C : Addr} {fd : FuncData} {t t2 t3 : Tok}
def spTxT (A C : Addr) : Sp := fun vs H Q _ => ∃ (r : Addr) (q : Rat) (ls : List (Str × Int)) (fs ws : List Str), vs = [.ref r] ∧ IsT A C H r q ls fs ws ∧ Low 250 q ∧ Wts ls ∧ (∀ x ∈ fs, x ∈ ls.map (·.1)) ∧ Few fs ∧ Few ws ∧ ∀ H', Am.Ext H H' → Q (.str (sumT q ls fs ws)) H'
abbrev nTxT : List Str := ["self", "terms", "head", "field"]
theorem scTxT : FnScope nTxT ["self"] (defScope (tot 8)) := ⟨rfl, rfl, rfl, by decide +kernel, rfl, by decide +kernel, by decide +kernel⟩
theorem ok_txT (fr : Frees mg) (T : ClR K C) (U : Una P w K mg base A "__str__" 1 (spText A written)) (DT : Dn P w K mg base CX0 1 "_signed_term" ["field", "weight"] spTerm) (DW : Dn P w K mg base CX0 1 "_ways_text" ["fields", "ways"] spWayT) (F : Fun K "text" "Total.text" (tot 8) f fd) : FnOk P w K mg base CX0 4 f fd ["self"] (spTxT A C) := by
  refine F.ok scTxT (fun vs H Q E h => ?_) (fun cdv A' outer s H vs Q E hr h => ?_)
  · obtain ⟨r, q, ls, fs, ws, rfl, _⟩ := h
    rfl
  · obtain ⟨r, q, ls, fs, ws, rfl, ⟨dx, pt, pf, pd, pw, hi, ht, hf, hd, hw⟩, lw, wl, sub, ff, fw, z⟩ := h
    have nd := scTxT.nd
    have isk : IsK K := ⟨trivial⟩
    have hu := hu_of hr
    have big : (1000000 : Nat) ≤ sizeLine := by decide
    refine ⟨_, pss_cons (ps_set (i := 1) nd rfl (.inl rfl) (joinK isk pe_str (pe_lc (own := [("field", 3)]) (g := gName 3) (tt := tYes) rfl nd (pi_seq (pe_fld (pv 0) rfl)) (blkOk_by (N := nTxT) (sc := defScope (tot 8)) (by decide +kernel)) (fun _ _ _ _ _ => pg_name (i := 3) nd rfl (Or.inl rfl)) (fun _ _ _ _ _ => pts_nil)
        (fun s1 H1 C1 c1 f1 => by exact pe_dn DT hr (by rfl) (by decide) (pa_cons (pv 3) (pa_cons (pe_dget (td := tFld K (tVar 0) "_weights") (ty := tVar 3) hu (pe_fld (pv 0) rfl) (pv 3) (fun _ _ => rfl)) pa_nil))))))
      (C8.pss_cut (ps_set (i := 2) nd rfl (.inl rfl) (pe_ifExp (pt_val (pe_bm PySem.F.plainAttrs_str PySem.F.slot_str_startswith PySem.F.type_str_startswith mt_startswith (pv 1) (pa_cons pe_str pa_nil))) (pe_joined (.cons pe_str (.cons (pe_fmt (pe_slice sl_str (pv 1) (po_some pe_int) po_none)) .nil))) (pe_slice sl_str (pv 1) (po_some pe_int) po_none)))
      (pss_one (ps_ret (pe_joined (.cons pe_str (.cons (pe_fmt (pv 2)) (.cons pe_str (.cons (pe_fmt (pe_callTy (call_strN U (hr.mono (by decide))) rfl (fr.h _ (by decide +kernel)) (by decide +kernel) (pa_cons (pe_fld (pv 0) rfl) pa_nil))) (.cons (pe_fmt (pe_dn DW hr (by rfl) (by decide) (pa_cons (pe_fld (pv 0) rfl) (pa_cons (pe_fld (pv 0) rfl) pa_nil)))) .nil))))))))), ?_⟩
    refine ⟨⟨_, rfl⟩, _, rfl, r, C, dx, _, _, rfl, hi, T.cl, T.no _ (by simp), rfl, pf, _, H, rfl, .inr (SqT.of hf), Am.Ext.refl H, fun J G wk st D hD => ?_⟩
    rw [List.length_map] at wk
    have l3 := ff.2
    refine lc_it wk (fun i H' => Am.Ext H H' ∧ H' D = some (.lst (((fs.take i).map fun x => termT x ((wt ls x).getD 0)).map V.str))) ⟨Am.Ext.new hD, by rw [upd_same]; rfl⟩ (fun i H' _ h => st H' h.1) ?_ ?_
    · rintro i y H' H2 hi' ⟨e, d⟩ ⟨rfl, hy⟩
      obtain ⟨x, hx, rfl⟩ := map_at hy
      have hm := List.mem_of_getElem? hx
      have lx := (name_len (ff.1 x hm)).2
      obtain ⟨n, en, mn⟩ := wt_some (sub x hm)
      have g : DGet H2 pd (.str x) (some (.int n)) := by
        have := DGet.k (k := (Sum.inr x : Key)) (e _ _ hd)
        rw [valV_w, en] at this
        exact this
      refine ⟨rfl, _, rfl, _, rfl, r, C, dx, _, _, rfl, e _ _ hi, T.cl, T.no _ (by simp), rfl, _, rfl, pd, _, rfl, g, x, n, rfl, lx, wl _ mn, _, d, ?_, ext_off e hD, ?_⟩
      · rw [List.length_map, List.length_map, List.length_take]
        omega
      · rw [upd_same, take_suc hx, List.map_append, List.map_append]
        simp only [List.map_cons, List.map_nil, en]
        rfl
    · rintro H' ⟨e, d⟩
      rw [List.take_length] at d
      have l1 := terms_sum ff wl sub
      have l2 := terms_len ff wl sub
      have hi' := e _ _ hi
      refine ⟨_, D, fs.map fun x => termT x ((wt ls x).getD 0), rfl, rfl, .inl (SqL.of d), by rw [k1, List.length_map]; omega, ?_⟩
      have z' := z H' e
      have eT : termsT ls fs = Txt.join " " (fs.map fun x => termT x ((wt ls x).getD 0)) := rfl
      rw [← eT]
      have l8 := headT_len (termsT ls fs)
      unfold sumT at z'
      generalize termsT ls fs = s1 at l2 l8 z' ⊢
      have lc := cut2_len s1
      have km : (Str.ofString "-").length = 1 := by decide
      refine ⟨fun σ H2 => H2 = H' ∧ σ = ((L2.start nTxT [.ref r]).set 1 (some (.str s1))).set 2 (some (.str (headT s1))), ?_, ?_⟩
      · refine ⟨_, rfl, rfl, _, _, rfl, rfl, _, rfl, ite2 (fun c => ?_) (fun c => ?_)⟩
        · refine ⟨_, rfl, ?_, _, rfl, 2, rfl, s1, rfl, by omega, .inl ⟨_, rfl, by omega, _, rfl, ?_, rfl, ?_⟩⟩
          · simp only [strLen_append, k0, km]; omega
          · simp only [strLen_append, k0, km]; omega
          · unfold headT
            rw [if_pos c]
        · refine ⟨_, rfl, 2, rfl, s1, rfl, by omega, rfl, ?_⟩
          unfold headT
          rw [if_neg c]
      · rintro σ H2 ⟨rfl, rfl⟩
        have l6 := written_len lw
        have l7 := wayT_len (fs := fs) fw
        have k4 : (Str.ofString "sum ").length = 4 := by decide
        have k3 : (Str.ofString " = ").length = 3 := by decide
        have lw8 : Low 8000 q := lw.more (by decide)
        generalize headT s1 = s2 at l8 z' ⊢
        refine ⟨_, rfl, ?_, _, rfl, .inl ⟨_, rfl, by omega, _, rfl, ?_, _, rfl, ?_, _, rfl, r, C, dx, _, _, rfl, hi', T.cl, T.no _ (by simp), rfl, pt, q, rfl, ht.ext e, lw8, .inl ⟨_, rfl, by omega, _, rfl, ?_, _, rfl, r, C, dx, _, _, rfl, hi', T.cl, T.no _ (by simp), rfl, _, rfl, r, C, dx, _, _, rfl, hi', T.cl, T.no _ (by simp), rfl, pf, pw, fs, ws, rfl, e _ _ hf, e _ _ hw, ff, fw, .inl ⟨_, rfl, by omega, _, rfl, ?_, z'⟩⟩⟩⟩ <;> (simp only [strLen_append, k0, k4, k3]; omega)
end
end KD

set_option Elab.async false
set_option linter.all false
set_option maxRecDepth 100000
set_option maxHeartbeats 1000000
/-! what a rule's fields give; weights; dicts of numbers compared. -/
namespace KD
open PySem PySem.Spec PyProof.Rows L2 Oo Gd Am KA SqX
/-! ### dicts of numbers compared -/
def eqW (ks ls : List (Str × Int)) : Bool := decide (ks.length = ls.length) && ks.all fun p => decide (wt ls p.1 = some p.2)
theorem hits_w {A : Around} {s : Shared} {ls : List (Str × Int)} {vb : List (Key × Value)} (rb : KV (wts ls) vb) : ∀ {ks : List (Str × Int)} {va : List (Key × Value)}, KV (wts ks) va → PySem.W.KeqHits A s vb va (ks.all fun p => decide (wt ls p.1 = some p.2))
  | [], _, ra => by
    cases ra
    exact .nil
  | p :: ks, _, ra => by
    cases ra with
    | @cons _ b _ bs h t =>
      obtain ⟨k, v⟩ := b
      obtain ⟨h1, h2⟩ := h
      have hk : (Sum.inr p.1 : Key) = k := h1
      subst hk
      obtain ⟨tk, rfl⟩ := (show ∃ tk, v = Value.int p.2 tk from h2)
      have rv := rb.val (Sum.inr p.1 : Key)
      rw [valV_w] at rv
      rw [List.all_cons]
      cases e : wt ls p.1 with
      | none =>
        rw [e] at rv
        rw [decide_eq_false (fun q => nomatch q), Bool.false_and]
        refine .miss ?_
        cases q : valueAt vb (Sum.inr p.1 : Key) with
        | none => rfl
        | some u =>
          rw [q] at rv
          exact absurd rv (by intro z; exact z)
      | some n =>
        rw [e] at rv
        have rr : RelO (some (V.int n)) (valueAt vb (Sum.inr p.1 : Key)) := rv
        obtain ⟨y, hy, ry⟩ := rr.some_of
        obtain ⟨t2, rfl⟩ := (show ∃ t2, y = Value.int n t2 from ry)
        rw [show decide (some n = some p.2) = eqV (.int p.2) (.int n) from by
          show _ = (p.2 == n)
          by_cases z : n = p.2
          · subst z; simp
          · rw [decide_eq_false (fun q => z (by injection q))]
            exact (beq_eq_false_iff_ne.mpr (Ne.symm z)).symm]
        exact .hit hy (eqAt_V (x := V.int n) (y := V.int p.2) ⟨tk, rfl⟩ ⟨t2, rfl⟩ rfl rfl) (hits_w rb t)
section
variable {X : Cx}
def rEqW : R2 := fun x y H Q => ∃ a b ks ls, x = .ref a ∧ y = .ref b ∧ H a = some (.dK (wts ks)) ∧ H b = some (.dK (wts ls)) ∧ Q (.bl (eqW ks ls)) H
theorem op_eqW (hu : X.A.units + 1 < cLine) : OpR X (compareOp .Eq) rEqW := by
  intro pins s σ H x y v u Q I rx ry h
  obtain ⟨a, b, ks, ls, rfl, rfl, ea, eb, q⟩ := h
  obtain rfl : v = Value.ref a := rx
  obtain rfl : u = Value.ref b := ry
  obtain ⟨_, ya, va, ra, da⟩ := (show ObjOk X.prog X.w H s.heap a (.dK (wts ks)) from I.hok a _ ea)
  obtain ⟨_, yb, vb, rb, db⟩ := (show ObjOk X.prog X.w H s.heap b (.dK (wts ls)) from I.hok b _ eb)
  have h1 : va.length = ks.length := by rw [← ra.length, len_w]
  have h2 : vb.length = ls.length := by rw [← rb.length, len_w]
  refine PySem.W.keq_eq (knd := mixKind X.prog X.w) ya yb da db (by omega) (fun _ => hits_w rb ra) (fin_bl I q ?_)
  unfold eqW
  rw [h1, h2]
  rfl
end
section
variable {P : Program} {w : World} {K : W.Frag} {mg : Str → Option Value} {base : Heap} {f A C : Addr} {fd : FuncData} {t t2 t3 : Tok}
theorem sc_tot_fields : FnScope ["self"] ["self"] (defScope (tot 1)) := ⟨rfl, rfl, rfl, by decide +kernel, rfl, by decide +kernel, by decide +kernel⟩
theorem ok_tot_fields (T : ClR K C) (F : Fun K "fields" "Total.fields" (tot 1) f fd) : FnOk P w K mg base CX0 1 f fd ["self"] (spFld C "_fields") := by
  refine F.ok sc_tot_fields (fun vs H Q E h => ?_) (fun cdv A outer s H vs Q E hr h => ?_)
  · obtain ⟨r, dx, fs, v, rfl, _⟩ := h
    rfl
  · obtain ⟨r, dx, fs, v, rfl, hr', hv, z⟩ := h
    exact ⟨_, pss_one (ps_ret (pe_fld (pv 0) rfl)), ⟨_, rfl, r, C, dx, _, _, rfl, hr', T.cl, T.no _ (by simp), hv, z⟩⟩
theorem sc_tot_ways : FnScope ["self"] ["self"] (defScope (tot 2)) := ⟨rfl, rfl, rfl, by decide +kernel, rfl, by decide +kernel, by decide +kernel⟩
theorem ok_tot_ways (T : ClR K C) (F : Fun K "ways" "Total.ways" (tot 2) f fd) : FnOk P w K mg base CX0 1 f fd ["self"] (spFld C "_ways") := by
  refine F.ok sc_tot_ways (fun vs H Q E h => ?_) (fun cdv A outer s H vs Q E hr h => ?_)
  · obtain ⟨r, dx, fs, v, rfl, _⟩ := h
    rfl
  · obtain ⟨r, dx, fs, v, rfl, hr', hv, z⟩ := h
    exact ⟨_, pss_one (ps_ret (pe_fld (pv 0) rfl)), ⟨_, rfl, r, C, dx, _, _, rfl, hr', T.cl, T.no _ (by simp), hv, z⟩⟩
theorem sc_tot_total : FnScope ["self"] ["self"] (defScope (tot 4)) := ⟨rfl, rfl, rfl, by decide +kernel, rfl, by decide +kernel, by decide +kernel⟩
theorem ok_tot_total (T : ClR K C) (F : Fun K "total" "Total.total" (tot 4) f fd) : FnOk P w K mg base CX0 1 f fd ["self"] (spFld C "_total") := by
  refine F.ok sc_tot_total (fun vs H Q E h => ?_) (fun cdv A outer s H vs Q E hr h => ?_)
  · obtain ⟨r, dx, fs, v, rfl, _⟩ := h
    rfl
  · obtain ⟨r, dx, fs, v, rfl, hr', hv, z⟩ := h
    exact ⟨_, pss_one (ps_ret (pe_fld (pv 0) rfl)), ⟨_, rfl, r, C, dx, _, _, rfl, hr', T.cl, T.no _ (by simp), hv, z⟩⟩
theorem sc_pro_fields : FnScope ["self"] ["self"] (defScope (pro 1)) := ⟨rfl, rfl, rfl, by decide +kernel, rfl, by decide +kernel, by decide +kernel⟩
theorem ok_pro_fields (T : ClR K C) (F : Fun K "fields" "Product.fields" (pro 1) f fd) : FnOk P w K mg base CX0 1 f fd ["self"] (spFld C "_fields") := by
  refine F.ok sc_pro_fields (fun vs H Q E h => ?_) (fun cdv A outer s H vs Q E hr h => ?_)
  · obtain ⟨r, dx, fs, v, rfl, _⟩ := h
    rfl
  · obtain ⟨r, dx, fs, v, rfl, hr', hv, z⟩ := h
    exact ⟨_, pss_one (ps_ret (pe_fld (pv 0) rfl)), ⟨_, rfl, r, C, dx, _, _, rfl, hr', T.cl, T.no _ (by simp), hv, z⟩⟩
theorem sc_pro_ways : FnScope ["self"] ["self"] (defScope (pro 2)) := ⟨rfl, rfl, rfl, by decide +kernel, rfl, by decide +kernel, by decide +kernel⟩
theorem ok_pro_ways (T : ClR K C) (F : Fun K "ways" "Product.ways" (pro 2) f fd) : FnOk P w K mg base CX0 1 f fd ["self"] (spFld C "_ways") := by
  refine F.ok sc_pro_ways (fun vs H Q E h => ?_) (fun cdv A outer s H vs Q E hr h => ?_)
  · obtain ⟨r, dx, fs, v, rfl, _⟩ := h
    rfl
  · obtain ⟨r, dx, fs, v, rfl, hr', hv, z⟩ := h
    exact ⟨_, pss_one (ps_ret (pe_fld (pv 0) rfl)), ⟨_, rfl, r, C, dx, _, _, rfl, hr', T.cl, T.no _ (by simp), hv, z⟩⟩
theorem sc_pro_left : FnScope ["self"] ["self"] (defScope (pro 3)) := ⟨rfl, rfl, rfl, by decide +kernel, rfl, by decide +kernel, by decide +kernel⟩
theorem ok_pro_left (T : ClR K C) (F : Fun K "left" "Product.left" (pro 3) f fd) : FnOk P w K mg base CX0 1 f fd ["self"] (spFld C "_left") := by
  refine F.ok sc_pro_left (fun vs H Q E h => ?_) (fun cdv A outer s H vs Q E hr h => ?_)
  · obtain ⟨r, dx, fs, v, rfl, _⟩ := h
    rfl
  · obtain ⟨r, dx, fs, v, rfl, hr', hv, z⟩ := h
    exact ⟨_, pss_one (ps_ret (pe_fld (pv 0) rfl)), ⟨_, rfl, r, C, dx, _, _, rfl, hr', T.cl, T.no _ (by simp), hv, z⟩⟩
theorem sc_pro_right : FnScope ["self"] ["self"] (defScope (pro 4)) := ⟨rfl, rfl, rfl, by decide +kernel, rfl, by decide +kernel, by decide +kernel⟩
theorem ok_pro_right (T : ClR K C) (F : Fun K "right" "Product.right" (pro 4) f fd) : FnOk P w K mg base CX0 1 f fd ["self"] (spFld C "_right") := by
  refine F.ok sc_pro_right (fun vs H Q E h => ?_) (fun cdv A outer s H vs Q E hr h => ?_)
  · obtain ⟨r, dx, fs, v, rfl, _⟩ := h
    rfl
  · obtain ⟨r, dx, fs, v, rfl, hr', hv, z⟩ := h
    exact ⟨_, pss_one (ps_ret (pe_fld (pv 0) rfl)), ⟨_, rfl, r, C, dx, _, _, rfl, hr', T.cl, T.no _ (by simp), hv, z⟩⟩
theorem sc_pro_factor : FnScope ["self"] ["self"] (defScope (pro 5)) := ⟨rfl, rfl, rfl, by decide +kernel, rfl, by decide +kernel, by decide +kernel⟩
theorem ok_pro_factor (T : ClR K C) (F : Fun K "factor" "Product.factor" (pro 5) f fd) : FnOk P w K mg base CX0 1 f fd ["self"] (spFld C "_factor") := by
  refine F.ok sc_pro_factor (fun vs H Q E h => ?_) (fun cdv A outer s H vs Q E hr h => ?_)
  · obtain ⟨r, dx, fs, v, rfl, _⟩ := h
    rfl
  · obtain ⟨r, dx, fs, v, rfl, hr', hv, z⟩ := h
    exact ⟨_, pss_one (ps_ret (pe_fld (pv 0) rfl)), ⟨_, rfl, r, C, dx, _, _, rfl, hr', T.cl, T.no _ (by simp), hv, z⟩⟩
theorem sc_lo_fields : FnScope ["self"] ["self"] (defScope (lo 1)) := ⟨rfl, rfl, rfl, by decide +kernel, rfl, by decide +kernel, by decide +kernel⟩
theorem ok_lo_fields (T : ClR K C) (F : Fun K "fields" "Loose.fields" (lo 1) f fd) : FnOk P w K mg base CX0 1 f fd ["self"] (spFld C "_fields") := by
  refine F.ok sc_lo_fields (fun vs H Q E h => ?_) (fun cdv A outer s H vs Q E hr h => ?_)
  · obtain ⟨r, dx, fs, v, rfl, _⟩ := h
    rfl
  · obtain ⟨r, dx, fs, v, rfl, hr', hv, z⟩ := h
    exact ⟨_, pss_one (ps_ret (pe_fld (pv 0) rfl)), ⟨_, rfl, r, C, dx, _, _, rfl, hr', T.cl, T.no _ (by simp), hv, z⟩⟩
theorem sc_lo_ways : FnScope ["self"] ["self"] (defScope (lo 2)) := ⟨rfl, rfl, rfl, by decide +kernel, rfl, by decide +kernel, by decide +kernel⟩
theorem ok_lo_ways (T : ClR K C) (F : Fun K "ways" "Loose.ways" (lo 2) f fd) : FnOk P w K mg base CX0 1 f fd ["self"] (spFld C "_ways") := by
  refine F.ok sc_lo_ways (fun vs H Q E h => ?_) (fun cdv A outer s H vs Q E hr h => ?_)
  · obtain ⟨r, dx, fs, v, rfl, _⟩ := h
    rfl
  · obtain ⟨r, dx, fs, v, rfl, hr', hv, z⟩ := h
    exact ⟨_, pss_one (ps_ret (pe_fld (pv 0) rfl)), ⟨_, rfl, r, C, dx, _, _, rfl, hr', T.cl, T.no _ (by simp), hv, z⟩⟩
/-- weights: a new dict of the same -/
def spWs (C : Addr) : Sp := fun vs H Q _ => ∃ (r dx : Addr) (fs : List (Str × V)) (pd : Addr) (kvs : List (Key × V)), vs = [.ref r] ∧ H r = some (.ins C dx fs) ∧ fs.lookup ("_weights" : Str) = some (V.ref pd) ∧ H pd = some (.dK kvs) ∧ ∀ p, H p = none → Q (.ref p) (upd H p (.dK kvs))
theorem sc_tot_weights : FnScope ["self"] ["self"] (defScope (tot 3)) := ⟨rfl, rfl, rfl, by decide +kernel, rfl, by decide +kernel, by decide +kernel⟩
theorem ok_tot_weights (fr : Frees mg) (T : ClR K C) (F : Fun K "weights" "Total.weights" (tot 3) f fd) : FnOk P w K mg base CX0 1 f fd ["self"] (spWs C) := by
  refine F.ok sc_tot_weights (fun vs H Q E h => ?_) (fun cdv A outer s H vs Q E hr h => ?_)
  · obtain ⟨r, dx, fs, pd, kvs, rfl, _⟩ := h
    rfl
  · obtain ⟨r, dx, fs, pd, kvs, rfl, hr', hv, hd, z⟩ := h
    exact ⟨_, pss_one (ps_ret (pe_callTy call_dictD rfl (fr.h _ (by decide +kernel)) (by decide +kernel) (pa_cons (pe_fld (pv 0) rfl) pa_nil))), ⟨_, rfl, r, C, dx, _, _, rfl, hr', T.cl, T.no _ (by simp), hv, pd, kvs, rfl, .inl hd, z⟩⟩
end
end KD

set_option Elab.async false
set_option linter.all false
set_option maxRecDepth 100000
set_option maxHeartbeats 1000000
/-! rules compared by ==. -/
namespace KD
open PySem PySem.Spec PyProof.Rows L2 Oo Gd Am KA SqX
/-- v is nothing of the class at C -/
def NotC (K : W.Frag) (C : Addr) (H : Hp) (v : V) : Prop := ∃ t, TyX K H v t ∧ W.kitOne K t (.ref C) = some false
section
variable {P : Program} {w : World} {K : W.Frag} {mg : Str → Option Value} {base : Heap} {f A C : Addr} {fd : FuncData} {t t2 t3 : Tok}
def spEqL (K : W.Frag) (C : Addr) : Sp := fun vs H Q _ => ∃ (r : Addr) (v : V) (fs ws : List Str), vs = [.ref r, v] ∧ IsL C H r fs ws ∧ Few fs ∧ Few ws ∧
  ((∃ r2 fs2 ws2, v = .ref r2 ∧ IsL C H r2 fs2 ws2 ∧ Few fs2 ∧ Few ws2 ∧ Q (.bl (decide (fs = fs2) && decide (ws = ws2))) H) ∨ (NotC K C H v ∧ Q (.bl false) H))
theorem scEqL : FnScope ["self", "other"] ["self", "other"] (defScope (lo 5)) := ⟨rfl, rfl, rfl, by decide +kernel, rfl, by decide +kernel, by decide +kernel⟩
theorem ok_eqL (fr : Frees mg) (T : ClR K C) (I : C8.InsC K C) (mC : mg "Loose" = some (.ref C)) (F : Fun K "__eq__" "Loose.__eq__" (lo 5) f fd) : FnOk P w K mg base CX0 1 f fd ["self", "other"] (spEqL K C) := by
  refine F.ok scEqL (fun vs H Q E h => ?_) (fun cdv A' outer s H vs Q E hr h => ?_)
  · obtain ⟨r, v, fs, ws, rfl, _⟩ := h
    rfl
  · obtain ⟨r, v, fs, ws, rfl, ⟨dx, pf, pw, hi, hf, hw⟩, ff, fw, hv⟩ := h
    have isk : IsK K := ⟨trivial⟩
    refine ⟨_, pss_one (ps_ret (pe_and (pe_callB call_isi rfl (fr.h _ (by decide +kernel)) (by decide +kernel) (pa_cons (pv 1) (pa_cons (pe_glob (v := V.ref C) rfl mC rfl) pa_nil)))
      (pe_and (pe_cmpR (eqK isk hr) (pe_fld (pv 0) rfl) (pe_fld (pv 1) rfl) (by rfl)) (pe_one (pe_cmpR (eqK isk hr) (pe_fld (pv 0) rfl) (pe_fld (pv 1) rfl) (by rfl)))))), ?_⟩
    rcases hv with ⟨r2, fs2, ws2, rfl, ⟨dy, qf, qw, hi2, hf2, hw2⟩, ff2, fw2, z⟩ | ⟨⟨t, ty, kt⟩, z⟩
    · refine ⟨_, rfl, _, _, _, _, true, rfl, ClsV.own C, TyX.base (TyOf.ins hi2 I.cl I.ha I.hn I.htk I.hm), I.me, true, rfl, ?_⟩
      refine ⟨_, rfl, r, C, dx, _, _, rfl, hi, T.cl, T.no _ (by simp), rfl, _, rfl, r2, C, dy, _, _, rfl, hi2, T.cl, T.no _ (by simp), rfl, .inr (eq_tup hf hf2 ff.1 ff2.1 ⟨_, rfl, ?_⟩)⟩
      by_cases e : fs = fs2
      · rw [decide_eq_true e]
        rw [decide_eq_true e, Bool.true_and] at z
        exact ⟨_, rfl, r, C, dx, _, _, rfl, hi, T.cl, T.no _ (by simp), rfl, _, rfl, r2, C, dy, _, _, rfl, hi2, T.cl, T.no _ (by simp), rfl, .inr (eq_tup hw hw2 fw.1 fw2.1 z)⟩
      · rw [decide_eq_false e]
        rw [decide_eq_false e, Bool.false_and] at z
        exact z
    · exact ⟨_, rfl, _, _, _, _, false, rfl, ClsV.own C, ty, kt, false, rfl, z⟩
def spEqP (K : W.Frag) (A C : Addr) : Sp := fun vs H Q _ => ∃ (r : Addr) (v : V) (q : Rat) (ls rs fs ws : List Str), vs = [.ref r, v] ∧ IsP A C H r q ls rs fs ws ∧ Few ls ∧ Few rs ∧ Few ws ∧
  ((∃ r2 q2 ls2 rs2 fs2 ws2, v = .ref r2 ∧ IsP A C H r2 q2 ls2 rs2 fs2 ws2 ∧ Few ls2 ∧ Few rs2 ∧ Few ws2 ∧ Q (.bl (decide (ls = ls2) && (decide (rs = rs2) && (decide (q = q2) && decide (ws = ws2))))) H) ∨ (NotC K C H v ∧ Q (.bl false) H))
theorem scEqP : FnScope ["self", "other"] ["self", "other"] (defScope (pro 9)) := ⟨rfl, rfl, rfl, by decide +kernel, rfl, by decide +kernel, by decide +kernel⟩
theorem ok_eqP (fr : Frees mg) (T : ClR K C) (I : C8.InsC K C) (EF : EqF P w K mg base A) (mC : mg "Product" = some (.ref C)) (F : Fun K "__eq__" "Product.__eq__" (pro 9) f fd) : FnOk P w K mg base CX0 3 f fd ["self", "other"] (spEqP K A C) := by
  refine F.ok scEqP (fun vs H Q E h => ?_) (fun cdv A' outer s H vs Q E hr h => ?_)
  · obtain ⟨r, v, q, ls, rs, fs, ws, rfl, _⟩ := h
    rfl
  · obtain ⟨r, v, q, ls, rs, fs, ws, rfl, ⟨dx, pt, pl, pr, pf, pw, hi, ht, hl, hrr, hf, hw⟩, fl, frs, fw, hv⟩ := h
    have isk : IsK K := ⟨trivial⟩
    refine ⟨_, pss_one (ps_ret (pe_and (pe_callB call_isi rfl (fr.h _ (by decide +kernel)) (by decide +kernel) (pa_cons (pv 1) (pa_cons (pe_glob (v := V.ref C) rfl mC rfl) pa_nil)))
      (pe_and (pe_cmpR (eqK isk hr) (pe_fld (pv 0) rfl) (pe_fld (pv 1) rfl) (by rfl)) (pe_and (pe_cmpR (eqK isk hr) (pe_fld (pv 0) rfl) (pe_fld (pv 1) rfl) (by rfl)) (pe_and (pe_cmpR (op_eqO (k := 0) EF (hr.mono (by decide))) (pe_fld (pv 0) rfl) (pe_fld (pv 1) rfl) (by rfl)) (pe_one (pe_cmpR (eqK isk hr) (pe_fld (pv 0) rfl) (pe_fld (pv 1) rfl) (by rfl)))))))), ?_⟩
    rcases hv with ⟨r2, q2, ls2, rs2, fs2, ws2, rfl, ⟨dy, qt, ql, qr, qf, qw, hi2, ht2, hl2, hr2, hf2, hw2⟩, fl2, frs2, fw2, z⟩ | ⟨⟨t, ty, kt⟩, z⟩
    · refine ⟨_, rfl, _, _, _, _, true, rfl, ClsV.own C, TyX.base (TyOf.ins hi2 I.cl I.ha I.hn I.htk I.hm), I.me, true, rfl, ?_⟩
      refine ⟨_, rfl, r, C, dx, _, _, rfl, hi, T.cl, T.no _ (by simp), rfl, _, rfl, r2, C, dy, _, _, rfl, hi2, T.cl, T.no _ (by simp), rfl, .inr (eq_tup hl hl2 fl.1 fl2.1 ⟨_, rfl, ?_⟩)⟩
      by_cases e : ls = ls2
      · rw [decide_eq_true e]
        rw [decide_eq_true e, Bool.true_and] at z
        refine ⟨_, rfl, r, C, dx, _, _, rfl, hi, T.cl, T.no _ (by simp), rfl, _, rfl, r2, C, dy, _, _, rfl, hi2, T.cl, T.no _ (by simp), rfl, .inr (eq_tup hrr hr2 frs.1 frs2.1 ⟨_, rfl, ?_⟩)⟩
        by_cases e2 : rs = rs2
        · rw [decide_eq_true e2]
          rw [decide_eq_true e2, Bool.true_and] at z
          refine ⟨_, rfl, r, C, dx, _, _, rfl, hi, T.cl, T.no _ (by simp), rfl, _, rfl, r2, C, dy, _, _, rfl, hi2, T.cl, T.no _ (by simp), rfl, pt, qt, q, q2, rfl, rfl, ht, ht2, _, rfl, ?_⟩
          by_cases e3 : q = q2
          · rw [decide_eq_true e3]
            rw [decide_eq_true e3, Bool.true_and] at z
            exact ⟨_, rfl, r, C, dx, _, _, rfl, hi, T.cl, T.no _ (by simp), rfl, _, rfl, r2, C, dy, _, _, rfl, hi2, T.cl, T.no _ (by simp), rfl, .inr (eq_tup hw hw2 fw.1 fw2.1 z)⟩
          · rw [decide_eq_false e3]
            rw [decide_eq_false e3, Bool.false_and] at z
            exact z
        · rw [decide_eq_false e2]
          rw [decide_eq_false e2, Bool.false_and] at z
          exact z
      · rw [decide_eq_false e]
        rw [decide_eq_false e, Bool.false_and] at z
        exact z
    · exact ⟨_, rfl, _, _, _, _, false, rfl, ClsV.own C, ty, kt, false, rfl, z⟩
def spEqT (K : W.Frag) (A C : Addr) : Sp := fun vs H Q _ => ∃ (r : Addr) (v : V) (q : Rat) (ls : List (Str × Int)) (fs ws : List Str), vs = [.ref r, v] ∧ IsT A C H r q ls fs ws ∧ Few ws ∧
  ((∃ r2 q2 ls2 fs2 ws2, v = .ref r2 ∧ IsT A C H r2 q2 ls2 fs2 ws2 ∧ Few ws2 ∧ Q (.bl (eqW ls ls2 && (decide (q = q2) && decide (ws = ws2)))) H) ∨ (NotC K C H v ∧ Q (.bl false) H))
theorem scEqT : FnScope ["self", "other"] ["self", "other"] (defScope (tot 9)) := ⟨rfl, rfl, rfl, by decide +kernel, rfl, by decide +kernel, by decide +kernel⟩
theorem ok_eqT (fr : Frees mg) (T : ClR K C) (I : C8.InsC K C) (EF : EqF P w K mg base A) (mC : mg "Total" = some (.ref C)) (F : Fun K "__eq__" "Total.__eq__" (tot 9) f fd) : FnOk P w K mg base CX0 3 f fd ["self", "other"] (spEqT K A C) := by
  refine F.ok scEqT (fun vs H Q E h => ?_) (fun cdv A' outer s H vs Q E hr h => ?_)
  · obtain ⟨r, v, q, ls, fs, ws, rfl, _⟩ := h
    rfl
  · obtain ⟨r, v, q, ls, fs, ws, rfl, ⟨dx, pt, pf, pd, pw, hi, ht, hf, hd, hw⟩, fw, hv⟩ := h
    have isk : IsK K := ⟨trivial⟩
    have hu := hu_of hr
    refine ⟨_, pss_one (ps_ret (pe_and (pe_callB call_isi rfl (fr.h _ (by decide +kernel)) (by decide +kernel) (pa_cons (pv 1) (pa_cons (pe_glob (v := V.ref C) rfl mC rfl) pa_nil)))
      (pe_and (pe_cmpR (op_eqW hu) (pe_fld (pv 0) rfl) (pe_fld (pv 1) rfl) (by rfl)) (pe_and (pe_cmpR (op_eqO (k := 0) EF (hr.mono (by decide))) (pe_fld (pv 0) rfl) (pe_fld (pv 1) rfl) (by rfl)) (pe_one (pe_cmpR (eqK isk hr) (pe_fld (pv 0) rfl) (pe_fld (pv 1) rfl) (by rfl))))))), ?_⟩
    rcases hv with ⟨r2, q2, ls2, fs2, ws2, rfl, ⟨dy, qt, qf, qd, qw, hi2, ht2, hf2, hd2, hw2⟩, fw2, z⟩ | ⟨⟨t, ty, kt⟩, z⟩
    · refine ⟨_, rfl, _, _, _, _, true, rfl, ClsV.own C, TyX.base (TyOf.ins hi2 I.cl I.ha I.hn I.htk I.hm), I.me, true, rfl, ?_⟩
      refine ⟨_, rfl, r, C, dx, _, _, rfl, hi, T.cl, T.no _ (by simp), rfl, _, rfl, r2, C, dy, _, _, rfl, hi2, T.cl, T.no _ (by simp), rfl, pd, qd, ls, ls2, rfl, rfl, hd, hd2, _, rfl, ?_⟩
      cases e : eqW ls ls2 with
      | true =>
        rw [e, Bool.true_and] at z
        refine ⟨_, rfl, r, C, dx, _, _, rfl, hi, T.cl, T.no _ (by simp), rfl, _, rfl, r2, C, dy, _, _, rfl, hi2, T.cl, T.no _ (by simp), rfl, pt, qt, q, q2, rfl, rfl, ht, ht2, _, rfl, ?_⟩
        by_cases e3 : q = q2
        · rw [decide_eq_true e3]
          rw [decide_eq_true e3, Bool.true_and] at z
          exact ⟨_, rfl, r, C, dx, _, _, rfl, hi, T.cl, T.no _ (by simp), rfl, _, rfl, r2, C, dy, _, _, rfl, hi2, T.cl, T.no _ (by simp), rfl, .inr (eq_tup hw hw2 fw.1 fw2.1 z)⟩
        · rw [decide_eq_false e3]
          rw [decide_eq_false e3, Bool.false_and] at z
          exact z
      | false =>
        rw [e, Bool.false_and] at z
        exact z
    · exact ⟨_, rfl, _, _, _, _, false, rfl, ClsV.own C, ty, kt, false, rfl, z⟩
end
end KD

set_option Elab.async false
set_option linter.all false
set_option maxRecDepth 100000
set_option maxHeartbeats 1000000
/-! repr of rules. -/
namespace KD
open PySem PySem.Spec PyProof.Rows L2 Oo Gd Am KA SqX
theorem sok_join {sep : Str} (hs : PyData.strOk sep = true) : ∀ xs : List Str, (∀ x ∈ xs, PyData.strOk x = true) → PyData.strOk (Str.join sep xs) = true
  | [], _ => sok_emp
  | [x], h => h x List.mem_cons_self
  | x :: y :: r, h => sok_app (sok_app (h x List.mem_cons_self) hs) (sok_join hs (y :: r) fun z hz => h z (List.mem_cons_of_mem _ hz))
theorem sok_tjoin {sep : Str} (hs : PyData.strOk sep = true) (xs : List Str) (h : ∀ x ∈ xs, PyData.strOk x = true) : PyData.strOk (Txt.join sep xs) = true := by
  show PyData.strOk (Builtin.Str.glued sep xs) = true
  rw [PySem.StrLaws.glued_eq_join]
  exact sok_join hs xs h
theorem sok_list {x : Str} : PyData.strOk x = true ↔ ∀ c ∈ x.cps.toList, c < 0x110000 := by
  unfold PyData.strOk
  rw [← Array.all_toList, List.all_eq_true]
  constructor
  · intro h c hc
    simpa using h c hc
  · intro h c hc
    simpa using h c hc
theorem sok_cut {x : Str} (h : PyData.strOk x = true) (lo hi : Option Int) : PyData.strOk (cutS x lo hi) = true := by
  rw [sok_list] at h ⊢
  intro c hc
  have h1 : c ∈ ((x.cps.toList.drop (HT.sIx x.length 0 lo)).take (HT.sIx x.length x.length hi - HT.sIx x.length 0 lo)).toArray.toList := hc
  rw [List.toList_toArray] at h1
  exact h c (List.mem_of_mem_drop (List.mem_of_mem_take h1))
theorem rep_len {x : Str} (h : PyData.strOk x = true) : (reprText x).length ≤ 10 * x.length + 2 :=
  PySem.StrLaws.reprText_len x fun c hc => Nat.lt_trans (sok_list.mp h c hc) (by decide)
theorem sok_few {xs : List Str} (h : Few xs) : ∀ x ∈ xs, PyData.strOk x = true := fun x hx => name_ok (h.1 x hx)
theorem sok_way {fs ws : List Str} (h : Few ws) : PyData.strOk (wayT fs ws) = true := by
  unfold wayT
  split
  · exact sok_of _
  · exact sok_app (sok_app sok_emp (sok_of _)) (sok_tjoin (sok_of _) _ (sok_few h))
theorem sok_loose {fs ws : List Str} (h : Few fs) (h2 : Few ws) : PyData.strOk (looseT fs ws) = true :=
  sok_app (sok_app (sok_app sok_emp (sok_of _)) (sok_tjoin (sok_of _) _ (sok_few h))) (sok_way h2)
theorem sok_left {ls : List Str} (h : Few ls) : PyData.strOk (leftT ls) = true := by
  unfold leftT
  split
  · exact sok_of _
  · exact sok_tjoin (sok_of _) _ (sok_few h)
theorem sok_right {rs : List Str} (h : Few rs) : PyData.strOk (rightT rs) = true := by
  unfold rightT
  refine sok_tjoin (sok_of _) _ fun y hy => ?_
  obtain ⟨x, hx, rfl⟩ := List.mem_map.mp hy
  exact sok_app (sok_app sok_emp (sok_of _)) (name_ok (h.1 x hx))
theorem sok_prod {q : Rat} {ls rs fs ws : List Str} (h1 : Few ls) (h2 : Few rs) (h3 : Few ws) : PyData.strOk (prodT q ls rs fs ws) = true :=
  sok_app (sok_app (sok_app (sok_app (sok_app (sok_app sok_emp (sok_of _)) (sok_left h1)) (sok_of _)) (sok_written q)) (sok_right h2)) (sok_way h3)
theorem sok_term {x : Str} {n : Int} (h : nameB x = true) : PyData.strOk (termT x n) = true := by
  have s : PyData.strOk (sgnT n) = true := by
    unfold sgnT
    split <;> exact sok_of _
  unfold termT
  by_cases e : (if n < 0 then -n else n) = 1
  · rw [if_pos e]
    exact sok_app (sok_app (sok_app sok_emp s) (sok_of _)) (name_ok h)
  · rw [if_neg e]
    exact sok_app (sok_app (sok_app (sok_app (sok_app sok_emp s) (sok_of _)) (sok_of _)) (sok_of _)) (name_ok h)
theorem sok_head {s : Str} (h : PyData.strOk s = true) : PyData.strOk (headT s) = true := by
  unfold headT
  split
  · exact sok_app (sok_app sok_emp (sok_of _)) (sok_cut h _ _)
  · exact sok_cut h _ _
theorem sok_sum {q : Rat} {ls : List (Str × Int)} {fs ws : List Str} (h1 : Few fs) (h3 : Few ws) : PyData.strOk (sumT q ls fs ws) = true := by
  refine sok_app (sok_app (sok_app (sok_app (sok_app sok_emp (sok_of _)) (sok_head ?_)) (sok_of _)) (sok_written q)) (sok_way h3)
  refine sok_tjoin (sok_of _) _ fun y hy => ?_
  obtain ⟨x, hx, rfl⟩ := List.mem_map.mp hy
  exact sok_term (h1.1 x hx)
theorem looseT_len {fs ws : List Str} (h : Few fs) (h2 : Few ws) : (looseT fs ws).length ≤ 5000 := by
  have l2 := h.join
  have l3 := h.2
  have l4 := wayT_len (fs := fs) h2
  have k6 : (Str.ofString "loose ").length = 6 := by decide
  unfold looseT
  simp only [strLen_append, k0, k6]
  omega
/-- what repr gives of a rule with the text x -/
def ruleT (x : Str) : Str := Str.empty ++ "Rule(" ++ reprText x ++ ")"
theorem ruleT_len {x : Str} (h : PyData.strOk x = true) (l : x.length ≤ 30000) : (ruleT x).length ≤ 300020 := by
  have a := rep_len h
  have k5 : (Str.ofString "Rule(").length = 5 := by decide
  have k1 : (Str.ofString ")").length = 1 := by decide
  unfold ruleT
  simp only [strLen_append, k0, k5, k1]
  omega
/-- a method of no argument, with its promise -/
structure Mt0 (P : Program) (w : World) (K : W.Frag) (mg : Str → Option Value) (base : Heap) (C : Addr) (nm : Str) (k : Nat) (sp : Sp) : Prop where
  of : ∃ f fd, Meth K C nm f ∧ FnOk P w K mg base CX0 k f fd ["self"] sp ∧ Binds K fd ["self"] []
section
variable {P : Program} {w : World} {K : W.Frag} {mg : Str → Option Value} {base : Heap} {f A C : Addr} {fd : FuncData} {t t2 t3 : Tok}
def spRpL (C : Addr) : Sp := fun vs H Q _ => ∃ (r : Addr) (fs ws : List Str), vs = [.ref r] ∧ IsL C H r fs ws ∧ Few fs ∧ Few ws ∧ ∀ H', Am.Ext H H' → Q (.str (ruleT (looseT fs ws))) H'
theorem scRpL : FnScope ["self"] ["self"] (defScope (lo 6)) := ⟨rfl, rfl, rfl, by decide +kernel, rfl, by decide +kernel, by decide +kernel⟩
theorem ok_rpL (T : ClR K C) (M : Mt0 P w K mg base C "text" 2 (spTxL C)) (F : Fun K "__repr__" "Loose.__repr__" (lo 6) f fd) : FnOk P w K mg base CX0 3 f fd ["self"] (spRpL C) := by
  refine F.ok scRpL (fun vs H Q E h => ?_) (fun cdv A' outer s H vs Q E hr h => ?_)
  · obtain ⟨r, fs, ws, rfl, _⟩ := h
    rfl
  · obtain ⟨r, fs, ws, rfl, ⟨dx, pf, pw, hi, hf, hw⟩, ff, fw, z⟩ := h
    obtain ⟨mf, mfd, MM, MF, MB⟩ := M.of
    have big : (1000000 : Nat) ≤ sizeLine := by decide
    refine ⟨_, pss_one (ps_ret (pe_joined (.cons pe_str (.cons (pe_fmtR (pe_meth0 (pv 0) T.cl MM MF (hr.mono (by decide)) MB .nil pass0)) (.cons pe_str .nil))))), ?_⟩
    have so := sok_loose (fs := fs) ff fw
    have lt := looseT_len ff fw
    have rl := rep_len so
    have k5 : (Str.ofString "Rule(").length = 5 := by decide
    have k6 : (Str.ofString ")").length = 1 := by decide
    refine ⟨_, rfl, ?_, _, rfl, r, dx, _, rfl, hi, rfl, r, fs, ws, rfl, ⟨dx, pf, pw, hi, hf, hw⟩, ff, fw, ?_⟩
    · simp only [strLen_append, k0, k5]; omega
    · refine .inl ⟨_, rfl, by omega, _, rfl, ?_, _, rfl, ?_, z H (Am.Ext.refl H)⟩ <;> (simp only [strLen_append, k0, k5, k6]; omega)
def spRpP (A C : Addr) : Sp := fun vs H Q _ => ∃ (r : Addr) (q : Rat) (ls rs fs ws : List Str), vs = [.ref r] ∧ IsP A C H r q ls rs fs ws ∧ Low 250 q ∧ Few ls ∧ Few rs ∧ Few fs ∧ Few ws ∧ ∀ H', Am.Ext H H' → Q (.str (ruleT (prodT q ls rs fs ws))) H'
theorem scRpP : FnScope ["self"] ["self"] (defScope (pro 10)) := ⟨rfl, rfl, rfl, by decide +kernel, rfl, by decide +kernel, by decide +kernel⟩
theorem ok_rpP (T : ClR K C) (M : Mt0 P w K mg base C "text" 4 (spTxP A C)) (F : Fun K "__repr__" "Product.__repr__" (pro 10) f fd) : FnOk P w K mg base CX0 5 f fd ["self"] (spRpP A C) := by
  refine F.ok scRpP (fun vs H Q E h => ?_) (fun cdv A' outer s H vs Q E hr h => ?_)
  · obtain ⟨r, q, ls, rs, fs, ws, rfl, _⟩ := h
    rfl
  · obtain ⟨r, q, ls, rs, fs, ws, rfl, ⟨dx, pt, pl, pr, pf, pw, hi, ht, hl, hrr, hf, hw⟩, lw, fl, frs, ff, fw, z⟩ := h
    obtain ⟨mf, mfd, MM, MF, MB⟩ := M.of
    have big : (1000000 : Nat) ≤ sizeLine := by decide
    refine ⟨_, pss_one (ps_ret (pe_joined (.cons pe_str (.cons (pe_fmtR (pe_meth0 (pv 0) T.cl MM MF (hr.mono (by decide)) MB .nil pass0)) (.cons pe_str .nil))))), ?_⟩
    have so := sok_prod (q := q) (fs := fs) fl frs fw
    have lt := prodT_len (q := q) (fs := fs) lw fl frs fw
    have rl := rep_len so
    have k5 : (Str.ofString "Rule(").length = 5 := by decide
    have k6 : (Str.ofString ")").length = 1 := by decide
    refine ⟨_, rfl, ?_, _, rfl, r, dx, _, rfl, hi, rfl, r, q, ls, rs, fs, ws, rfl, ⟨dx, pt, pl, pr, pf, pw, hi, ht, hl, hrr, hf, hw⟩, lw, fl, frs, ff, fw, ?_⟩
    · simp only [strLen_append, k0, k5]; omega
    · intro H' e
      refine .inl ⟨_, rfl, by omega, _, rfl, ?_, _, rfl, ?_, z H' e⟩ <;> (simp only [strLen_append, k0, k5, k6]; omega)
def spRpT (A C : Addr) : Sp := fun vs H Q _ => ∃ (r : Addr) (q : Rat) (ls : List (Str × Int)) (fs ws : List Str), vs = [.ref r] ∧ IsT A C H r q ls fs ws ∧ Low 250 q ∧ Wts ls ∧ (∀ x ∈ fs, x ∈ ls.map (·.1)) ∧ Few fs ∧ Few ws ∧ ∀ H', Am.Ext H H' → Q (.str (ruleT (sumT q ls fs ws))) H'
theorem scRpT : FnScope ["self"] ["self"] (defScope (tot 10)) := ⟨rfl, rfl, rfl, by decide +kernel, rfl, by decide +kernel, by decide +kernel⟩
theorem ok_rpT (T : ClR K C) (M : Mt0 P w K mg base C "text" 4 (spTxT A C)) (F : Fun K "__repr__" "Total.__repr__" (tot 10) f fd) : FnOk P w K mg base CX0 5 f fd ["self"] (spRpT A C) := by
  refine F.ok scRpT (fun vs H Q E h => ?_) (fun cdv A' outer s H vs Q E hr h => ?_)
  · obtain ⟨r, q, ls, fs, ws, rfl, _⟩ := h
    rfl
  · obtain ⟨r, q, ls, fs, ws, rfl, ⟨dx, pt, pf, pd, pw, hi, ht, hf, hd, hw⟩, lw, wl, sub, ff, fw, z⟩ := h
    obtain ⟨mf, mfd, MM, MF, MB⟩ := M.of
    have big : (1000000 : Nat) ≤ sizeLine := by decide
    refine ⟨_, pss_one (ps_ret (pe_joined (.cons pe_str (.cons (pe_fmtR (pe_meth0 (pv 0) T.cl MM MF (hr.mono (by decide)) MB .nil pass0)) (.cons pe_str .nil))))), ?_⟩
    have so := sok_sum (q := q) (ls := ls) ff fw
    have lt := sumT_len (q := q) lw ff wl sub fw
    have rl := rep_len so
    have k5 : (Str.ofString "Rule(").length = 5 := by decide
    have k6 : (Str.ofString ")").length = 1 := by decide
    refine ⟨_, rfl, ?_, _, rfl, r, dx, _, rfl, hi, rfl, r, q, ls, fs, ws, rfl, ⟨dx, pt, pf, pd, pw, hi, ht, hf, hd, hw⟩, lw, wl, sub, ff, fw, ?_⟩
    · simp only [strLen_append, k0, k5]; omega
    · intro H' e
      refine .inl ⟨_, rfl, by omega, _, rfl, ?_, _, rfl, ?_, z H' e⟩ <;> (simp only [strLen_append, k0, k5, k6]; omega)
end
end KD

set_option Elab.async false
set_option linter.all false
set_option maxRecDepth 100000
set_option maxHeartbeats 1000000
/-! names drawn: texts by their signs. -/
namespace KD
open PySem PySem.Spec PyProof.Rows L2 Oo Gd Am KA SqX
/-- a text of these signs -/
def mk (l : List Nat) : Str := ⟨l.toArray⟩
theorem mk_sg (l : List Nat) : sg (mk l) = l := by simp [mk]
theorem mk_len (l : List Nat) : (mk l).length = l.length := List.size_toArray ..
theorem of_sg (x : Str) : mk (sg x) = x := by
  cases x with
  | mk a => exact congrArg Str.mk (Array.toArray_toList ..)
theorem mk_app (a b : List Nat) : mk a ++ mk b = mk (a ++ b) := by
  show Str.mk (a.toArray ++ b.toArray) = Str.mk _
  rw [List.append_toArray]
theorem mk_one (c : Nat) : (⟨#[c]⟩ : Str) = mk [c] := rfl
theorem join_mk : ∀ cs : List Nat, Txt.join "" (cs.map fun c => (⟨#[c]⟩ : Str)) = mk cs := by
  have e : ∀ xs, Txt.join "" xs = Str.join "" xs := fun xs => PySem.StrLaws.glued_eq_join _ xs
  intro cs
  rw [e]
  induction cs with
  | nil => rfl
  | cons c r ih =>
    cases r with
    | nil => rfl
    | cons d r =>
      show (⟨#[c]⟩ : Str) ++ Str.ofString "" ++ Str.join "" ((d :: r).map fun c => (⟨#[c]⟩ : Str)) = _
      rw [ih]
      show (⟨#[c]⟩ : Str) ++ mk [] ++ mk (d :: r) = _
      rw [mk_one, mk_app, mk_app]
      rfl
theorem cut6 (l : List Nat) : cutS (mk l) none (some 6) = mk (l.take 6) := by
  show Str.mk ((((mk l).cps.toList.drop (HT.sIx (mk l).length 0 none)).take (HT.sIx (mk l).length (mk l).length (some 6) - HT.sIx (mk l).length 0 none)).toArray) = _
  rw [HT.sIx_none, show (some (6 : Int)) = some ((6 : Nat) : Int) from rfl, HT.sIx_nat, show (mk l).cps.toList = l from mk_sg l, mk_len, List.drop_zero, Nat.sub_zero]
  show mk _ = mk _
  congr 1
  by_cases h : 6 ≤ l.length
  · rw [Nat.min_eq_left h]
  · rw [Nat.min_eq_right (by omega), List.take_of_length_le (Nat.le_refl _), List.take_of_length_le (by omega)]
theorem name_mk {l : List Nat} : nameB (mk l) = true ↔ ∃ c r, l = c :: r ∧ r.length ≤ 7 ∧ low c = true ∧ ∀ d ∈ r, nsg d = true := by
  unfold nameB
  rw [mk_len, mk_sg]
  simp only [Bool.and_eq_true, decide_eq_true_eq, List.all_eq_true]
  constructor
  · rintro ⟨h1, h2, h3, h4⟩
    cases l with
    | nil => simp at h1
    | cons c r => exact ⟨c, r, rfl, by simp at h2; omega, h3, fun d hd => h4 d (List.mem_cons_of_mem _ hd)⟩
  · rintro ⟨c, r, rfl, h2, h3, h4⟩
    refine ⟨by simp, by simp; omega, h3, fun d hd => ?_⟩
    rcases List.mem_cons.mp hd with rfl | hd
    · unfold low at h3
      unfold nsg
      simp only [decide_eq_true_eq] at h3 ⊢
      omega
    · exact h4 d hd
theorem name_sg {x : Str} (h : nameB x = true) : ∃ c r, x = mk (c :: r) ∧ r.length ≤ 7 ∧ low c = true ∧ ∀ d ∈ r, nsg d = true := by
  rw [← of_sg x] at h
  obtain ⟨c, r, e, h1⟩ := name_mk.mp h
  exact ⟨c, r, by rw [← e, of_sg], h1⟩
theorem low_nsg {c : Nat} (h : low c = true) : nsg c = true := by
  unfold low at h
  unfold nsg
  simp only [decide_eq_true_eq] at h ⊢
  omega
/-- the 36 signs -/
def alpha : List Nat := List.range' 97 26 ++ List.range' 48 10
theorem alpha_eq : sg "abcdefghijklmnopqrstuvwxyz0123456789" = alpha := by decide +kernel
theorem alpha_nsg : ∀ c ∈ alpha, nsg c = true := by decide +kernel
theorem alpha_low : ∀ i, i < 26 → ∃ c, alpha[i]? = some c ∧ low c = true := by decide +kernel
theorem alpha_len : alpha.length = 36 := by decide +kernel
theorem alpha_at : ∀ i, i < 36 → ∃ c, alpha[i]? = some c := fun i h => ⟨alpha[i]'(by rw [alpha_len]; exact h), List.getElem?_eq_getElem _⟩
theorem alpha_nd : alpha.Nodup := by decide +kernel
/-- a name's near ones -/
def nearS (x : Str) (c : Nat) : Str := cutS x none (some 6) ++ (⟨#[c]⟩ : Str) ++ "z"
theorem near_mk (l : List Nat) (c : Nat) : nearS (mk l) c = mk (l.take 6 ++ [c] ++ [122]) := by
  unfold nearS
  rw [cut6, mk_one, show (Str.ofString "z") = mk [122] from by decide, mk_app, mk_app]
theorem near_name {x : Str} {c : Nat} (h : nameB x = true) (hc : nsg c = true) : nameB (nearS x c) = true := by
  obtain ⟨a, r, rfl, l7, la, lr⟩ := name_sg h
  rw [near_mk, name_mk]
  refine ⟨a, r.take 5 ++ [c] ++ [122], rfl, ?_, la, fun d hd => ?_⟩
  · simp only [List.length_append, List.length_take, List.length_cons, List.length_nil]
    omega
  · rw [List.mem_append, List.mem_append] at hd
    rcases hd with (hd | hd) | hd
    · exact lr d (List.mem_of_mem_take hd)
    · rw [List.mem_singleton] at hd
      rw [hd]; exact hc
    · rw [List.mem_singleton] at hd
      rw [hd]; decide
theorem near_inj {x : Str} {c d : Nat} (e : nearS x c = nearS x d) : c = d := by
  rw [← of_sg x, near_mk, near_mk] at e
  have e2 := congrArg sg e
  rw [mk_sg, mk_sg, List.append_assoc, List.append_assoc] at e2
  have e3 := List.append_cancel_left e2
  injection e3
theorem near_len {x : Str} {c : Nat} (h : nameB x = true) (hc : nsg c = true) : (nearS x c).length ≤ 8 := (name_len (near_name h hc)).2
theorem sub_len : ∀ (l m : List Str), l.Nodup → (∀ x ∈ l, x ∈ m) → l.length ≤ m.length
  | [], _, _, _ => Nat.zero_le _
  | x :: r, m, nd, sub => by
    have hx := sub x List.mem_cons_self
    have nr := List.nodup_cons.mp nd
    have := sub_len r (m.erase x) nr.2 fun y hy => (List.mem_erase_of_ne (fun e => nr.1 (by rw [← e]; exact hy))).mpr (sub y (List.mem_cons_of_mem _ hy))
    rw [List.length_erase_of_mem hx] at this
    have pos : 0 < m.length := List.length_pos_of_mem hx
    rw [List.length_cons]
    omega
/-- all that may be taken for it -/
def spares (x : Str) : List Str := [x] ++ alpha.map (nearS x)
theorem spare_names {x : Str} (h : nameB x = true) : ∀ y ∈ spares x, nameB y = true := by
  intro y hy
  rcases List.mem_append.mp hy with hy | hy
  · rw [List.mem_singleton] at hy
    rw [hy]; exact h
  · obtain ⟨c, hc, rfl⟩ := List.mem_map.mp hy
    exact near_name h (alpha_nsg c hc)
theorem spare_left {x : Str} {found : List Str} (hf : found.length ≤ 35) : ∃ y r, (spares x).filter (fun s => decide (s ∉ found)) = y :: r := by
  cases e : (spares x).filter (fun s => decide (s ∉ found)) with
  | cons y r => exact ⟨y, r, rfl⟩
  | nil =>
    exfalso
    have nd : (alpha.map (nearS x)).Nodup := List.Pairwise.map _ (fun a b h e => h (near_inj e)) alpha_nd
    have sub : ∀ y ∈ alpha.map (nearS x), y ∈ found := fun y hy => by
      by_cases q : y ∈ found
      · exact q
      · exfalso
        have : y ∈ (spares x).filter (fun s => decide (s ∉ found)) := List.mem_filter.mpr ⟨List.mem_append_right _ hy, by simpa using q⟩
        rw [e] at this
        cases this
    have := sub_len _ _ nd sub
    rw [List.length_map, show alpha.length = 36 from by decide +kernel] at this
    omega
end KD

set_option Elab.async false
set_option linter.all false
set_option maxRecDepth 100000
set_option maxHeartbeats 2000000
/-! _law_named. -/
namespace KD
open PySem PySem.Spec PyProof.Rows L2 Oo Gd Am KA SqX
section
variable {P : Program} {w : World} {K : W.Frag} {mg : Str → Option Value} {base : Heap} {f A C : Addr} {fd : FuncData} {t t2 t3 : Tok}
def spNamed (K : W.Frag) : Sp := fun vs H Q _ => ∃ (p : Addr) (n : Int) (tk : Addr) (ts : List Str), vs = [.ref p, .int n, .ref tk] ∧ Pot H p ∧ 0 ≤ n ∧ n ≤ 30 ∧ H tk = some (.lst (ts.map V.str)) ∧ ts.length ≤ 5 ∧
  ∀ (D : Addr) (H' : Hp) (xs : List Str), Kp p H H' → H D = none → D ≠ p → H' D = some (.lst (xs.map V.str)) → Nms xs → (xs.length : Int) = n → (∀ x ∈ xs, x ∉ ts) → Q (.ref D) H'
abbrev nNm : List Str := ["_law_pot_here", "_law_size", "_law_taken", "_law_signs", "_law_found", "_law_turn", "_law_label", "_law_spare", "_law_step", "_law_letter", "_law_near"]
theorem scNm : FnScope nNm ["_law_pot_here", "_law_size", "_law_taken"] (defScope (top 53)) := ⟨rfl, rfl, rfl, by decide +kernel, rfl, by decide +kernel, by decide +kernel⟩
abbrev words8 : List Str := ["by", "sum", "loose", "product", "rule", "field", "set", "kept"]
theorem words_ok : ∀ x ∈ words8, nameB x = true := by decide +kernel
theorem ok_named (fr : Frees mg) (D1 : DnD P w K mg base) (DP : DnP P w K mg base) (F : Fun K "_law_named" "_law_named" (top 53) f fd) : FnOk P w K mg base CX0 3 f fd ["_law_pot_here", "_law_size", "_law_taken"] (spNamed K) := by
  refine F.ok scNm (fun vs H Q E h => ?_) (fun cdv A' outer s H vs Q E hr h => ?_)
  · obtain ⟨p, n, tk, ts, rfl, _⟩ := h
    rfl
  · obtain ⟨p, n, tk, ts, rfl, hp, n0, n30, ht, lts, z⟩ := h
    have nd := scNm.nd
    have isk : IsK K := ⟨trivial⟩
    have big : (1000000 : Nat) ≤ sizeLine := by decide
    refine ⟨_, pss_cons (ps_asg (pe_tup (pa_cons pe_str (pa_cons (pe_lst pa_nil) pa_nil))) (pg_tup rfl (pgs_cons (pg_name (i := 3) nd rfl (.inr rfl)) (pgs_cons (pg_name (i := 4) nd rfl (.inr rfl)) pgs_nil))))
      (pss_cons (ps_for PassesOwn.never rfl (pi_range1 rfl (fr.h _ (by decide +kernel)) (pa_cons (pv 1) pa_nil)) (pg_name (i := 5) nd rfl (.inl rfl))
        (pss_cons (ps_set (i := 6) nd rfl (.inr rfl) (pe_dn DP hr (by rfl) (by decide) (pa_cons (pv 0) (pa_cons (pe_lst (pa_cons pe_str (pa_cons pe_str (pa_cons pe_str (pa_cons pe_str (pa_cons pe_str (pa_cons pe_str (pa_cons pe_str (pa_cons pe_str pa_nil))))))))) pa_nil))))
        (C8.pss_cut (ps_if (pt_cmpR op_gt (pe_dn D1 hr (by rfl) (by decide) (pa_cons (pv 0) (pa_cons pe_int pa_nil))) pe_int (nomark _))
            (pss_cons (ps_set (i := 6) nd rfl (.inr rfl) (pe_ix (ixK isk) (pv 3) (pe_dn D1 hr (by rfl) (by decide) (pa_cons (pv 0) (pa_cons pe_int pa_nil))) (fun _ _ => rfl)))
            (pss_one (ps_set (i := 6) nd rfl (.inr rfl) (pe_op op_addA (pv 6) (joinK isk pe_str (pe_lc (own := [("_law_step", 8)]) (g := gName 8) (tt := tYes) rfl nd (pi_range1 rfl (fr.h _ (by decide +kernel)) (pa_cons (pe_dn DP hr (by rfl) (by decide) (pa_cons (pv 0) (pa_cons (pe_lst (pa_cons pe_int (pa_cons pe_int (pa_cons pe_int (pa_cons pe_int (pa_cons pe_int pa_nil)))))) pa_nil))) pa_nil)) (blkOk_by (N := nNm) (sc := defScope (top 53)) (by decide +kernel)) (fun _ _ _ _ _ => pg_name (i := 8) nd rfl (Or.inl rfl)) (fun _ _ _ _ _ => pts_nil)
              (fun _ _ _ _ _ => pe_ix (ixK isk) (pv 3) (pe_dn D1 hr (by rfl) (by decide) (pa_cons (pv 0) (pa_cons pe_int pa_nil))) (fun _ _ => rfl)))))))) pss_nil)
        (pss_cons (ps_set (i := 7) nd rfl (.inl rfl) (pe_op op_addA (pe_lst (pa_cons (pv 6) pa_nil)) (pe_lc (own := [("_law_letter", 9)]) (g := gName 9) (tt := tYes) rfl nd (pi_str (pv 3)) (blkOk_by (N := nNm) (sc := defScope (top 53)) (by decide +kernel)) (fun _ _ _ _ _ => pg_name (i := 9) nd rfl (Or.inl rfl)) (fun _ _ _ _ _ => pts_nil)
            (fun _ _ _ _ _ => pe_op op_addA (pe_op op_addA (pe_slice sl_str (pv 6) po_none (po_some pe_int)) (pv 9)) pe_str))))
        (pss_one (ps_expr (pe_bm PySem.F.plainAttrs_list PySem.F.slot_list_append PySem.F.type_list_append mt_append (pv 4) (pa_cons (pe_ix (ixK isk) (pe_lc (own := [("_law_near", 10)]) (g := gName 10) rfl nd (pi_list (pv 7)) (blkOk_by (N := nNm) (sc := defScope (top 53)) (by decide +kernel)) (fun _ _ _ _ _ => pg_name (i := 10) nd rfl (Or.inl rfl))
            (fun _ _ _ _ _ => pts_one (PW.pt (pw_and (pt_cmpR (niK isk) (pv 10) (pv 4) (by rfl)) (pw_and1 (pt_cmpR (niK isk) (pv 10) (pv 2) (by rfl)))))) (fun _ _ _ _ _ => pv 10)) pe_int (fun _ _ => rfl)) pa_nil))))))))
      (pss_one (ps_ret (pv 4)))), ?_⟩
    let S : Str := "abcdefghijklmnopqrstuvwxyz0123456789"
    have hS : sg S = alpha := alpha_eq
    have lS : S.length = 36 := by decide
    refine ⟨(by show 0 ≤ sizeLine; decide), fun D hD => ⟨(by show 2 ≤ sizeLine; decide), fun T hT => ⟨T, _, rfl, SqT.of upd_same, rfl, _, _, rfl, _, _, rfl, rfl, ?_⟩⟩⟩
    have Dp : D ≠ p := ne_pot hp hD
    have k0 : Kp p H (upd (upd H D (.lst [])) T (.tup [.str S, .ref D])) := (Kp.new hp hD).trans (Kp.new (hp.new hD) hT)
    have hDT : D ≠ T := ne_of_none upd_same hT
    have tkp : tk ≠ p := by
      obtain ⟨a, b, q, _⟩ := hp
      intro e
      rw [e, q] at ht
      have e1 := Option.some.inj ht
      injection e1 with e2
      cases ts with
      | nil => cases e2
      | cons x r => rw [List.map_cons] at e2; injection e2 with e3; cases e3
    refine ⟨_, rfl, n, rfl, by omega, by omega, ?_⟩
    refine for_range (lo := 0) (n := n.toNat) (fun i σ H' => ∃ (xs : List Str) (e5 e6 e7 : Option V), σ = [some (.ref p), some (.int n), some (.ref tk), some (.str S), some (.ref D), e5, e6, e7, none, none, none] ∧ Kp p H H' ∧ H' D = some (.lst (xs.map V.str)) ∧ (∀ x ∈ xs, nameB x = true) ∧ xs.Nodup ∧ xs.length = i ∧ (∀ x ∈ xs, x ∉ ts)) ?_ ?_ ?_
    · exact ⟨[], none, none, none, rfl, k0, by rw [upd_ne hDT]; exact upd_same, (fun _ q => nomatch q), List.nodup_nil, rfl, fun _ q => nomatch q⟩
    · rintro j σ H1 hj ⟨xs, e5, e6, e7, rfl, k1, d1, ok, ndx, lx, off⟩
      have hj' : j < 30 := by omega
      refine ⟨_, rfl, (by show 8 ≤ sizeLine; decide), fun l hl => ⟨p, l, _, rfl, k1.pot.new hl, ne_pot k1.pot hl, SqL.of upd_same, (fun z => by cases z), (by show 8 ≤ 1000000; decide), fun x H2 hx k2 => ?_⟩⟩
      have hx' : x ∈ words8.map V.str := hx
      obtain ⟨lab, hlab, rfl⟩ := List.mem_map.mp hx'
      have nlab := words_ok lab hlab
      have k12 := (Kp.new (o := .lst (words8.map V.str)) k1.pot hl).trans k2
      clear hx hx' hlab k2
      refine ⟨fun σ H3 => ∃ lab, nameB lab = true ∧ Kp p H1 H3 ∧ σ = [some (.ref p), some (.int n), some (.ref tk), some (.str S), some (.ref D), some (.int (0 + j)), some (.str lab), e7, none, none, none], ?_, ?_⟩
      · refine ⟨_, rfl, p, 8, rfl, k12.pot, by decide, by decide, fun d H3 d0' d1' k3 => ⟨_, _, rfl, rfl, _, rfl, ite2 (fun c => ?_) (fun c => ⟨lab, nlab, k12.trans k3, rfl⟩)⟩⟩
        have k13 := k12.trans k3
        refine ⟨_, rfl, _, rfl, p, 26, rfl, k13.pot, by decide, by decide, fun e H4 e0 e1 k4 => ?_⟩
        obtain ⟨a, ha, la⟩ := alpha_low e.toNat (by omega)
        refine .inr (.inr ⟨S, e, a, rfl, rfl, by omega, atI_int e0 (by rw [← hS] at ha; exact ha), ?_⟩)
        have k14 := k13.trans k4
        refine ⟨_, rfl, ⟨_, rfl⟩, _, rfl, (by show 5 ≤ sizeLine; decide), fun l2 hl2 => ⟨p, l2, _, rfl, k14.pot.new hl2, ne_pot k14.pot hl2, SqL.of upd_same, (fun z => by cases z), (by show 5 ≤ 1000000; decide), fun y H5 hy k5 => ?_⟩⟩
        have num : ∃ m : Int, y = .int m ∧ 0 ≤ m ∧ m ≤ 7 := by
          simp only [List.mem_cons, List.not_mem_nil, or_false] at hy
          rcases hy with rfl | rfl | rfl | rfl | rfl
          all_goals exact ⟨_, rfl, by decide, by decide⟩
        obtain ⟨m, rfl, m0, m7⟩ := num
        have k15 := k14.trans ((Kp.new k14.pot hl2).trans k5)
        clear hy k5
        refine ⟨m, rfl, by omega, by omega, fun D2 hD2 => ?_⟩
        have D2p := ne_pot k15.pot hD2
        refine lc_it walk_range (fun i H' => Kp p H5 H' ∧ ∃ cs : List Nat, H' D2 = some (.lst ((cs.map fun c => (⟨#[c]⟩ : Str)).map V.str)) ∧ cs.length = i ∧ ∀ c ∈ cs, nsg c = true) ⟨Kp.new k15.pot hD2, [], by rw [upd_same]; rfl, rfl, fun _ q => nomatch q⟩ (fun _ _ _ _ => trivial) ?_ ?_
        · rintro i y H6 H7 hi ⟨kk, cs, d2, lc, ncs⟩ ⟨rfl, rfl⟩
          refine ⟨rfl, _, rfl, _, rfl, p, 36, rfl, kk.pot, by decide, by decide, fun g H8 g0 g1 k8 => ?_⟩
          obtain ⟨b, hb⟩ := alpha_at g.toNat (by omega)
          refine .inr (.inr ⟨S, g, b, rfl, rfl, by omega, atI_int g0 (by rw [← hS] at hb; exact hb), _, k8.at D2p d2, ?_, Kp.over (kk.trans k8) D2p hD2, cs ++ [b], ?_, ?_, fun c hc => ?_⟩)
          · rw [List.length_map, List.length_map]
            omega
          · rw [upd_same, List.map_append, List.map_append]
            rfl
          · rw [List.length_append, lc]
            rfl
          · rcases List.mem_append.mp hc with hc | hc
            · exact ncs c hc
            · rw [List.mem_singleton] at hc
              rw [hc]
              exact alpha_nsg b (List.mem_of_getElem? hb)
        · rintro H6 ⟨kk, cs, d2, lc, ncs⟩
          have ke : (Str.ofString "").length = 0 := by decide
          have sm := sum_le 1 (cs.map fun c => (⟨#[c]⟩ : Str)) (fun x hx => by
            obtain ⟨c, _, rfl⟩ := List.mem_map.mp hx
            exact Nat.le_refl 1)
          rw [List.length_map] at sm
          have l1 : (⟨#[a]⟩ : Str).length = 1 := rfl
          refine ⟨_, D2, cs.map fun c => (⟨#[c]⟩ : Str), rfl, rfl, .inl (SqL.of d2), by rw [ke, List.length_map]; omega, ?_⟩
          rw [join_mk]
          refine .inr (.inl ⟨_, _, rfl, rfl, by rw [l1, mk_len]; omega, ?_⟩)
          refine ⟨mk (a :: cs), name_mk.mpr ⟨a, cs, rfl, by omega, la, ncs⟩, k15.trans kk, ?_⟩
          rw [mk_one, mk_app]
          rfl
      · rintro σ H3 ⟨lab, nlab, k3, rfl⟩
        have k03 := k1.trans k3
        have d3 := k3.at Dp d1
        have t3 := k03.at tkp ht
        have l8 := name_len nlab
        have kz : (Str.ofString "z").length = 1 := by decide
        refine ⟨_, rfl, (by show 1 ≤ sizeLine; decide), fun L1 hL1 => ⟨_, rfl, S, rfl, fun L2 hL2 => ?_⟩⟩
        have e1 : Am.Ext H3 (upd H3 L1 (.lst [.str lab])) := Am.Ext.new hL1
        refine lc_it walk_str (fun i H' => Am.Ext (upd H3 L1 (.lst [.str lab])) H' ∧ H' L2 = some (.lst (((alpha.take i).map (nearS lab)).map V.str))) ⟨Am.Ext.new hL2, by rw [upd_same]; rfl⟩ (fun _ _ _ _ => trivial) ?_ ?_
        · rintro i y H4 H5 hi ⟨e, d⟩ ⟨rfl, c, hc, rfl⟩
          have hc' : alpha[i]? = some c := by
            rw [← hS, ← hc]
            exact Array.getElem?_toList
          have c6 := cut_len lab none (some 6)
          have lone : (⟨#[c]⟩ : Str).length = 1 := rfl
          refine ⟨rfl, _, rfl, 6, rfl, lab, rfl, by omega, _, rfl, .inr (.inl ⟨_, _, rfl, rfl, by omega, .inr (.inl ⟨_, _, rfl, rfl, by rw [strLen_append]; omega, _, d, ?_, ext_off e hL2, ?_⟩)⟩)⟩
          · rw [List.length_map, List.length_map, List.length_take, alpha_len]
            omega
          · rw [upd_same, take_suc hc', List.map_append, List.map_append]
            rfl
        · rintro H4 ⟨e, d⟩
          have e14 := e1.trans e
          rw [show S.cps.size = alpha.length from by rw [alpha_len]; decide, List.take_length] at d
          refine .inr (.inr ⟨L1, L2, [.str lab], _, rfl, rfl, e _ _ upd_same, d, by rw [List.length_map, List.length_map, alpha_len]; show 37 ≤ sizeLine; decide, fun Sp hSp => ?_⟩)
          have e15 := e14.then (o := .lst ([.str lab] ++ (alpha.map (nearS lab)).map V.str)) hSp
          have hSp' : upd H4 Sp (.lst ([.str lab] ++ (alpha.map (nearS lab)).map V.str)) Sp = some (.lst ((spares lab).map V.str)) := by
            rw [upd_same]
            rfl
          generalize upd H4 Sp (.lst ([.str lab] ++ (alpha.map (nearS lab)).map V.str)) = H5 at e15 hSp'
          have kE : Kp p H H5 := ⟨fun b o nb hb => e15 b o (k03.1 b o nb hb), by
            obtain ⟨u, v, q, r⟩ := k03.pot
            exact ⟨u, v, e15 _ _ q, r⟩⟩
          refine ⟨_, rfl, .inl ⟨rfl, _, SqL.of (e15 _ _ d3)⟩, _, rfl, Sp, rfl, ⟨_, SqL.of hSp'⟩, fun L3 hL3 => ?_⟩
          refine lc_it (walk_list (xs := (spares lab).map V.str)) (fun i H' => Am.Ext H5 H' ∧ H' L3 = some (.lst ((((spares lab).take i).filter fun s => decide (s ∉ xs ++ ts)).map V.str))) ⟨Am.Ext.new hL3, by rw [upd_same]; rfl⟩ (fun i H' _ h => SqL.of (h.1 _ _ hSp')) ?_ ?_
          · rintro i y H6 H7 hi ⟨e6, d6⟩ ⟨rfl, hy⟩
            obtain ⟨x, hx, rfl⟩ := map_at hy
            refine ⟨rfl, _, rfl, _, rfl, in_A (.inl (SqL.of (e6 _ _ (e15 _ _ d3)))) ⟨_, rfl, ?_⟩⟩
            rw [if_pos rfl]
            by_cases q : x ∈ xs
            · rw [decide_eq_true q]
              refine ⟨e6, ?_⟩
              rw [take_suc hx, List.filter_append, List.filter_cons_of_neg (by simp [q])]
              rw [List.filter_nil, List.append_nil]
              exact d6
            · rw [decide_eq_false q]
              refine ⟨_, rfl, _, rfl, in_A (xs := ts) (.inl (SqL.of (e6 _ _ (e15 _ _ t3)))) ⟨_, rfl, ?_⟩⟩
              rw [if_pos rfl]
              by_cases q2 : x ∈ ts
              · rw [decide_eq_true q2]
                refine ⟨e6, ?_⟩
                rw [take_suc hx, List.filter_append, List.filter_cons_of_neg (by simp [q2])]
                rw [List.filter_nil, List.append_nil]
                exact d6
              rw [decide_eq_false q2]
              refine ⟨_, rfl, _, d6, ?_, ext_off e6 hL3, ?_⟩
              · rw [List.length_map]
                have := List.length_filter_le (fun s => decide (s ∉ xs ++ ts)) ((spares lab).take i)
                rw [List.length_take] at this
                have : (spares lab).length = 37 := by
                  unfold spares
                  rw [List.length_append, List.length_map, alpha_len]
                  rfl
                omega
              · rw [upd_same, take_suc hx, List.filter_append, List.filter_cons_of_pos (by simp [q, q2]), List.map_append]
                rfl
          · rintro H6 ⟨e6, d6⟩
            rw [List.length_map, List.take_length] at d6
            obtain ⟨y, r, hr⟩ := spare_left (x := lab) (found := xs ++ ts) (by rw [List.length_append]; omega)
            rw [hr] at d6
            have ym : y ∈ (spares lab).filter fun s => decide (s ∉ xs ++ ts) := by rw [hr]; exact List.mem_cons_self
            have ym2 := List.mem_filter.mp ym
            have yn2 : y ∉ xs ++ ts := by simpa using ym2.2
            have yn : y ∉ xs := fun h => yn2 (List.mem_append_left _ h)
            have yt : y ∉ ts := fun h => yn2 (List.mem_append_right _ h)
            refine .inl ⟨L3, _, 0, .str y, rfl, rfl, SqL.of d6, atI_nat (j := 0) rfl, D, _, _, rfl, rfl, e6 _ _ (e15 _ _ d3), by rw [List.length_map]; omega, ?_⟩
            have kF : Kp p H H6 := ⟨fun b o nb hb => e6 b o (kE.1 b o nb hb), by
              obtain ⟨u, v, q, r⟩ := kE.pot
              exact ⟨u, v, e6 _ _ q, r⟩⟩
            refine ⟨xs ++ [y], _, _, _, rfl, kF.over Dp hD, ?_, ?_, ?_, ?_, ?_⟩
            · rw [upd_same, List.map_append]
              rfl
            · intro x hx
              rcases List.mem_append.mp hx with hx | hx
              · exact ok x hx
              · rw [List.mem_singleton] at hx
                rw [hx]
                exact spare_names nlab y ym2.1
            · rw [List.nodup_append]
              refine ⟨ndx, List.nodup_cons.mpr ⟨(fun q => nomatch q), List.nodup_nil⟩, fun a ha b hb e => ?_⟩
              rw [List.mem_singleton] at hb
              exact yn (by rw [← hb, ← e]; exact ha)
            · rw [List.length_append, lx]
              rfl
            · intro x hx
              rcases List.mem_append.mp hx with hx | hx
              · exact off x hx
              · rw [List.mem_singleton] at hx
                rw [hx]
                exact yt
    · rintro σ H' ⟨xs, e5, e6, e7, rfl, k1, d1, ok, ndx, lx, off⟩
      exact ⟨_, rfl, z D H' xs k1 hD Dp d1 ⟨ok, ndx, by omega⟩ (by omega) off⟩
end
end KD

set_option Elab.async false
set_option linter.all false
set_option maxRecDepth 100000
set_option maxHeartbeats 2000000
/-! _law_some, _law_weight, _law_fraction. -/
namespace KD
open PySem PySem.Spec PyProof.Rows L2 Oo Gd Am KA SqX
theorem er_map (rs : List Str) (k : Nat) : (rs.map V.str).eraseIdx k = (rs.eraseIdx k).map V.str := by
  rw [List.eraseIdx_eq_take_drop_succ, List.eraseIdx_eq_take_drop_succ, List.map_append, List.map_take, List.map_drop]
theorem er_perm {rs : List Str} {k : Nat} {y : Str} (h : rs[k]? = some y) : (y :: rs.eraseIdx k).Perm rs := by
  obtain ⟨hk, e⟩ := List.getElem?_eq_some_iff.mp h
  have : rs = rs.take k ++ y :: rs.drop (k + 1) := by
    rw [← e, List.getElem_cons_drop, List.take_append_drop]
  conv => rhs; rw [this]
  rw [List.eraseIdx_eq_take_drop_succ]
  exact List.perm_middle.symm
section
variable {P : Program} {w : World} {K : W.Frag} {mg : Str → Option Value} {base : Heap} {f A C : Addr} {fd : FuncData} {t t2 t3 : Tok}
/-- a new list of texts -/
def NewL (p : Addr) (H : Hp) (Q : VK) (R : List Str → Prop) : Prop := ∀ (D : Addr) (H' : Hp) (ys : List Str), Kp p H H' → H D = none → D ≠ p → H' D = some (.lst (ys.map V.str)) → R ys → Q (.ref D) H'
/-- some of these -/
def SomeOf (xs : List Str) (m : Nat) (ys : List Str) : Prop := ys.Nodup ∧ (∀ y ∈ ys, y ∈ xs) ∧ ys ≠ [] ∧ ys.length ≤ m
def spSome (K : W.Frag) : Sp := fun vs H Q _ => ∃ (p a : Addr) (m : Nat) (xs : List Str), vs = [.ref p, .ref a, .int m] ∧ Pot H p ∧ H a = some (.lst (xs.map V.str)) ∧ xs.Nodup ∧ xs ≠ [] ∧ xs.length < 64 ∧ 0 < m ∧ m ≤ 10 ∧ NewL p H Q (SomeOf xs m)
abbrev nSo : List Str := ["_law_pot_here", "_law_things", "_law_most", "_law_rest", "_law_found", "_law_turn"]
theorem scSo : FnScope nSo ["_law_pot_here", "_law_things", "_law_most"] (defScope (top 54)) := ⟨rfl, rfl, rfl, by decide +kernel, rfl, by decide +kernel, by decide +kernel⟩
theorem ok_some (fr : Frees mg) (D1 : DnD P w K mg base) (F : Fun K "_law_some" "_law_some" (top 54) f fd) : FnOk P w K mg base CX0 2 f fd ["_law_pot_here", "_law_things", "_law_most"] (spSome K) := by
  refine F.ok scSo (fun vs H Q E h => ?_) (fun cdv A' outer s H vs Q E hr h => ?_)
  · obtain ⟨p, a, m, xs, rfl, _⟩ := h
    rfl
  · obtain ⟨p, a, m, xs, rfl, hp, ha, nd0, ne, few, m0, m10, z⟩ := h
    have nd := scSo.nd
    have isk : IsK K := ⟨trivial⟩
    have big : (1000000 : Nat) ≤ sizeLine := by decide
    refine ⟨_, pss_cons (ps_par (i := 3) (j := 4) rfl nd rfl rfl (by decide) rfl rfl (pa_cons (pe_callTy call_list_of rfl (fr.h _ (by decide +kernel)) (by decide +kernel) (pa_cons (pv 1) pa_nil)) (pa_cons (pe_lst pa_nil) pa_nil)) (by rfl))
      (pss_cons (ps_for PassesOwn.never rfl (pi_range1 rfl (fr.h _ (by decide +kernel)) (pa_cons (pe_op op_add pe_int (pe_dn D1 hr (by rfl) (by decide) (pa_cons (pv 0) (pa_cons (pe_callB (call_min2 rfl) rfl (fr.h _ (by decide +kernel)) (by decide +kernel) (pa_cons (pv 2) (pa_cons (pe_callB (lenK isk) rfl (fr.h _ (by decide +kernel)) (by decide +kernel) (pa_cons (pv 1) pa_nil)) pa_nil))) pa_nil)))) pa_nil)) (pg_name (i := 5) nd rfl (.inl rfl))
        (pss_one (ps_expr (pe_bm PySem.F.plainAttrs_list PySem.F.slot_list_append PySem.F.type_list_append mt_append (pv 4) (pa_cons (pe_bm PySem.F.plainAttrs_list PySem.F.slot_list_pop PySem.F.type_list_pop mt_popAt (pv 3) (pa_cons (pe_dn D1 hr (by rfl) (by decide) (pa_cons (pv 0) (pa_cons (pe_callB (lenK isk) rfl (fr.h _ (by decide +kernel)) (by decide +kernel) (pa_cons (pv 3) pa_nil)) pa_nil))) pa_nil)) pa_nil)))))
      (pss_one (ps_ret (pv 4)))), ?_⟩
    refine ⟨_, rfl, a, _, rfl, .inl (SqL.of ha), fun R hR => ⟨(by show 0 ≤ sizeLine; decide), fun D hD => ⟨_, _, rfl, ?_⟩⟩⟩
    have Rp := ne_pot hp hR
    have kR : Kp p H (upd H R (.lst (xs.map V.str))) := Kp.new hp hR
    have Dp := ne_pot kR.pot hD
    have k0 := kR.trans (Kp.new (o := .lst []) kR.pot hD)
    have nRD : R ≠ D := ne_of_none upd_same hD
    have hD0 : H D = none := kR.gone Dp hD
    have hRv : upd (upd H R (.lst (xs.map V.str))) D (.lst []) R = some (.lst (xs.map V.str)) := by rw [upd_ne nRD, upd_same]
    have hDv : upd (upd H R (.lst (xs.map V.str))) D (.lst []) D = some (.lst []) := upd_same
    generalize upd (upd H R (.lst (xs.map V.str))) D (.lst []) = H0 at k0 hRv hDv ⊢
    have ap : a ≠ p := by
      obtain ⟨u, v, q, _⟩ := hp
      intro e
      rw [e, q] at ha
      have := Option.some.inj ha
      injection this with e2
      cases xs with
      | nil => exact ne rfl
      | cons x r => rw [List.map_cons] at e2; injection e2 with e3; cases e3
    have pos : 0 < xs.length := List.length_pos_iff.mpr ne
    refine ⟨_, rfl, _, rfl, _, rfl, .inl ⟨a, _, rfl, .inl (SqL.of (k0.at ap ha)), _, _, rfl, p, _, rfl, k0.pot, ?_, ?_, fun d H1 d0 d1 k1 => ?_⟩⟩
    · rw [List.length_map]
      split <;> omega
    · rw [List.length_map]
      split <;> omega
    rw [List.length_map] at d1
    have dm : d < m ∧ d < xs.length := by
      split at d1 <;> omega
    refine ⟨_, _, rfl, rfl, _, rfl, by omega, by omega, ?_⟩
    refine for_range (lo := 0) (n := (1 + d).toNat) (fun i σ H' => ∃ (rs ys : List Str) (e5 : Option V), σ = [some (.ref p), some (.ref a), some (.int m), some (.ref R), some (.ref D), e5] ∧ Kp p H H' ∧ H' R = some (.lst (rs.map V.str)) ∧ H' D = some (.lst (ys.map V.str)) ∧ (ys ++ rs).Perm xs ∧ ys.length = i) ?_ ?_ ?_
    · exact ⟨xs, [], none, rfl, k0.trans k1, k1.at Rp hRv, k1.at Dp hDv, List.Perm.refl _, rfl⟩
    · rintro i σ H2 hi ⟨rs, ys, e5, rfl, k2, r2, d2, pm, ly⟩
      have lr : rs.length + i = xs.length := by
        have := pm.length_eq
        rw [List.length_append] at this
        omega
      refine ⟨_, rfl, .inl ⟨rfl, _, SqL.of d2⟩, _, rfl, .inl ⟨rfl, _, SqL.of r2⟩, _, rfl, _, rfl, .inl ⟨R, _, rfl, .inl (SqL.of r2), p, _, rfl, k2.pot, by rw [List.length_map]; omega, by rw [List.length_map]; omega, fun g H3 g0 g1 k3 => ?_⟩⟩
      rw [List.length_map] at g1
      have hg : g.toNat < rs.length := by omega
      have hy : rs[g.toNat]? = some rs[g.toNat] := List.getElem?_eq_getElem hg
      have r3 := k3.at Rp r2
      have d3 := k3.at Dp d2
      have k23 := k2.trans k3
      refine ⟨R, _, g, g.toNat, .str rs[g.toNat], rfl, rfl, r3, by omega, by omega, seqIndex_of g0 (by rw [List.length_map]; omega), by rw [List.getElem?_map, hy]; rfl, ?_⟩
      rw [er_map]
      refine ⟨D, _, _, rfl, rfl, by rw [upd_ne (Ne.symm nRD)]; exact d3, ?_, rs.eraseIdx g.toNat, ys ++ [rs[g.toNat]], _, rfl, ?_, ?_, ?_, ?_, ?_⟩
      · rw [List.length_map]
        omega
      · exact (k23.over (o := .lst ((rs.eraseIdx g.toNat).map V.str)) Rp (Kp.gone (Kp.refl hp) Rp hR)).over Dp hD0
      · rw [upd_ne nRD, upd_same]
      · rw [upd_same, List.map_append]
        rfl
      · rw [List.append_assoc]
        exact (List.Perm.append_left ys (er_perm hy)).trans pm
      · rw [List.length_append, ly]
        rfl
    · rintro σ H2 ⟨rs, ys, e5, rfl, k2, r2, d2, pm, ly⟩
      have ndA := pm.nodup_iff.mpr nd0
      refine ⟨_, rfl, z D H2 ys k2 hD0 Dp d2 ⟨(List.nodup_append.mp ndA).1, fun y hy => pm.mem_iff.mp (List.mem_append_left _ hy), fun e => ?_, by omega⟩⟩
      rw [e] at ly
      simp at ly
      omega
end
end KD

set_option Elab.async false
set_option linter.all false
set_option maxRecDepth 100000
set_option maxHeartbeats 2000000
/-! _law_weight, _law_fraction, _law_number. -/
namespace KD
open PySem PySem.Spec PyProof.Rows L2 Oo Gd Am KA SqX
section
variable {P : Program} {w : World} {K : W.Frag} {mg : Str → Option Value} {base : Heap} {f A C : Addr} {fd : FuncData} {t t2 t3 : Tok}
def spWei : Sp := fun vs H Q _ => ∃ p : Addr, vs = [.ref p] ∧ Pot H p ∧ ∀ (n : Int) (H' : Hp), n ≠ 0 → n.natAbs < 2 ^ 100 → Kp p H H' → Q (.int n) H'
theorem scWei : FnScope ["_law_pot_here", "_law_weight_here"] ["_law_pot_here"] (defScope (top 56)) := ⟨rfl, rfl, rfl, by decide +kernel, rfl, by decide +kernel, by decide +kernel⟩
theorem ok_wei (D1 : DnD P w K mg base) (DP : DnP P w K mg base) (F : Fun K "_law_weight" "_law_weight" (top 56) f fd) : FnOk P w K mg base CX0 3 f fd ["_law_pot_here"] spWei := by
  refine F.ok scWei (fun vs H Q E h => ?_) (fun cdv A' outer s H vs Q E hr h => ?_)
  · obtain ⟨p, rfl, _⟩ := h
    rfl
  · obtain ⟨p, rfl, hp, z⟩ := h
    have nd := scWei.nd
    refine ⟨_, pss_cons (ps_set (i := 1) nd rfl (.inl rfl) (pe_dn DP hr (by rfl) (by decide) (pa_cons (pv 0) (pa_cons (pe_lst (pa_cons pe_int (pa_cons (pe_un un_neg pe_int) (pa_cons pe_int (pa_cons pe_int (pa_cons (pe_un un_neg pe_int) (pa_cons pe_int (pa_cons pe_int pa_nil)))))))) pa_nil))))
      (pss_one (ps_ret (pe_ifExp (pt_cmpR op_eq (pe_dn D1 hr (by rfl) (by decide) (pa_cons (pv 0) (pa_cons pe_int pa_nil))) pe_int (nomark _))
        (pe_op op_mulW (pv 1) (pe_op op_add pe_int (pe_op op_mulW (pe_dn D1 hr (by rfl) (by decide) (pa_cons (pv 0) (pa_cons (pe_op op_pow pe_int pe_int) pa_nil))) (pe_op op_pow pe_int pe_int)))) (pv 1)))), ?_⟩
    refine ⟨_, rfl, 1, rfl, 3, rfl, (by show 7 ≤ sizeLine; decide), fun l hl => ⟨p, l, _, rfl, hp.new hl, ne_pot hp hl, SqL.of upd_same, (fun z => by cases z), (by show 7 ≤ 1000000; decide), fun x H2 hx k2 => ?_⟩⟩
    have num : ∃ m : Int, x = .int m ∧ m ≠ 0 ∧ m.natAbs ≤ 10 := by
      simp only [List.mem_cons, List.not_mem_nil, or_false] at hx
      rcases hx with rfl | rfl | rfl | rfl | rfl | rfl | rfl
      all_goals exact ⟨_, rfl, by decide, by decide⟩
    obtain ⟨m, rfl, m0, m10⟩ := num
    have k1 := (Kp.new hp hl).trans k2
    clear hx k2
    refine ⟨_, rfl, p, 8, rfl, k1.pot, by decide, by decide, fun d H3 d0 d1 k3 => ⟨rfl, _, rfl, ite2 (fun _ => ?_) (fun _ => ?_)⟩⟩
    · refine ⟨_, rfl, _, rfl, 10, 9, rfl, rfl, ⟨by decide, by decide, by decide⟩, p, _, rfl, k3.pot, by decide, by decide, fun g H4 g0 g1 k4 => ?_⟩
      replace g1 : g < 1000000000 := g1
      refine ⟨10, 10, rfl, rfl, ⟨by decide, by decide, by decide⟩, _, _, rfl, rfl, mulW (by omega) (by decide), _, _, rfl, rfl, _, _, rfl, rfl, mulW (by omega) (by show (1 + g * 10000000000).natAbs < _; omega), ?_⟩
      have b1 : (1 + g * 10 ^ (10 : Int).toNat).natAbs < 2 ^ 80 := by
        show (1 + g * 10000000000).natAbs < _
        have : (2 : Nat) ^ 80 = 1208925819614629174706176 := by decide
        omega
      have b0 : m.natAbs < 2 ^ 4 := by omega
      refine z _ _ (Int.mul_ne_zero m0 (by show 1 + g * 10000000000 ≠ 0; omega)) (Nat.lt_trans (wide_lt b0 b1) (by decide)) ((k1.trans k3).trans k4)
    · exact ⟨_, rfl, z m H3 m0 (by have : (10 : Nat) < 2 ^ 100 := by decide
                                   omega) (k1.trans k3)⟩
end
end KD

set_option Elab.async false
set_option linter.all false
set_option maxRecDepth 100000
set_option maxHeartbeats 2000000
set_option exponentiation.threshold 20000
/-! ties; _law_fraction, _law_number, _law_inside. -/
namespace KD
open PySem PySem.Spec PyProof.Rows L2 Oo Gd Am KA SqX
/-- what a tie tells of a rule, its ways apart -/
inductive TD where
  | loo (xs : List Str)
  | sum (ls : List (Str × Int)) (q : Rat)
  | pro (xs ys : List Str) (q : Rat)
def TD.ins : TD → List Str
  | .loo xs => xs
  | .sum ls _ => ls.map (·.1)
  | .pro xs ys _ => xs ++ ys
abbrev Ls (H : Hp) (a : Addr) (xs : List Str) : Prop := H a = some (.lst (xs.map V.str))
abbrev Fr2 (H : Hp) (a : Addr) (q : Rat) : Prop := H a = some (.tup [.int q.num, .int q.den])
/-- pairs of names and numbers -/
def Prs (H : Hp) : List Addr → List (Str × Int) → Prop := Paired fun p x => H p = some (.tup [.str x.1, .int x.2])
theorem Prs.ext {H H' : Hp} (e : Am.Ext H H') : ∀ {ps : List Addr} {ls : List (Str × Int)}, Prs H ps ls → Prs H' ps ls
  | _, _, .nil => .nil
  | _, _, .cons a b => .cons (e _ _ a) (Prs.ext e b)
def TieAt (H : Hp) (t : Addr) (td : TD) (os : List Str) : Prop := ∃ po, Ls H po os ∧ match td with
  | .loo xs => ∃ px, Ls H px xs ∧ H t = some (.tup [.str "loose", .ref px, .non, .ref po])
  | .sum ls q => ∃ pl ps pq, H pl = some (.lst (ps.map V.ref)) ∧ Prs H ps ls ∧ Fr2 H pq q ∧ H t = some (.tup [.str "sum", .ref pl, .ref pq, .ref po])
  | .pro xs ys q => ∃ pp px py pq, Ls H px xs ∧ Ls H py ys ∧ H pp = some (.tup [.ref px, .ref py]) ∧ Fr2 H pq q ∧ H t = some (.tup [.str "product", .ref pp, .ref pq, .ref po])
theorem TieAt.ext {H H' : Hp} {t : Addr} {td : TD} {os : List Str} (e : Am.Ext H H') (h : TieAt H t td os) : TieAt H' t td os := by
  obtain ⟨po, ho, h⟩ := h
  cases td with
  | loo xs => obtain ⟨px, a, b⟩ := h; exact ⟨po, e _ _ ho, px, e _ _ a, e _ _ b⟩
  | sum ls q => obtain ⟨pl, ps, pq, a, b, c, d⟩ := h; exact ⟨po, e _ _ ho, pl, ps, pq, e _ _ a, b.ext e, e _ _ c, e _ _ d⟩
  | pro xs ys q => obtain ⟨pp, px, py, pq, a, b, c, d, f⟩ := h; exact ⟨po, e _ _ ho, pp, px, py, pq, e _ _ a, e _ _ b, e _ _ c, e _ _ d, e _ _ f⟩
/-- a tie that is right -/
structure TdOk (td : TD) (os : List Str) : Prop where
  nm : Nms td.ins
  ne : td.ins ≠ []
  od : os.Nodup
  oi : ∀ o ∈ os, o ∈ td.ins
  on : os ≠ []
  dt : match td with
    | .loo _ => True
    | .sum ls q => (∀ p ∈ ls, p.2 ≠ 0 ∧ p.2.natAbs < 2 ^ 150) ∧ Low 200 q
    | .pro _ _ q => q ≠ 0 ∧ Low 200 q
theorem TdOk.of {td : TD} {os : List Str} (h : TdOk td os) : Few os := ⟨fun x hx => h.nm.ok x (h.oi x hx), Nat.lt_of_le_of_lt (sub_len _ _ h.od h.oi) h.nm.few⟩
theorem s_ps : ¬ (decide (V.str "product" = V.str "sum") = true) := by decide
theorem s_ls : ¬ (decide (V.str "loose" = V.str "sum") = true) := by decide
theorem s_lp : ¬ (decide (V.str "loose" = V.str "product") = true) := by decide
theorem s_pl : ¬ (decide (V.str "product" = V.str "loose") = true) := by decide
theorem s_sl : ¬ (decide (V.str "sum" = V.str "loose") = true) := by decide
theorem s_sp : ¬ (decide (V.str "sum" = V.str "product") = true) := by decide
theorem ix4 {K : W.Frag} {H : Hp} {t : Addr} {xs : List V} {i : Nat} {v : V} {Q : VK} (h : H t = some (.tup xs)) (hi : xs[i]? = some v) (q : Q v H) : rIx K (.ref t) (.int (i : Nat)) H Q :=
  .inr (.inl ⟨t, xs, i, v, rfl, rfl, SqT.of h, atI_nat hi, q⟩)
theorem if_yes {a : Str} {A B : Prop} (h : A) : if decide (V.str a = V.str a) = true then A else B := by
  rw [if_pos (decide_eq_true rfl)]
  exact h
theorem if_no {c : Bool} {A B : Prop} (hc : ¬ (c = true)) (h : B) : if c = true then A else B := by
  rw [if_neg hc]
  exact h
section
variable {P : Program} {w : World} {K : W.Frag} {mg : Str → Option Value} {base : Heap} {f A C : Addr} {fd : FuncData} {t t2 t3 : Tok}
def spFrac : Sp := fun vs H Q _ => ∃ p : Addr, vs = [.ref p] ∧ Pot H p ∧ ∀ (t : Addr) (H' : Hp) (q : Rat), Kp p H H' → H t = none → t ≠ p → Fr2 H' t q → Low 100 q → Q (.ref t) H'
theorem scFrac : FnScope ["_law_pot_here"] ["_law_pot_here"] (defScope (top 57)) := ⟨rfl, rfl, rfl, by decide +kernel, rfl, by decide +kernel, by decide +kernel⟩
theorem ok_frac (DP : DnP P w K mg base) (DL : DnL P w K mg base) (F : Fun K "_law_fraction" "_law_fraction" (top 57) f fd) : FnOk P w K mg base CX0 3 f fd ["_law_pot_here"] spFrac := by
  refine F.ok scFrac (fun vs H Q E h => ?_) (fun cdv A' outer s H vs Q E hr h => ?_)
  · obtain ⟨p, rfl, _⟩ := h
    rfl
  · obtain ⟨p, rfl, hp, z⟩ := h
    refine ⟨_, pss_one (ps_ret (pe_dn DL hr (by rfl) (by decide) (pa_cons (pe_dn DP hr (by rfl) (by decide) (pa_cons (pv 0) (pa_cons (pe_lst (pa_cons pe_int (pa_cons pe_int (pa_cons pe_int (pa_cons (pe_un un_neg pe_int) (pa_cons pe_int (pa_cons pe_int (pa_cons (pe_un un_neg pe_int) (pa_cons pe_int (pa_cons (pe_op op_add (pe_op op_pow pe_int pe_int) pe_int) pa_nil)))))))))) pa_nil)))
      (pa_cons (pe_dn DP hr (by rfl) (by decide) (pa_cons (pv 0) (pa_cons (pe_lst (pa_cons pe_int (pa_cons pe_int (pa_cons pe_int (pa_cons pe_int (pa_cons pe_int pa_nil)))))) pa_nil))) pa_nil)))), ?_⟩
    refine ⟨_, rfl, 1, rfl, 12, rfl, 10, 17, rfl, rfl, ⟨by decide, by decide, by decide⟩, _, _, rfl, rfl, (by show 9 ≤ sizeLine; decide), fun l hl => ⟨p, l, _, rfl, hp.new hl, ne_pot hp hl, SqL.of upd_same, (fun z => by cases z), (by show 9 ≤ 1000000; decide), fun x H2 hx k2 => ?_⟩⟩
    have num : ∃ m : Int, x = .int m ∧ m.natAbs < 2 ^ 60 := by
      simp only [List.mem_cons, List.not_mem_nil, or_false] at hx
      rcases hx with rfl | rfl | rfl | rfl | rfl | rfl | rfl | rfl | rfl
      all_goals exact ⟨_, rfl, by decide⟩
    obtain ⟨m, rfl, mb⟩ := num
    have k1 := (Kp.new hp hl).trans k2
    clear hx k2
    refine ⟨_, rfl, (by show 5 ≤ sizeLine; decide), fun l2 hl2 => ⟨p, l2, _, rfl, k1.pot.new hl2, ne_pot k1.pot hl2, SqL.of upd_same, (fun z => by cases z), (by show 5 ≤ 1000000; decide), fun y H3 hy k3 => ?_⟩⟩
    have num2 : ∃ d : Int, y = .int d ∧ 0 < d ∧ d.natAbs < 2 ^ 60 := by
      simp only [List.mem_cons, List.not_mem_nil, or_false] at hy
      rcases hy with rfl | rfl | rfl | rfl | rfl
      all_goals exact ⟨_, rfl, by decide, by decide⟩
    obtain ⟨d, rfl, d0, db⟩ := num2
    have k13 := k1.trans ((Kp.new k1.pot hl2).trans k3)
    clear hy k3
    refine ⟨m, d, rfl, d0, Nat.lt_trans mb (Nat.pow_lt_pow_right (by decide) (by decide)), Nat.lt_trans db (Nat.pow_lt_pow_right (by decide) (by decide)), fun t H4 e4 n4 t4 => ?_⟩
    have tp : t ≠ p := ne_pot k13.pot n4
    obtain ⟨b1, b2⟩ := divInt_le m d (by omega)
    refine z t H4 _ ⟨fun b o nb hb => e4 b o (k13.1 b o nb hb), ?_⟩ (k13.gone tp n4) tp t4 ⟨Nat.lt_of_le_of_lt b1 (Nat.lt_trans mb (by decide)), Nat.lt_of_le_of_lt b2 (Nat.lt_trans db (by decide))⟩
    obtain ⟨u, v, q, r⟩ := k13.pot
    exact ⟨u, v, e4 _ _ q, r⟩
end
end KD

set_option Elab.async false
set_option linter.all false
set_option maxRecDepth 100000
set_option maxHeartbeats 2000000
set_option exponentiation.threshold 20000
/-! _law_inside. -/
namespace KD
open PySem PySem.Spec PyProof.Rows L2 Oo Gd Am KA SqX
theorem prs_at {H : Hp} : ∀ {ps : List Addr} {ls : List (Str × Int)} {i : Nat} {x : V}, Prs H ps ls → (ps.map V.ref)[i]? = some x → ∃ (p : Addr) (y : Str × Int), x = .ref p ∧ ls[i]? = some y ∧ H p = some (.tup [.str y.1, .int y.2])
  | _, _, i, x, .nil, h => by simp at h
  | _, _, 0, x, .cons (a := p) (b := y) hp _, h => by
    simp at h
    exact ⟨p, y, h.symm, rfl, hp⟩
  | _, _, i + 1, x, .cons _ r, h => by
    obtain ⟨p, y, e, m, q⟩ := prs_at (i := i) r (by simpa using h)
    exact ⟨p, y, e, by simpa using m, q⟩
theorem prs_len {H : Hp} {ps : List Addr} {ls : List (Str × Int)} (h : Prs H ps ls) : ps.length = ls.length := Paired.length h
section
variable {P : Program} {w : World} {K : W.Frag} {mg : Str → Option Value} {base : Heap} {f A C : Addr} {fd : FuncData} {t t2 t3 : Tok}
/-- a new list of these texts -/
def NewLs (H : Hp) (Q : VK) (xs : List Str) : Prop := ∀ (D : Addr) (H' : Hp), Am.Ext H H' → H D = none → Ls H' D xs → Q (.ref D) H'
end
end KD

set_option Elab.async false
set_option linter.all false
set_option maxRecDepth 100000
set_option maxHeartbeats 2000000
set_option exponentiation.threshold 20000
/-! _law_rule. -/
namespace KD
open PySem PySem.Spec PyProof.Rows L2 Oo Gd Am KA SqX
theorem merge_new : ∀ (ls ks : List (Str × Int)), (ls.map (·.1)).Nodup → (∀ p ∈ ls, p.1 ∉ ks.map (·.1)) → mergeK (wts ks) (wts ls) = wts (ks ++ ls)
  | [], ks, _, _ => by rw [List.append_nil]; rfl
  | p :: ls, ks, nd, off => by
    have nd' := List.nodup_cons.mp nd
    have e : putK (wts ks) (Sum.inr p.1 : Key) (.int p.2) = wts (ks ++ [p]) := by
      rw [putK_new _ (by rw [valV_w, wt_none (off p List.mem_cons_self)]; rfl)]
      unfold wts
      rw [List.map_append]
      rfl
    show mergeK (putK (wts ks) (Sum.inr p.1 : Key) (.int p.2)) (wts ls) = _
    rw [e, merge_new ls (ks ++ [p]) nd'.2 fun q hq hm => ?_, List.append_assoc]
    · rfl
    · rw [List.map_append, List.mem_append] at hm
      rcases hm with hm | hm
      · exact off q (List.mem_cons_of_mem _ hq) hm
      · rw [List.map_cons, List.map_nil, List.mem_singleton] at hm
        exact nd'.1 (by show p.1 ∈ _; rw [← hm]; exact List.mem_map_of_mem (f := fun x : Str × Int => x.1) hq)
theorem merge_w {ls : List (Str × Int)} (nd : (ls.map (·.1)).Nodup) : mergeK [] (wts ls) = wts ls := merge_new ls [] nd (fun _ _ q => nomatch q)
theorem prs_kv {K : W.Frag} {H : Hp} : ∀ {ps : List Addr} {ls : List (Str × Int)}, Prs H ps ls → Paired (fun (p : Addr) (kv : Key × V) => SqT K H p [kV kv.1, kv.2]) ps (wts ls)
  | _, _, .nil => .nil
  | _, _, .cons a b => .cons (SqT.of a) (prs_kv b)
/-- the rule that a tie tells stands at r -/
def IsRule (A CT CP CL : Addr) (H : Hp) (r : Addr) (td : TD) (os : List Str) : Prop := match td with
  | .loo xs => IsL CL H r (srt xs) (srt os)
  | .sum ls q => IsT A CT H r q (ordW ls) (srt (ls.map (·.1))) (srt os)
  | .pro xs ys q => IsP A CP H r q (srt xs) (srt ys) (srt (xs ++ ys)) (srt os)
theorem IsRule.ext {A CT CP CL : Addr} {H H' : Hp} {r : Addr} {td : TD} {os : List Str} (e : Am.Ext H H') (h : IsRule A CT CP CL H r td os) : IsRule A CT CP CL H' r td os := by
  cases td with
  | loo xs => exact IsL.ext e h
  | sum ls q => exact IsT.ext e h
  | pro xs ys q => exact IsP.ext e h
def pm4 {α : Type} (us ws : List α) : List α := match ws with
  | [f, r, w, l] => us ++ [l, r, f, w]
  | _ => us ++ ws
structure RC (P : Program) (w : World) (K : W.Frag) (mg : Str → Option Value) (base : Heap) (A CT CP CL : Addr) : Prop where
  mT : mg "Total" = some (.ref CT)
  mP : mg "Product" = some (.ref CP)
  mL : mg "Loose" = some (.ref CL)
  kT : ∃ fI fd, Mk K CT fI ∧ FnOk P w K mg base CX0 5 fI fd ["self", "weights", "total", "ways"] (spInT K A CT) ∧ KBn K fd ["self", "weights", "total", "ways"] 3 [("ways" : Str)] (fun us ws => us ++ ws) (fun us ws => us ++ ws) ∧
    KBn K fd ["self", "weights", "total", "ways"] 1 [("ways" : Str), "total", "weights"] (fun us ws => us ++ ws.reverse) (fun us ws => us ++ ws.reverse)
  kP : ∃ fI fd, Mk K CP fI ∧ FnOk P w K mg base CX0 5 fI fd nInP (spInP K A CP) ∧ KBn K fd nInP 4 [("ways" : Str)] (fun us ws => us ++ ws) (fun us ws => us ++ ws) ∧ KBn K fd nInP 1 [("factor" : Str), "right", "ways", "left"] pm4 pm4
  kL : ∃ fI fd, Mk K CL fI ∧ FnOk P w K mg base CX0 4 fI fd ["self", "fields", "ways"] (spInL K CL) ∧ KBn K fd ["self", "fields", "ways"] 2 [("ways" : Str)] (fun us ws => us ++ ws) (fun us ws => us ++ ws) ∧
    KBn K fd ["self", "fields", "ways"] 1 [("ways" : Str), "fields"] (fun us ws => us ++ ws.reverse) (fun us ws => us ++ ws.reverse)
/-- a Total's own dict is new -/
def FreshD (CT : Addr) (H H' : Hp) (r : Addr) (td : TD) : Prop := match td with
  | .sum _ _ => ∀ (dx : Addr) (fs : List (Str × V)) (pd : Addr), H' r = some (.ins CT dx fs) → fs.lookup ("_weights" : Str) = some (V.ref pd) → H pd = none
  | _ => True
theorem FreshD.back {CT : Addr} {H H1 H' : Hp} {r : Addr} {td : TD} (e : Am.Ext H H1) (h : FreshD CT H1 H' r td) : FreshD CT H H' r td := by
  cases td with
  | loo xs => trivial
  | sum ls q => exact fun dx fs pd a b => e.gone (h dx fs pd a b)
  | pro xs ys q => trivial
/-- a new rule as the tie tells -/
def NewR (A CT CP CL : Addr) (H : Hp) (Q : VK) (td : TD) (os : List Str) : Prop := ∀ (r : Addr) (H' : Hp), Am.Ext H H' → H r = none → IsRule A CT CP CL H' r td os → FreshD CT H H' r td → Q (.ref r) H'
section
variable {P : Program} {w : World} {K : W.Frag} {mg : Str → Option Value} {base : Heap} {f A C CT CP CL : Addr} {fd : FuncData} {t t2 t3 : Tok}
theorem ext_new2 {H : Hp} {x dx : Addr} {o o2 : HO} (hx : H x = none) (hd : H dx = none) : Am.Ext H (upd (upd H dx o) x o2) := fun b u hb => by
  rw [upd_ne (ne_of_none hb hx), upd_ne (ne_of_none hb hd)]
  exact hb
/-- the new instance's init, as the maker wants it -/
theorem inL_new {H : Hp} {Q : VK} {a : Addr} {v : V} {xs os : List Str} (ha : SeqH K H a (xs.map V.str)) (nx : Nms xs) (ne : xs ≠ []) (hv : WaysV K H v (srt xs) (srt os)) (z : NewR A CT CP CL H Q (.loo xs) os) :
    ∀ x dx, H x = none → H dx = none → dx ≠ x → spInL K CL [.ref x, .ref a, v] (upd (upd H dx (.own x)) x (.ins CL dx [])) (fun u H2 => u = .non ∧ Q (.ref x) H2) E0 := by
  intro x dx hx hdx nq
  have e := ext_new2 (o := .own x) (o2 := .ins CL dx []) hx hdx
  refine ⟨x, dx, a, v, xs, srt os, rfl, upd_same, ha.ext e, nx, ne, hv.ext e, fun H' pf pw e2 tf tw => ⟨rfl, ?_⟩⟩
  have hi := e2 _ _ upd_same
  refine z x _ (fun b u hb => ?_) hx ⟨dx, pf, pw, upd_same, by show upd _ _ _ _ = _; rw [upd_ne (tp_ne hi tf)]; exact tf, by show upd _ _ _ _ = _; rw [upd_ne (tp_ne hi tw)]; exact tw⟩ trivial
  rw [upd_ne (ne_of_none hb hx)]
  exact e2 _ _ (e _ _ hb)
theorem inT_new {H : Hp} {Q : VK} {a : Addr} {u v : V} {ls : List (Str × Int)} {q : Rat} {os : List Str} (ha : H a = some (.dK (wts ls))) (nx : Nms (ls.map (·.1))) (ne : ls ≠ []) (n0 : ∀ p ∈ ls, p.2 ≠ 0) (nu : Num A H u q) (sq : Sz q) (hv : WaysV K H v (srt (ls.map (·.1))) (srt os))
    (z : NewR A CT CP CL H Q (.sum ls q) os) : ∀ x dx, H x = none → H dx = none → dx ≠ x → spInT K A CT [.ref x, .ref a, u, v] (upd (upd H dx (.own x)) x (.ins CT dx [])) (fun u H2 => u = .non ∧ Q (.ref x) H2) E0 := by
  intro x dx hx hdx nq
  have e := ext_new2 (o := .own x) (o2 := .ins CT dx []) hx hdx
  refine ⟨x, dx, a, u, v, ls, q, srt os, rfl, upd_same, e _ _ ha, nx, ne, n0, nu.ext e, sq, hv.ext e, fun H' pt pf pd pw e2 ip tf hd hn tw => ⟨rfl, ?_⟩⟩
  have hi := e2 _ _ upd_same
  obtain ⟨dq, hp⟩ := ip
  have npx : pt ≠ x := fun q => by
    rw [q, hi] at hp
    injection Option.some.inj hp with _ _ q3
    cases q3
  refine z x _ (fun b u hb => ?_) hx ⟨dx, pt, pf, pd, pw, upd_same, ⟨dq, by rw [upd_ne npx]; exact hp⟩, by show upd _ _ _ _ = _; rw [upd_ne (tp_ne hi tf)]; exact tf, by rw [upd_ne (ne_of hd hi (fun q => nomatch q))]; exact hd, by show upd _ _ _ _ = _; rw [upd_ne (tp_ne hi tw)]; exact tw⟩ (fun dx' fs pd' h1 h2 => ?_)
  rotate_left
  · rw [upd_same] at h1
    injection Option.some.inj h1 with _ _ h3
    subst h3
    have h4 : (fldT pt pf pd pw).lookup ("_weights" : Str) = some (V.ref pd) := rfl
    rw [h4] at h2
    injection Option.some.inj h2 with h5
    rw [← h5]
    exact e.gone hn
  rw [upd_ne (ne_of_none hb hx)]
  exact e2 _ _ (e _ _ hb)
theorem inP_new {H : Hp} {Q : VK} {a b : Addr} {u v : V} {xs ys : List Str} {q : Rat} {os : List Str} (ha : SeqH K H a (xs.map V.str)) (hb : SeqH K H b (ys.map V.str)) (nx : Nms (xs ++ ys)) (ne : xs ++ ys ≠ []) (nu : Num A H u q) (sq : Sz q) (q0 : q ≠ 0) (hv : WaysV K H v (srt (xs ++ ys)) (srt os))
    (z : NewR A CT CP CL H Q (.pro xs ys q) os) : ∀ x dx, H x = none → H dx = none → dx ≠ x → spInP K A CP [.ref x, .ref a, .ref b, u, v] (upd (upd H dx (.own x)) x (.ins CP dx [])) (fun u H2 => u = .non ∧ Q (.ref x) H2) E0 := by
  intro x dx hx hdx nq
  have e := ext_new2 (o := .own x) (o2 := .ins CP dx []) hx hdx
  refine ⟨x, dx, a, b, u, v, xs, ys, q, srt os, rfl, upd_same, ha.ext e, hb.ext e, nx, ne, nu.ext e, sq, q0, hv.ext e, fun H' pt pl pr pf pw e2 ip tl tr tf tw => ⟨rfl, ?_⟩⟩
  have hi := e2 _ _ upd_same
  obtain ⟨dq, hp⟩ := ip
  have npx : pt ≠ x := fun q => by
    rw [q, hi] at hp
    injection Option.some.inj hp with _ _ q3
    cases q3
  have up : ∀ {a : Addr} {xs : List Str} {o : HO}, Tp H' a xs → Tp (upd H' x (.ins CP dx (fldP pt pl pr pf pw))) a xs := fun {a xs o} h => by
    show upd _ _ _ _ = _
    rw [upd_ne (tp_ne hi h)]
    exact h
  refine z x _ (fun b u hb => ?_) hx ⟨dx, pt, pl, pr, pf, pw, upd_same, ⟨dq, by rw [upd_ne npx]; exact hp⟩, up (o := .own x) tl, up (o := .own x) tr, up (o := .own x) tf, up (o := .own x) tw⟩ trivial
  rw [upd_ne (ne_of_none hb hx)]
  exact e2 _ _ (e _ _ hb)
theorem ways_os {H : Hp} {po : Addr} {fs ins os : List Str} (ho : Ls H po os) (hf : ∀ x, x ∈ fs ↔ x ∈ ins) (on : os ≠ []) (od : os.Nodup) (oi : ∀ o ∈ os, o ∈ ins) (few : os.length ≤ 100) : WaysV K H (.ref po) fs (srt os) :=
  .inr ⟨po, os, rfl, .inl ho, on, few, od, fun x hx => (hf x).mpr (oi x hx), rfl⟩
end
end KD

set_option Elab.async false
set_option linter.all false
set_option maxRecDepth 100000
set_option maxHeartbeats 2000000
set_option exponentiation.threshold 20000
/-! _law_rule. -/
namespace KD
open PySem PySem.Spec PyProof.Rows L2 Oo Gd Am KA SqX
section
variable {P : Program} {w : World} {K : W.Frag} {mg : Str → Option Value} {base : Heap} {f A C CT CP CL : Addr} {fd : FuncData} {t t2 t3 : Tok}
def spRule (A CT CP CL : Addr) : Sp := fun vs H Q _ => ∃ (t : Addr) (td : TD) (os : List Str), vs = [.ref t] ∧ TieAt H t td os ∧ TdOk td os ∧ NewR A CT CP CL H Q td os
theorem scRule : FnScope ["_law_tie_here"] ["_law_tie_here"] (defScope (top 59)) := ⟨rfl, rfl, rfl, by decide +kernel, rfl, by decide +kernel, by decide +kernel⟩
theorem sz_of {q : Rat} (h : Low 200 q) : Sz q := ⟨Nat.lt_trans h.1 (Nat.pow_lt_pow_right (by decide) (by decide)), Nat.lt_trans h.2 (Nat.pow_lt_pow_right (by decide) (by decide))⟩
theorem bn {q : Rat} (h : Low 200 q) : q.num.natAbs < 2 ^ 8999 := Nat.lt_trans h.1 (Nat.pow_lt_pow_right (by decide) (by decide))
theorem bd {q : Rat} (h : Low 200 q) : ((q.den : Int)).natAbs < 2 ^ 8999 := Nat.lt_trans (by rw [Int.natAbs_natCast]; exact h.2) (Nat.pow_lt_pow_right (by decide) (by decide))
theorem NewR.after {H H' : Hp} {Q : VK} {td : TD} {os : List Str} (e : Am.Ext H H') (z : NewR A CT CP CL H Q td os) : NewR A CT CP CL H' Q td os := fun r H2 e2 n i fd => z r H2 (e.trans e2) (e.gone n) i (fd.back e)
theorem ok_rule (fr : Frees mg) (B : Base P w K mg base A) (R : RC P w K mg base A CT CP CL) (F : Fun K "_law_rule" "_law_rule" (top 59) f fd) : FnOk P w K mg base CX0 7 f fd ["_law_tie_here"] (spRule A CT CP CL) := by
  refine F.ok scRule (fun vs H Q E h => ?_) (fun cdv A' outer s H vs Q E hr h => ?_)
  · obtain ⟨t, td, os, rfl, _⟩ := h
    rfl
  · obtain ⟨t, td, os, rfl, ⟨po, ho, hd⟩, ok, z⟩ := h
    have isk : IsK K := ⟨trivial⟩
    obtain ⟨tI, tfd, MT, FT, BT, _⟩ := R.kT
    obtain ⟨pI, pfd, MP, FP, BP, _⟩ := R.kP
    obtain ⟨lI, lfd, ML, FL, BL, _⟩ := R.kL
    refine ⟨_, pss_cons (ps_if (pt_cmpR op_eq (pe_ix (ixK isk) (pv 0) pe_int (fun _ _ => rfl)) pe_str (nomark _)) (pss_one (ps_ret (pe_makeK ML FL (hr.mono (by decide)) rfl R.mL BL pass0 (pa_cons (pe_ix (ixK isk) (pv 0) pe_int (fun _ _ => rfl)) pa_nil) (pk_cons (pe_ix (ixK isk) (pv 0) pe_int (fun _ _ => rfl)) pk_nil)))) pss_nil)
      (pss_cons (ps_if (pt_cmpR op_eq (pe_ix (ixK isk) (pv 0) pe_int (fun _ _ => rfl)) pe_str (nomark _)) (pss_one (ps_ret (pe_makeK MT FT (hr.mono (by decide)) rfl R.mT BT pass0 (pa_cons (pe_callTy (call_dictP rfl) rfl (fr.h _ (by decide +kernel)) (by decide +kernel) (pa_cons (pe_ix (ixK isk) (pv 0) pe_int (fun _ _ => rfl)) pa_nil))
          (pa_cons (pe_mk2 B (hr.mono (by decide)) rfl (pa_cons (pe_ix (ixK isk) (pe_ix (ixK isk) (pv 0) pe_int (fun _ _ => rfl)) pe_int (fun _ _ => rfl)) (pa_cons (pe_ix (ixK isk) (pe_ix (ixK isk) (pv 0) pe_int (fun _ _ => rfl)) pe_int (fun _ _ => rfl)) pa_nil))) pa_nil)) (pk_cons (pe_ix (ixK isk) (pv 0) pe_int (fun _ _ => rfl)) pk_nil)))) pss_nil)
      (pss_one (ps_ret (pe_makeK MP FP (hr.mono (by decide)) rfl R.mP BP pass0 (pa_cons (pe_ix (ixK isk) (pe_ix (ixK isk) (pv 0) pe_int (fun _ _ => rfl)) pe_int (fun _ _ => rfl)) (pa_cons (pe_ix (ixK isk) (pe_ix (ixK isk) (pv 0) pe_int (fun _ _ => rfl)) pe_int (fun _ _ => rfl))
          (pa_cons (pe_mk2 B (hr.mono (by decide)) rfl (pa_cons (pe_ix (ixK isk) (pe_ix (ixK isk) (pv 0) pe_int (fun _ _ => rfl)) pe_int (fun _ _ => rfl)) (pa_cons (pe_ix (ixK isk) (pe_ix (ixK isk) (pv 0) pe_int (fun _ _ => rfl)) pe_int (fun _ _ => rfl)) pa_nil))) pa_nil))) (pk_cons (pe_ix (ixK isk) (pv 0) pe_int (fun _ _ => rfl)) pk_nil))))), ?_⟩
    have fo := ok.of
    cases td with
    | loo xs =>
      obtain ⟨px, hx, htt⟩ := hd
      refine ⟨_, rfl, ix4 (i := 0) htt rfl ⟨rfl, _, rfl, if_yes ⟨_, rfl, ix4 (i := 1) htt rfl ⟨_, rfl, ix4 (i := 3) htt rfl ⟨rfl, rfl, ?_⟩⟩⟩⟩⟩
      exact inL_new (.inl hx) ok.nm ok.ne (ways_os ho (srt_mem xs) ok.on ok.od ok.oi (by have := fo.2; omega)) z
    | sum ls q =>
      obtain ⟨pl, ps, pq, hl, hp, hq, htt⟩ := hd
      obtain ⟨n0, lq⟩ := ok.dt
      have fw : ls.length < 64 := by have := ok.nm.few; rwa [show TD.ins (.sum ls q) = ls.map (·.1) from rfl, List.length_map] at this
      refine ⟨_, rfl, ix4 (i := 0) htt rfl ⟨rfl, _, rfl, if_no s_sl ⟨_, rfl, ix4 (i := 0) htt rfl ⟨rfl, _, rfl, if_yes ⟨_, rfl, ix4 (i := 1) htt rfl ⟨pl, ps, wts ls, rfl, SqL.of hl, prs_kv hp, fun d hd => ?_⟩⟩⟩⟩⟩⟩
      rw [merge_w ok.nm.nd]
      have e1 := Am.Ext.new (o := .dK (wts ls)) hd
      refine ⟨_, rfl, ix4 (i := 2) (e1 _ _ htt) rfl (ix4 (i := 0) (e1 _ _ hq) rfl ⟨_, rfl, ix4 (i := 2) (e1 _ _ htt) rfl (ix4 (i := 1) (e1 _ _ hq) rfl ⟨_, _, rfl, den0 q, bn lq, bd lq, fun r H2 e2 n2 ir => ?_⟩)⟩)⟩
      rw [Rat.num_divInt_den] at ir
      have e12 := e1.trans e2
      refine ⟨_, rfl, ix4 (i := 3) (e12 _ _ htt) rfl ⟨rfl, rfl, ?_⟩⟩
      exact inT_new (e2 _ _ upd_same) ok.nm (fun e => ok.ne (by rw [show TD.ins (.sum ls q) = ls.map (·.1) from rfl, e]; rfl)) (fun p hp => (n0 p hp).1) (.inr ⟨r, rfl, ir⟩) (sz_of lq) (ways_os (e12 _ _ ho) (srt_mem _) ok.on ok.od ok.oi (by have := fo.2; omega)) (z.after e12)
    | pro xs ys q =>
      obtain ⟨pp, px, py, pq, hx, hy, hpp, hq, htt⟩ := hd
      obtain ⟨q0, lq⟩ := ok.dt
      refine ⟨_, rfl, ix4 (i := 0) htt rfl ⟨rfl, _, rfl, if_no s_pl ⟨_, rfl, ix4 (i := 0) htt rfl ⟨rfl, _, rfl, if_no s_ps ⟨_, rfl, ix4 (i := 1) htt rfl (ix4 (i := 0) hpp rfl ⟨_, rfl, ix4 (i := 1) htt rfl (ix4 (i := 1) hpp rfl ?_)⟩)⟩⟩⟩⟩⟩
      refine ⟨_, rfl, ix4 (i := 2) htt rfl (ix4 (i := 0) hq rfl ⟨_, rfl, ix4 (i := 2) htt rfl (ix4 (i := 1) hq rfl ⟨_, _, rfl, den0 q, bn lq, bd lq, fun r H2 e2 n2 ir => ?_⟩)⟩)⟩
      rw [Rat.num_divInt_den] at ir
      refine ⟨_, rfl, ix4 (i := 3) (e2 _ _ htt) rfl ⟨rfl, rfl, ?_⟩⟩
      exact inP_new (.inl (e2 _ _ hx)) (.inl (e2 _ _ hy)) ok.nm ok.ne (.inr ⟨r, rfl, ir⟩) (sz_of lq) q0 (ways_os (e2 _ _ ho) (srt_mem _) ok.on ok.od ok.oi (by have := fo.2; omega)) (z.after e2)
end
end KD

set_option Elab.async false
set_option linter.all false
set_option maxRecDepth 100000
set_option maxHeartbeats 2000000
set_option exponentiation.threshold 20000
/-! _law_wide_tie. -/
namespace KD
open PySem PySem.Spec PyProof.Rows L2 Oo Gd Am KA SqX
/-- its numbers are small -/
def Sm (td : TD) : Prop := match td with
  | .loo _ => True
  | .sum ls q => (∀ p ∈ ls, p.2.natAbs < 2 ^ 100) ∧ Low 100 q
  | .pro _ _ q => Low 100 q
/-- a tie whose lists lie where S says -/
def TieIn (S : Addr → Prop) (H : Hp) (t : Addr) (td : TD) (os : List Str) : Prop := ∃ po, S po ∧ Ls H po os ∧ match td with
  | .loo xs => ∃ px, S px ∧ Ls H px xs ∧ H t = some (.tup [.str "loose", .ref px, .non, .ref po])
  | .sum ls q => ∃ pl ps pq, S pl ∧ H pl = some (.lst (ps.map V.ref)) ∧ Prs H ps ls ∧ Fr2 H pq q ∧ H t = some (.tup [.str "sum", .ref pl, .ref pq, .ref po])
  | .pro xs ys q => ∃ pp px py pq, (S px ∧ S py) ∧ Ls H px xs ∧ Ls H py ys ∧ H pp = some (.tup [.ref px, .ref py]) ∧ Fr2 H pq q ∧ H t = some (.tup [.str "product", .ref pp, .ref pq, .ref po])
theorem TieIn.at {S : Addr → Prop} {H : Hp} {t : Addr} {td : TD} {os : List Str} (h : TieIn S H t td os) : TieAt H t td os := by
  obtain ⟨po, _, ho, h⟩ := h
  cases td with
  | loo xs => obtain ⟨px, _, h⟩ := h; exact ⟨po, ho, px, h⟩
  | sum ls q => obtain ⟨pl, ps, pq, _, h⟩ := h; exact ⟨po, ho, pl, ps, pq, h⟩
  | pro xs ys q => obtain ⟨pp, px, py, pq, _, h⟩ := h; exact ⟨po, ho, pp, px, py, pq, h⟩
theorem TieIn.imp {S S' : Addr → Prop} {H : Hp} {t : Addr} {td : TD} {os : List Str} (i : ∀ a, S a → S' a) (h : TieIn S H t td os) : TieIn S' H t td os := by
  obtain ⟨po, s, ho, h⟩ := h
  cases td with
  | loo xs => obtain ⟨px, s2, h⟩ := h; exact ⟨po, i _ s, ho, px, i _ s2, h⟩
  | sum ls q => obtain ⟨pl, ps, pq, s2, h⟩ := h; exact ⟨po, i _ s, ho, pl, ps, pq, i _ s2, h⟩
  | pro xs ys q => obtain ⟨pp, px, py, pq, ⟨s2, s3⟩, h⟩ := h; exact ⟨po, i _ s, ho, pp, px, py, pq, ⟨i _ s2, i _ s3⟩, h⟩
theorem TieAt.in_ {H : Hp} {t : Addr} {td : TD} {os : List Str} (h : TieAt H t td os) : TieIn (fun a => H a ≠ none) H t td os := by
  have n : ∀ {a : Addr} {o : HO}, H a = some o → H a ≠ none := fun e q => by rw [e] at q; cases q
  obtain ⟨po, ho, h⟩ := h
  cases td with
  | loo xs => obtain ⟨px, a, b⟩ := h; exact ⟨po, n ho, ho, px, n a, a, b⟩
  | sum ls q => obtain ⟨pl, ps, pq, a, b⟩ := h; exact ⟨po, n ho, ho, pl, ps, pq, n a, a, b⟩
  | pro xs ys q => obtain ⟨pp, px, py, pq, a, b, c⟩ := h; exact ⟨po, n ho, ho, pp, px, py, pq, ⟨n a, n b⟩, a, b, c⟩
theorem Prs.put {H : Hp} {D : Addr} {ys : List V} {o : HO} (hD : H D = some (.lst ys)) : ∀ {ps : List Addr} {ls : List (Str × Int)}, Prs H ps ls → Prs (upd H D o) ps ls
  | _, _, .nil => .nil
  | _, _, .cons a b => .cons (by rw [upd_ne (ne_of a hD (fun e => nomatch e))]; exact a) (Prs.put hD b)
/-- another list is changed -/
theorem TieIn.upd {H : Hp} {t D : Addr} {td : TD} {os : List Str} {ys : List V} {o : HO} (h : TieIn (· ≠ D) H t td os) (hD : H D = some (.lst ys)) : TieIn (· ≠ D) (L2.upd H D o) t td os := by
  have tp : ∀ {a xs}, H a = some (.tup xs) → L2.upd H D o a = some (.tup xs) := fun a => by
    rw [upd_ne (ne_of a hD (fun e => nomatch e))]
    exact a
  have ls : ∀ {a : Addr} {u : HO}, a ≠ D → H a = some u → L2.upd H D o a = some u := fun n a => by
    rw [upd_ne n]
    exact a
  obtain ⟨po, s, ho, h⟩ := h
  cases td with
  | loo xs => obtain ⟨px, s2, a, b⟩ := h; exact ⟨po, s, ls s ho, px, s2, ls s2 a, tp b⟩
  | sum l q => obtain ⟨pl, ps, pq, s2, a, b, c, d⟩ := h; exact ⟨po, s, ls s ho, pl, ps, pq, s2, ls s2 a, Prs.put hD b, tp c, tp d⟩
  | pro xs ys q => obtain ⟨pp, px, py, pq, s2, a, b, c, d, f⟩ := h; exact ⟨po, s, ls s ho, pp, px, py, pq, s2, ls s2.1 a, ls s2.2 b, tp c, tp d, tp f⟩
theorem TieIn.ext {S : Addr → Prop} {H H' : Hp} {t : Addr} {td : TD} {os : List Str} (e : Am.Ext H H') (h : TieIn S H t td os) : TieIn S H' t td os := by
  obtain ⟨po, s, ho, h⟩ := h
  cases td with
  | loo xs => obtain ⟨px, s2, a, b⟩ := h; exact ⟨po, s, e _ _ ho, px, s2, e _ _ a, e _ _ b⟩
  | sum ls q => obtain ⟨pl, ps, pq, s2, a, b, c, d⟩ := h; exact ⟨po, s, e _ _ ho, pl, ps, pq, s2, e _ _ a, b.ext e, e _ _ c, e _ _ d⟩
  | pro xs ys q => obtain ⟨pp, px, py, pq, s2, a, b, c, d, f⟩ := h; exact ⟨po, s, e _ _ ho, pp, px, py, pq, s2, e _ _ a, e _ _ b, e _ _ c, e _ _ d, e _ _ f⟩
/-- a new tie -/
def NewTie (p : Addr) (spots : List Str) (H : Hp) (Q : VK) : Prop := ∀ (t : Addr) (H' : Hp) (td : TD) (os : List Str), Kp p H H' → H t = none → t ≠ p → TieIn (fun a => H a = none) H' t td os → TdOk td os → Sm td → (∀ x ∈ td.ins, x ∈ spots) → td.ins.length ≤ 4 → Q (.ref t) H'
theorem prs_new {H : Hp} {ps : List Addr} {ls : List (Str × Int)} {p : Addr} {x : Str} {n : Int} (h : Prs H ps ls) (hp : H p = some (.tup [.str x, .int n])) : Prs H (ps ++ [p]) (ls ++ [(x, n)]) := by
  induction h with
  | nil => exact .cons hp .nil
  | cons a _ ih => exact .cons a ih
theorem Ls.kp {p a : Addr} {H H' : Hp} {xs : List Str} (k : Kp p H H') (n : a ≠ p) (h : Ls H a xs) : Ls H' a xs := k.at n h
theorem ls_ne {p a : Addr} {H : Hp} {xs : List Str} (hp : Pot H p) (h : Ls H a xs) (ne : xs ≠ []) : a ≠ p := by
  obtain ⟨u, v, q, _⟩ := hp
  intro e
  have h' : H p = some (.lst (xs.map V.str)) := by rw [← e]; exact h
  rw [q] at h'
  have := Option.some.inj h'
  injection this with e2
  cases xs with
  | nil => exact ne rfl
  | cons x r => rw [List.map_cons] at e2; injection e2 with e3; cases e3
theorem Prs.mono {H H' : Hp} (f : ∀ a xs, H a = some (.tup xs) → H' a = some (.tup xs)) : ∀ {ps : List Addr} {ls : List (Str × Int)}, Prs H ps ls → Prs H' ps ls
  | _, _, .nil => .nil
  | _, _, .cons a b => .cons (f _ _ a) (Prs.mono f b)
theorem kp_tup {p : Addr} {H H' : Hp} (k : Kp p H H') (hp : Pot H p) {a : Addr} {xs : List V} (h : H a = some (.tup xs)) : H' a = some (.tup xs) := by
  obtain ⟨u, v, q, _⟩ := hp
  exact k.at (ne_of h q (fun e => nomatch e)) h
theorem cut_from (xs : List V) (i : Nat) (h : i ≤ xs.length) : cutV xs (some (i : Int)) none = xs.drop i := by
  unfold cutV
  rw [HT.sIx_none, HT.sIx_nat, Nat.min_eq_left h, List.take_of_length_le (by rw [List.length_drop]; exact Nat.le_refl _)]
section
variable {P : Program} {w : World} {K : W.Frag} {mg : Str → Option Value} {base : Heap} {f A C CT CP CL : Addr} {fd : FuncData} {t t2 t3 : Tok}
def spTie : Sp := fun vs H Q _ => ∃ (p a : Addr) (spots : List Str), vs = [.ref p, .ref a] ∧ Pot H p ∧ Ls H a spots ∧ Nms spots ∧ spots ≠ [] ∧ NewTie p spots H Q
abbrev nTie : List Str := ["_law_pot_here", "_law_spots", "_law_inside", "_law_outs", "_law_sort", "_law_cut", "_law_scale", "_law_spot"]
theorem scTie : FnScope nTie ["_law_pot_here", "_law_spots"] (defScope (top 58)) := ⟨rfl, rfl, rfl, by decide +kernel, rfl, by decide +kernel, by decide +kernel⟩
theorem ok_tie (fr : Frees mg) (D1 : DnD P w K mg base) (DS : Dn P w K mg base CX0 2 "_law_some" ["_law_pot_here", "_law_things", "_law_most"] (spSome K)) (DW : Dn P w K mg base CX0 3 "_law_weight" ["_law_pot_here"] spWei) (DF : Dn P w K mg base CX0 3 "_law_fraction" ["_law_pot_here"] spFrac)
    (F : Fun K "_law_tie" "_law_tie" (top 58) f fd) : FnOk P w K mg base CX0 4 f fd ["_law_pot_here", "_law_spots"] spTie := by
  refine F.ok scTie (fun vs H Q E h => ?_) (fun cdv A' outer s H vs Q E hr h => ?_)
  · obtain ⟨p, a, spots, rfl, _⟩ := h
    rfl
  · obtain ⟨p, a, spots, rfl, hp, ha, nm, ne, z⟩ := h
    have nd := scTie.nd
    have isk : IsK K := ⟨trivial⟩
    have big : (1000000 : Nat) ≤ sizeLine := by decide
    refine ⟨_, pss_cons (ps_set (i := 2) nd rfl (.inl rfl) (pe_dn DS hr (by rfl) (by decide) (pa_cons (pv 0) (pa_cons (pv 1) (pa_cons pe_int pa_nil)))))
      (C8.pss_cut (ps_set (i := 3) nd rfl (.inl rfl) (pe_ifExp (pt_cmpR op_gt (pe_dn D1 hr (by rfl) (by decide) (pa_cons (pv 0) (pa_cons pe_int pa_nil))) pe_int (nomark _)) (pv 2) (pe_dn DS hr (by rfl) (by decide) (pa_cons (pv 0) (pa_cons (pv 2) (pa_cons pe_int pa_nil))))))
      (pss_cons (ps_set (i := 4) nd rfl (.inl rfl) (pe_dn D1 hr (by rfl) (by decide) (pa_cons (pv 0) (pa_cons pe_int pa_nil))))
      (pss_cons (ps_if (pt_cmpR op_eq (pv 4) pe_int (nomark _)) (pss_one (ps_ret (pe_tup (pa_cons pe_str (pa_cons (pv 2) (pa_cons pe_non (pa_cons (pv 3) pa_nil))))))) pss_nil)
      (pss_cons (ps_if (pt_cmpR op_eq (pv 4) pe_int (nomark _)) (pss_one (ps_ret (pe_tup (pa_cons pe_str (pa_cons (pe_lc (own := [("_law_spot", 7)]) (g := gName 7) (tt := tYes) rfl nd (pi_list (pv 2)) (blkOk_by (N := nTie) (sc := defScope (top 58)) (by decide +kernel)) (fun _ _ _ _ _ => pg_name (i := 7) nd rfl (Or.inl rfl)) (fun _ _ _ _ _ => pts_nil)
          (fun s1 H1 C1 c1 f1 => by exact pe_tup (pa_cons (pv 7) (pa_cons (pe_dn DW hr (by rfl) (by decide) (pa_cons (pv 0) pa_nil)) pa_nil))))
        (pa_cons (pe_dn DF hr (by rfl) (by decide) (pa_cons (pv 0) pa_nil)) (pa_cons (pv 3) pa_nil))))))) pss_nil)
      (pss_cons (ps_par (i := 5) (j := 6) rfl nd rfl rfl (by decide) rfl rfl (pa_cons (pe_dn D1 hr (by rfl) (by decide) (pa_cons (pv 0) (pa_cons (pe_op op_add (pe_callB (lenK isk) rfl (fr.h _ (by decide +kernel)) (by decide +kernel) (pa_cons (pv 2) pa_nil)) pe_int) pa_nil))) (pa_cons (pe_dn DF hr (by rfl) (by decide) (pa_cons (pv 0) pa_nil)) pa_nil)) (by rfl))
      (pss_one (ps_ret (pe_tup (pa_cons pe_str (pa_cons (pe_tup (pa_cons (pe_slice sl_list (pv 2) po_none (po_some (pv 5))) (pa_cons (pe_slice sl_list (pv 2) (po_some (pv 5)) po_none) pa_nil)))
        (pa_cons (pe_ifExp (pt_cmpR op_ne (pe_ix (ixK isk) (pv 6) pe_int (fun _ _ => rfl)) pe_int (nomark _)) (pv 6) (pe_tup (pa_cons pe_int (pa_cons pe_int pa_nil)))) (pa_cons (pv 3) pa_nil)))))))))))), ?_⟩
    refine ⟨_, rfl, _, rfl, p, a, 4, spots, rfl, hp, ha, nm.nd, ne, nm.few, by decide, by decide, fun L H1 ins k1 nL Lp hL si => ?_⟩
    obtain ⟨ind, isub, ine, il⟩ := si
    have inm : Nms ins := ⟨fun x hx => nm.ok x (isub x hx), ind, by omega⟩
    have s0 : L2.start nTie [.ref p, .ref a] = [some (.ref p), some (.ref a), none, none, none, none, none, none] := rfl
    refine ⟨fun σ H2 => ∃ (po : Addr) (os : List Str), σ = [some (.ref p), some (.ref a), some (.ref L), some (.ref po), none, none, none, none] ∧ Kp p H H2 ∧ Ls H2 L ins ∧ Ls H2 po os ∧ po ≠ p ∧ os.Nodup ∧ os ≠ [] ∧ (∀ o ∈ os, o ∈ ins) ∧ H po = none, ?_, ?_⟩
    · refine ⟨_, rfl, p, 3, rfl, k1.pot, by decide, by decide, fun d H2 d0 d1 k2 => ⟨_, _, rfl, rfl, _, rfl, ite2 (fun _ => ?_) (fun _ => ?_)⟩⟩
      · exact ⟨_, rfl, L, ins, rfl, k1.trans k2, k2.at Lp hL, k2.at Lp hL, Lp, ind, ine, fun _ h => h, nL⟩
      · refine ⟨_, rfl, _, rfl, p, L, 4, ins, rfl, k2.pot, k2.at Lp hL, ind, ine, inm.few, by decide, by decide, fun po H3 os k3 n3 pop ho so => ?_⟩
        exact ⟨po, os, rfl, (k1.trans k2).trans k3, k3.at Lp (k2.at Lp hL), ho, pop, so.1, so.2.2.1, so.2.1, (k1.trans k2).gone pop n3⟩
    rintro σ H2 ⟨po, os, rfl, k2, hL2, ho, pop, ond, one, osub, npo⟩
    have dtL : TdOk (.loo ins) os := ⟨inm, ine, ond, osub, one, trivial⟩
    refine ⟨_, rfl, p, 3, rfl, k2.pot, by decide, by decide, fun s H3 s0' s1 k3 => ?_⟩
    have k03 := k2.trans k3
    have hL3 := k3.at Lp hL2
    have ho3 := k3.at pop ho
    have gone : ∀ {H' : Hp} {T : Addr}, Kp p H H' → H' T = none → H T = none ∧ T ≠ p := fun {H' T} k n => ⟨k.gone (ne_pot k.pot n) n, ne_pot k.pot n⟩
    refine ⟨_, rfl, rfl, _, rfl, ite2 (fun _ => ?_) (fun _ => ?_)⟩
    · refine ⟨_, rfl, _, rfl, (by show 4 ≤ sizeLine; decide), fun T hT => ?_⟩
      obtain ⟨hT0, Tp'⟩ := gone k03 hT
      have eT := Am.Ext.new (o := .tup [.str "loose", .ref L, .non, .ref po]) hT
      exact z T _ (.loo ins) os (k03.trans (Kp.new k3.pot hT)) hT0 Tp' ⟨po, npo, eT _ _ ho3, L, nL, eT _ _ hL3, upd_same⟩ dtL trivial isub il
    refine ⟨_, rfl, rfl, _, rfl, ite2 (fun _ => ?_) (fun _ => ?_)⟩
    · refine ⟨_, rfl, L, rfl, ⟨_, SqL.of hL3⟩, fun D hD => ?_⟩
      have Dp := ne_pot k3.pot hD
      refine lc_it (walk_list (xs := ins.map V.str)) (fun i H' => Kp p H3 H' ∧ ∃ (ps : List Addr) (ls : List (Str × Int)), H' D = some (.lst (ps.map V.ref)) ∧ Prs H' ps ls ∧ ls.map (·.1) = ins.take i ∧ ∀ x ∈ ls, x.2 ≠ 0 ∧ x.2.natAbs < 2 ^ 100) ⟨Kp.new k3.pot hD, [], [], by rw [upd_same]; rfl, .nil, rfl, fun _ q => nomatch q⟩ (fun i H' _ h => SqL.of (h.1.at Lp hL3)) ?_ ?_
      · rintro i y H4 H5 hi ⟨k4, ps, ls, d4, pr, lm, lb⟩ ⟨rfl, hy⟩
        obtain ⟨x, hx, rfl⟩ := map_at hy
        have lps : ps.length ≤ 64 := by
          have := congrArg List.length lm
          rw [List.length_map, List.length_take] at this
          rw [prs_len pr]
          omega
        refine ⟨rfl, _, rfl, _, rfl, p, rfl, k4.pot, fun n H6 n0 nb k6 => ⟨(by show 2 ≤ sizeLine; decide), fun T hT => ?_⟩⟩
        have k46 := k4.trans k6
        have d6 := k6.at Dp d4
        have DT : D ≠ T := ne_of_none d6 hT
        have pr6 : Prs H6 ps ls := pr.mono fun a xs h => kp_tup k6 k4.pot h
        refine ⟨ps.map V.ref, by rw [upd_ne DT]; exact d6, by rw [List.length_map]; omega, (k46.trans (Kp.new k6.pot hT)).over Dp hD, ps ++ [T], ls ++ [(x, n)], ?_, ?_, ?_, ?_⟩
        · rw [upd_same, List.map_append]
          rfl
        · refine prs_new (pr6.mono fun a xs h => ?_) ?_
          · rw [upd_ne (ne_of h d6 (fun e => nomatch e)), upd_ne (ne_of_none h hT)]
            exact h
          · rw [upd_ne (Ne.symm DT), upd_same]
        · rw [List.map_append, lm, take_suc hx]
          rfl
        · intro u hu
          rcases List.mem_append.mp hu with hu | hu
          · exact lb u hu
          · rw [List.mem_singleton] at hu
            rw [hu]
            exact ⟨n0, nb⟩
      · rintro H4 ⟨k4, ps, ls, d4, pr, lm, lb⟩
        rw [List.length_map, List.take_length] at lm
        refine ⟨_, rfl, p, rfl, k4.pot, fun tq H5 q k5 n5 tqp hq lq => ⟨_, rfl, (by show 4 ≤ sizeLine; decide), fun T hT => ?_⟩⟩
        have k35 := k4.trans k5
        have k05 := k03.trans k35
        obtain ⟨hT0, Tp'⟩ := gone k05 hT
        have eT := Am.Ext.new (o := .tup [.str "sum", .ref D, .ref tq, .ref po]) hT
        have pr5 : Prs H5 ps ls := pr.mono fun a xs h => kp_tup k5 k4.pot h
        refine z T _ (.sum ls q) os (k05.trans (Kp.new k5.pot hT)) hT0 Tp' ⟨po, npo, eT _ _ (k35.at pop ho3), D, ps, tq, (gone k03 hD).1, eT _ _ (k5.at Dp d4), pr5.ext eT, eT _ _ hq, upd_same⟩ ⟨by show Nms (ls.map (·.1)); rw [lm]; exact inm, by show ls.map (·.1) ≠ []; rw [lm]; exact ine, ond, by show ∀ o ∈ os, o ∈ ls.map (·.1); rw [lm]; exact osub, one, fun x hx => ⟨(lb x hx).1, Nat.lt_trans (lb x hx).2 (by decide)⟩, lq.more (by decide)⟩ ⟨fun x hx => (lb x hx).2, lq⟩ (by show ∀ x ∈ ls.map (·.1), x ∈ spots; rw [lm]; exact isub) (by show (ls.map (·.1)).length ≤ 4; rw [lm]; exact il)
    · refine ⟨_, rfl, _, rfl, .inl ⟨L, _, rfl, .inl (SqL.of hL3), _, _, rfl, rfl, p, _, rfl, k3.pot, by rw [List.length_map]; omega, by rw [List.length_map]; have := inm.few; omega, fun c H4 c0 c1 k4 => ⟨_, rfl, p, rfl, k4.pot, fun tq H5 q k5 n5 tqp hq lq => ⟨_, _, rfl, ?_⟩⟩⟩⟩
      rw [List.length_map] at c1
      obtain ⟨j, rfl⟩ := Int.eq_ofNat_of_zero_le c0
      have hj : j ≤ ins.length := by omega
      have k35 := k4.trans k5
      have k05 := k03.trans k35
      have hL5 := k35.at Lp hL3
      have ho5 := k35.at pop ho3
      refine ⟨_, rfl, _, rfl, j, rfl, L, _, rfl, SqL.of hL5, fun X1 h1 => ?_⟩
      rw [cut_to _ j (by rw [List.length_map]; exact hj)]
      have e1 := Am.Ext.new (o := .lst ((ins.map V.str).take j)) h1
      refine ⟨_, rfl, _, rfl, j, rfl, L, _, rfl, SqL.of (e1 _ _ hL5), fun X2 h2 => ?_⟩
      rw [cut_from _ j (by rw [List.length_map]; exact hj)]
      have e2 := e1.trans (Am.Ext.new (o := .lst ((ins.map V.str).drop j)) h2)
      have nX1 : H X1 = none := (gone k05 h1).1
      have nX2 : H X2 = none := (gone k05 (e1.gone h2)).1
      have hX1 := Am.Ext.new (o := .lst ((ins.map V.str).drop j)) h2 _ _ (upd_same (H := H5) (a := X1) (o := .lst ((ins.map V.str).take j)))
      have hX2 : upd (upd H5 X1 (.lst ((ins.map V.str).take j))) X2 (.lst ((ins.map V.str).drop j)) X2 = some (.lst ((ins.map V.str).drop j)) := upd_same
      generalize upd (upd H5 X1 (.lst ((ins.map V.str).take j))) X2 (.lst ((ins.map V.str).drop j)) = H6 at e2 hX1 hX2 ⊢
      refine ⟨(by show 2 ≤ sizeLine; decide), fun T1 hT1 => ?_⟩
      have e3 := e2.then (o := .tup [.ref X1, .ref X2]) hT1
      have eT1 := Am.Ext.new (o := .tup [.ref X1, .ref X2]) hT1
      have hT1v : upd H6 T1 (.tup [.ref X1, .ref X2]) T1 = some (.tup [.ref X1, .ref X2]) := upd_same
      replace hX1 := eT1 _ _ hX1
      replace hX2 := eT1 _ _ hX2
      generalize upd H6 T1 (.tup [.ref X1, .ref X2]) = H7 at e3 hX1 hX2 hT1v ⊢
      rw [← List.map_take] at hX1
      rw [← List.map_drop] at hX2
      have tk : ins.take j ++ ins.drop j = ins := List.take_append_drop j ins
      have fin : ∀ (tq' : Addr) (H8 : Hp) (q' : Rat), Am.Ext H7 H8 → Fr2 H8 tq' q' → Low 100 q' → q' ≠ 0 → ∀ T, H8 T = none → Q (.ref T) (upd H8 T (.tup [.str "product", .ref T1, .ref tq', .ref po])) := by
        intro tq' H8 q' e8 hq' lq' q0 T hT
        have e58 := e3.trans e8
        have k58 : Kp p H5 H8 := ⟨fun b o _ hb => e58 b o hb, by
          obtain ⟨u, v, x, r⟩ := k5.pot
          exact ⟨u, v, e58 _ _ x, r⟩⟩
        have k08 := k05.trans k58
        obtain ⟨hT0, Tp'⟩ := gone k08 hT
        have eT := Am.Ext.new (o := .tup [.str "product", .ref T1, .ref tq', .ref po]) hT
        refine z T _ (.pro (ins.take j) (ins.drop j) q') os (k08.trans (Kp.new k08.pot hT)) hT0 Tp' ⟨po, npo, eT _ _ (e58 _ _ ho5), T1, X1, X2, tq', ⟨nX1, nX2⟩, eT _ _ (e8 _ _ hX1), eT _ _ (e8 _ _ hX2), eT _ _ (e8 _ _ hT1v), eT _ _ hq', upd_same⟩
          ⟨by show Nms (ins.take j ++ ins.drop j); rw [tk]; exact inm, by show ins.take j ++ ins.drop j ≠ []; rw [tk]; exact ine, ond, by show ∀ o ∈ os, o ∈ ins.take j ++ ins.drop j; rw [tk]; exact osub, one, q0, lq'.more (by decide)⟩ lq' (by show ∀ x ∈ ins.take j ++ ins.drop j, x ∈ spots; rw [tk]; exact isub) (by show (ins.take j ++ ins.drop j).length ≤ 4; rw [tk]; exact il)
      have hq7 : Fr2 H7 tq q := e3 _ _ hq
      refine ⟨_, rfl, ix4 (i := 0) hq7 rfl ⟨rfl, _, rfl, ite2 (fun c => ?_) (fun c => ?_)⟩⟩
      · have q0 : q ≠ 0 := fun e => by
          rw [e] at c
          simp at c
        exact ⟨_, rfl, _, rfl, (by show 4 ≤ sizeLine; decide), fun T hT => fin tq H7 q (Am.Ext.refl _) hq7 lq q0 T hT⟩
      · refine ⟨(by show 2 ≤ sizeLine; decide), fun T2 hT2 => ⟨_, rfl, (by show 4 ≤ sizeLine; decide), fun T hT => ?_⟩⟩
        exact fin T2 _ (Rat.divInt 3 2) (Am.Ext.new hT2) (by show _ = _; rw [upd_same]; rfl) ⟨by decide, by decide⟩ (by decide) T hT
end
end KD

set_option Elab.async false
set_option linter.all false
set_option maxRecDepth 100000
set_option maxHeartbeats 1000000
/-! repr of lists, tuples and dicts that hold own instances, nested at will. -/
namespace RX
open PySem PySem.Spec PyProof.Rows L2 Oo Am
open PySem.Builtin PySem.Builtin.List
def Sft : HO → Prop
  | .ins _ _ _ => False
  | .own _ => False
  | _ => True
/-- what a repr leaves as it is -/
structure Kc (H1 H2 : Hp) (h h' : Heap) : Prop where
  ext : Am.Ext H1 H2
  keep : ∀ b u o, H1 b = some u → Sft u → h.get? b = some o → h'.get? b = some o
theorem Kc.refl {H : Hp} {h : Heap} : Kc H H h h := ⟨Am.Ext.refl _, fun _ _ _ _ _ e => e⟩
theorem Kc.trans {H1 H2 H3 : Hp} {h h' h'' : Heap} (a : Kc H1 H2 h h') (b : Kc H2 H3 h' h'') : Kc H1 H3 h h'' := ⟨a.ext.trans b.ext, fun c u o x y z => b.keep c u o (a.ext _ _ x) y (a.keep c u o x y z)⟩
/-- v's repr is t, whatever runs around -/
def Rx (X : Cx) (pins : List (Addr × Obj)) (σ : L2.St) (H0 : Hp) (as : List Addr) (d : Nat) (v : V) (t : Str) : Prop :=
  ∀ (u : Value), RelV v u → ∀ (b : Nat), b + t.length ≤ sizeLine → ∀ (A : Around) (g : List Code) (E : Value → Shared → Prop) (s : Shared) (H1 : Hp) (Q : Str → Shared → Prop), A.guards = some g → (∀ c ∈ as, Clear g c) → Room d A → A.frames = some X.stack → Am.Ext H0 H1 → Inv X pins σ H1 s →
    (∀ s' H2, Kc H1 H2 s.heap s'.heap → Inv X pins σ H2 s' → Q t s') → wpAny (model X.prog X.w) A (pyReprUnder b u) Q E s
section
variable {X : Cx} {pins : List (Addr × Obj)} {σ : L2.St} {H H0 : Hp} {as : List Addr} {d : Nat} {v : V} {t : Str}
theorem Rx.mono {H' : Hp} {as' : List Addr} {d' : Nat} (e : Am.Ext H0 H') (i : ∀ a ∈ as, a ∈ as') (hd : d ≤ d') (h : Rx X pins σ H0 as d v t) : Rx X pins σ H' as' d' v t :=
  fun u r b hb A g E s H1 Q hg hc hr hf x I z => h u r b hb A g E s H1 Q hg (fun c hm => hc c (i c hm)) (hr.mono hd) hf (e.trans x) I z
/-- plain data -/
theorem Rx.data {d' : Nat} (h : ∀ H1, Am.Ext H0 H1 → Gd.Rp H1 as d' v t) (hd : d' ≤ 100) : Rx X pins σ H0 as d v t := fun u r b hb A g E s H1 Q hg hc hr hf x I z =>
  (h H1 x).repr I.hok u r b hb A g E s Q hg hc (by have := hr.un; omega) (fun _ _ e => e) fun h' tk kp => z _ H1 ⟨Am.Ext.refl _, fun c u o _ _ q => kp c o q⟩ (I.kept kp)
theorem Rx.none_ : Rx X pins σ H0 [] d .non "None" := Rx.data (d' := 0) (fun _ _ => .non) (by decide)
theorem Rx.int {i : Int} (h : i.natAbs.log2 < 1920) : Rx X pins σ H0 [] d (.int i) (toString i : String) := Rx.data (d' := 0) (fun _ _ => .int i h) (by decide)
theorem Rx.str {x : Str} (h : (reprText x).length ≤ sizeLine) : Rx X pins σ H0 [] d (.str x) (reprText x) := Rx.data (d' := 0) (fun _ _ => .str x h) (by decide)
/-- an own instance, whose __repr__ leans on it alone -/
theorem Rx.own {C f x dx : Addr} {fs : List (Str × V)} {fd : FuncData} {ps : List Str} {sp : Sp} {k : Nat} (hs : W.findIn X.K (.ref C) "__repr__" = some (some (.ref f))) (hf : W.isFn X.K (.ref f) = true) (F : FnOk X.prog X.w X.K X.mg X.base CX0 k f fd ps sp) (bd : Binds X.K fd ps [])
    (hx : H0 x = some (.ins C dx fs)) (z : ∀ Hs : Hp, Hs x = some (.ins C dx fs) → sp [.ref x] Hs (fun v H' => v = .str t ∧ H' = Hs) E0) : Rx X pins σ H0 [] (k + 1) (.ref x) t := by
  intro u r b hb A g E s H1 Q hg hc hr fr e I zq
  obtain rfl : u = Value.ref x := r
  have hx1 := e _ _ hx
  obtain ⟨od, J, _⟩ := inst_at I hx1
  refine own_under (by omega) hr.units0 I.kIn J hs hf ?_
  obtain ⟨hdx, nl, ne, ho, mA, ⟨oo, es, ep, h2, c2⟩, rl⟩ := (show ObjOk X.prog X.w H1 s.heap x (.ins C dx fs) from I.hok x _ hx1)
  have xd : x ≠ dx := fun q => by rw [q, hdx] at hx1; cases hx1
  have env := I.env0
  obtain ⟨Hs, eHs⟩ : ∃ Hs : Hp, Hs = fun b => if b = x ∨ b = dx then H1 b else none := ⟨_, rfl⟩
  have s1 : Hs x = some (.ins C dx fs) := by rw [eHs]; simp [hx1]
  have s2 : Hs dx = some (.own x) := by rw [eHs]; simp [hdx]
  have s0 : ∀ b, b ≠ x → b ≠ dx → Hs b = none := fun b n1 n2 => by rw [eHs]; simp [n1, n2]
  have sn : ∀ b, H1 b = none → Hs b = none := fun b n => by rw [eHs]; by_cases q : b = x ∨ b = dx <;> simp [q, n]
  have hokS : HOk X.prog X.w Hs s.heap := fun b o eb => by
    by_cases q1 : b = x
    · subst q1
      rw [s1] at eb
      cases eb
      exact ⟨s2, nl, ne, ho, mA, ⟨oo, es, ep, h2, c2⟩, rl⟩
    · by_cases q2 : b = dx
      · subst q2
        rw [s2] at eb
        cases eb
        exact I.hok _ _ hdx
      · rw [s0 b q1 q2] at eb
        cases eb
  have e0 : Env0 X.prog X.w X.K X.mg X.base A X.stack s Hs := ⟨fr, env.mod, fun b o q => ⟨(env.bs b o q).1, sn b (env.bs b o q).2⟩, env.bsz, env.funs, fun b hb => sn b (env.frf b hb), hokS, env.bare⟩
  have want := z Hs s1
  have hl : ([Value.ref x] ++ []).length = ps.length := F.len _ _ _ _ want
  refine wpAny_call (codeAny_mono (F.run A X.stack s Hs ⟨[.ref x], []⟩ [.ref x] [.ref x] _ E0 (hr.mono (by omega)) e0 (by simpa using bd s [.ref x] I.kIn hl) (.cons rfl .nil) want) fun res s' hq => ?_)
  cases res with
  | error er => exact (show False from hq).elim
  | ok fl =>
    cases fl with
    | next => exact (show False from hq).elim
    | brk => exact (show False from hq).elim
    | cont => exact (show False from hq).elim
    | ret y =>
      obtain ⟨v', H', os, bare, un, hok', rv, ev, eh⟩ := (show CE X.stack X.prog X.w Hs s _ y s' from hq)
      subst ev eh
      obtain ⟨tk, rfl⟩ := (show ∃ tk, y = Value.str t tk from rv)
      have kept : ∀ b u o, H1 b = some u → b ≠ x → b ≠ dx → s.heap.get? b = some o → s'.heap.get? b = some o := fun b u o hb n1 n2 q => un.keep b o q (s0 b n1 n2) (fun m => by rw [env.frf b m] at hb; cases hb) (by simp)
      have U : Un (frs X.stack) [] H1 H1 s.heap s'.heap := ⟨fun b o q n hb hx => un.keep b o q (sn b n) hb hx, fun b o q n hb hx => un.slot b o q (sn b n) hb hx, fun b o q n _ => n, fun b o q hx => un.there b o q hx, fun b xs q => q, fun b o u q => q, fun b ps q => ⟨#[], by simpa using q⟩⟩
      have hok1 : HOk X.prog X.w H1 s'.heap := fun b o eb => by
        by_cases q1 : b = x
        · subst q1
          rw [hx1] at eb
          cases eb
          obtain ⟨g1, g2, g3, g4, g5, g6, g7⟩ := (show ObjOk X.prog X.w H' s'.heap b (.ins C dx fs) from hok' b _ s1)
          exact ⟨hdx, g2, g3, g4, g5, g6, g7⟩
        · by_cases q2 : b = dx
          · subst q2
            rw [hdx] at eb
            cases eb
            exact hok' _ _ s2
          · refine (I.hok b o eb).stay (fun b' u' hb' q => ?_) (fun _ q => q) (fun _ _ q => q)
            rcases hb' with rfl | hb'
            · exact kept _ _ _ eb q1 q2 q
            · refine kept _ _ _ hb' (fun w => ?_) (fun w => ?_) q
              · rw [w, hx1] at hb'; cases hb'
              · rw [w, hdx] at hb'; cases hb'; exact q1 rfl
      refine ⟨t, tk, rfl, zq s' H1 ⟨Am.Ext.refl _, fun b u o hb sf q => kept b u o hb (fun w => ?_) (fun w => ?_) q⟩ (I.call' os U hok1 bare (fun b z => absurd z (by simp)))⟩
      · rw [w, hx1] at hb; cases hb; exact sf
      · rw [w, hdx] at hb; cases hb; exact sf
/-! ### lists -/
theorem under_room {k : Nat} {A : Around} {c : Code} (hd : (A.under c).depth ≤ A.depth + 1) (hu : (A.under c).units = A.units + 1) (hh : (A.under c).handled = A.handled) (r : Room (k + 1) A) : Room k (A.under c) :=
  ⟨by rw [hh]; exact r.hd, by have := r.dp; omega, by have := r.un; omega⟩
theorem loop_room {k : Nat} {A : Around} {args : Args} (r : Room (k + 1) A) : Room k (A.under (.builtin "list.__repr__.loop" args)) :=
  under_room (by first | exact Nat.le_refl _ | simp [Around.under, Code.weight, Code.isCreation, Code.isGuard, Code.isCaller, Code.frames, Code.isFrame, guardIds]) (units_under_list_loop _ _) rfl r
theorem loop_frames {A : Around} {args : Args} {st : List Env} (r : A.frames = some st) : (A.under (.builtin "list.__repr__.loop" args)).frames = some st := by
  first | exact r | (simpa [Around.under, Code.envs, Code.isFrame, pushEnvs] using r)
theorem lx_loop {A : Around} {g : List Code} {a P : Addr} {xs : List V} {its : List Value} {n base : Nat} {ts : List Str} {R : Result → Shared → Prop} {HS : Hp} {hS : Heap}
    (hg : A.guards = some g) (hcl : ∀ b ∈ as, Clear g b) (hna : a ∉ as) (hr : Room (d + 1) A) (fr : A.frames = some X.stack) (e0 : Am.Ext H0 HS) (ha : HS a = some (.lst xs)) (ea : hS.get? a = some { cls := .type "list", data := .seq its.toArray n }) (rv : Vals xs its)
    (hT : ∀ (i : Nat) (x : V), xs[i]? = some x → ∃ t, ts[i]? = some t ∧ Rx X pins σ H0 as d x t) (hlen : ts.length = xs.length) (hl : xs.length ≤ sizeLine) (hP : HS P = none) (hsz : base + (listText ts).length ≤ sizeLine)
    (hR : ∀ s' u H2, Kc HS H2 hS s'.heap → Inv X pins σ H2 s' → R (.ok (.ret (.str (listText ts) u))) s') :
    ∀ (k i : Nat) (s : Shared) (H1 : Hp), xs.length - i = k → i ≤ xs.length → Kc HS H1 hS s.heap → H1 P = some (.lst ((ts.take i).map V.str)) → Inv X pins σ H1 s →
      codeAny (model X.prog X.w) A (.builtin "list.__repr__.loop" ⟨[.ref a, rawInt i, .ref P, rawInt ((base + piled (ts.take i) : Nat) : Int)], []⟩) R s := by
  have lits := rv.length
  have hp3 := piled_le_listText ts
  have hX : ∀ t ∈ ts, t.length ≤ (listText ts).length := fun t ht => by
    have h2 := (textFrom_len ts 0 "[").2.1 t ht
    have h3 : (listText ts).length = (textFrom 0 "[" ts).length + 1 := by
      show (textFrom 0 "[" ts ++ "]").length = _
      rw [strLen_append]; rfl
    omega
  intro k
  induction k with
  | zero =>
    intro i s H1 hk hi K hPv I
    have hin : i = xs.length := by omega
    subst hin
    rw [show ts.take xs.length = ts from by rw [← hlen, List.take_length]] at hPv ⊢
    have ea1 := K.keep a _ _ ha trivial ea
    obtain ⟨_, acc, c, rw', l2, e2⟩ := I.lstM (l := P) hPv
    refine codeAny_builtin F.entry_list_repr_loop ?_
    show wpAny _ _ («list.__repr__.loop» ⟨[.ref a, .int (xs.length : Nat) 0, .ref P, .int ((base + piled ts : Nat) : Int) 0], []⟩) _ _ s
    rw [repr_loop_tree]
    refine wpAny_bind (wpAny_listItems ea1 rfl ?_)
    have hnone : its.toArray[((xs.length : Nat) : Int).toNat]? = none := by simp [lits]
    simp only [hnone]
    unfold reprEnd
    refine wpAny_bind (wpAny_listItems e2 rfl ?_)
    obtain ⟨done, rfl, ed⟩ := vals_strs rw'
    rw [show (strValues done).toArray.toList = strValues done from rfl, repr_fold]
    refine wpAny_bind (wpAny_pure ?_)
    rw [ed]
    refine wpAny_bind (wpAny_mkStr (wpAny_pure ?_) (by show (listText ts).length ≤ sizeLine; omega))
    exact hR _ _ H1 K (I.tok _)
  | succ k ih =>
    intro i s H1 hk hi K hPv I
    have ea1 := K.keep a _ _ ha trivial ea
    have hlt : i < xs.length := by omega
    obtain ⟨t, et, hrep⟩ := hT i xs[i] (List.getElem?_eq_getElem hlt)
    obtain ⟨u, hu, ru⟩ := rv.get (List.getElem?_eq_getElem hlt)
    refine codeAny_builtin F.entry_list_repr_loop ?_
    show wpAny _ _ («list.__repr__.loop» ⟨[.ref a, .int (i : Nat) 0, .ref P, .int ((base + piled (ts.take i) : Nat) : Int) 0], []⟩) _ _ s
    rw [repr_loop_tree]
    refine wpAny_bind (wpAny_listItems ea1 rfl ?_)
    have hsome : its.toArray[((i : Nat) : Int).toNat]? = some u := by simpa using hu
    simp only [hsome]
    rw [Int.toNat_natCast]
    have p1 := piled_take_le ts (i + 1)
    have p2 := piled_take_succ et
    refine wpAny_bind (wpAny_holding (hrep u ru (base + piled (ts.take i) + 1) (by omega) _ _ _ s H1 _ (guards_under_guard (isGuard_list_loop _) hg) (fun b hb => (hcl b hb).cons (a := a) fun e => hna (e ▸ hb)) (loop_room hr) (loop_frames fr) (e0.trans K.ext) I fun s1 H2 K2 I2 => ?_))
    have hP2 := K2.ext _ _ hPv
    have tl := hX t (List.mem_of_getElem? et)
    obtain ⟨_, acc, c, rw', l2, e2⟩ := I2.lstM (l := P) hP2
    refine wpAny_bind (wpAny_mkStr ?_ (by omega))
    refine wpAny_bind ?_
    show wpAny _ _ (updateSeq P _) _ _ _
    have al : acc.toArray.size ≤ sizeLine := by
      rw [List.size_toArray, ← l2, List.length_map, List.length_take]
      omega
    refine wpAny_updateSeq e2 rfl (wpAny_pure ⟨F.quiet_list_repr_loop _, ?_⟩) al
    have k1 : ((i : Int) + 1) = ((i + 1 : Nat) : Int) := by omega
    have k2 : base + piled (ts.take i) + (t.length + 2) = base + piled (ts.take (i + 1)) := by omega
    rw [k1, k2]
    have J := I2.lset (l := P) (xs := (ts.take i).map V.str) (ys := (ts.take (i + 1)).map V.str) (its := acc) (its' := acc ++ [.str t s1.toks]) (f := fun a => a.push (.str t s1.toks)) (t' := s1.toks + 1) hP2 e2 (by simp) (by
      rw [List.take_add_one, et, List.map_append]
      exact rw'.append (.cons ⟨_, rfl⟩ .nil)) (by rw [List.length_map, List.length_take]; omega)
    have K3 := K.trans K2
    refine ih (i + 1) _ (upd H2 P (.lst ((ts.take (i + 1)).map V.str))) (by omega) (by omega) ⟨fun b u hb => ?_, fun b u o hb sf q => ?_⟩ upd_same J
    · rw [upd_ne (ne_of_none hb hP)]
      exact K3.ext _ _ hb
    · exact (Heap.get?_update_other _ _ (Ne.symm (ne_of_none hb hP))).trans (K3.keep b u o hb sf q)
/-- list.__repr__, not empty -/
theorem lx_at {A : Around} {g : List Code} {a : Addr} {x : V} {xs : List V} {base : Nat} {ts : List Str} {R : Result → Shared → Prop} {s : Shared} {H1 : Hp}
    (hg : A.guards = some g) (hcl : ∀ b ∈ a :: as, Clear g b) (hna : a ∉ as) (hr : Room (d + 1) A) (fr : A.frames = some X.stack) (e0 : Am.Ext H0 H1) (ha : H1 a = some (.lst (x :: xs))) (I : Inv X pins σ H1 s)
    (hT : ∀ (i : Nat) (y : V), (x :: xs)[i]? = some y → ∃ t, ts[i]? = some t ∧ Rx X pins σ H0 as d y t) (hlen : ts.length = (x :: xs).length) (hsz : base + (listText ts).length ≤ sizeLine)
    (hR : ∀ s' u H2, Kc H1 H2 s.heap s'.heap → Inv X pins σ H2 s' → R (.ok (.ret (.str (listText ts) u))) s') :
    wpAny (model X.prog X.w) A.in1 (Builtin.listReprAt base ⟨[.ref a], []⟩) (fun fin s' => match fin with | .done f => R (.ok f) s' | .again c' => c'.quiet = true ∧ codeAny (model X.prog X.w) A c' R s') (fun e s' => R (.error e) s') s := by
  have hca : Clear g a := hcl a (.head _)
  obtain ⟨hl, its, n, rv, l1, ho⟩ := I.lstM ha
  have hf : H1 s.heap.objs.size = none := I.hok.fresh (Nat.le_refl _)
  have I1 := I.lnew (ys := []) (its := []) (t' := s.toks) .nil (Nat.zero_le _)
  cases its with
  | nil => cases rv
  | cons y l =>
    refine wpAny_list_repr_head (A := A.in1) hg (fun v rest kw hm => listSameRef_of_ne (hca _ _ _ _ hm)) ho rfl ?_
    refine wpAny_bind (m := newList []) (wpAny_newObj_type ?_)
    refine wpAny_pure ⟨F.quiet_list_repr_loop _, ?_⟩
    exact lx_loop (P := s.heap.objs.size) (HS := H1) (hS := s.heap) (base := base) hg (fun b hb => hcl b (.tail _ hb)) hna hr fr e0 ha ho rv hT hlen hl hf hsz hR _ 0 _ _ rfl (Nat.zero_le _) ⟨Am.Ext.new hf, fun b u o hb _ q => Heap.get?_push_of_some _ q⟩ upd_same I1
theorem Rx.list {a : Addr} {x : V} {xs : List V} {ts : List Str} (ha : H0 a = some (.lst (x :: xs))) (hna : a ∉ as) (hT : ∀ (i : Nat) (y : V), (x :: xs)[i]? = some y → ∃ t, ts[i]? = some t ∧ Rx X pins σ H0 as d y t) (hlen : ts.length = (x :: xs).length) : Rx X pins σ H0 (a :: as) (d + 2) (.ref a) (listText ts) := by
  intro u r b hb A g E s H1 Q hg hc hr fr e I z
  obtain rfl : u = Value.ref a := r
  have ha1 := e _ _ ha
  obtain ⟨hl, its, n, rv, l1, ho⟩ := I.lstM ha1
  refine wpAny_pyReprUnder_ref (by omega) (wpAny_pyReprObjUnder_twin (twin := "list.__repr__.under") ⟨_, ho, rfl⟩ F.slot_list_repr.toG rfl hr.units0 ?_)
  exact call_twin_plain F.plain_list_repr_under F.entry_list_repr_under F.check_list_repr_under ⟨_, ho, rfl⟩ F.slot_list_repr.toG (F.args_list_repr_1 _)
    (lx_at (R := callEnd _ _) hg hc hna (hr.mono (by omega)) fr e ha1 I hT hlen hb fun s' u H2 K J => ⟨⟨_, _, rfl⟩, _, _, rfl, z s' H2 K J⟩)
end
end RX

set_option Elab.async false
set_option linter.all false
set_option maxRecDepth 100000
set_option maxHeartbeats 1000000
/-! repr of dicts that hold own instances. -/
namespace RX
open PySem PySem.Spec PyProof.Rows L2 Oo Am
open PySem.Builtin PySem.Builtin.List
section
variable {X : Cx} {pins : List (Addr × Obj)} {σ : L2.St} {H H0 : Hp} {as : List Addr} {d : Nat} {v : V} {t : Str}
theorem dx_at {A : Around} {g : List Code} {a : Addr} {kvs : List (Key × V)} {base : Nat} {ps : List Str} {id : String} {rest : List Value} {R : Result → Shared → Prop} {s : Shared} {H1 : Hp}
    (hcg : (Code.builtin id ⟨.ref a :: rest, []⟩).isGuard = true) (hrm : Room d (A.under (.builtin id ⟨.ref a :: rest, []⟩))) (hfr : (A.under (.builtin id ⟨.ref a :: rest, []⟩)).frames = some X.stack)
    (hg : A.guards = some g) (hcl : ∀ b ∈ a :: as, Clear g b) (hna : a ∉ as) (e0 : Am.Ext H0 H1) (ha : H1 a = some (.dK kvs)) (I : Inv X pins σ H1 s)
    (hT : ∀ (i : Nat) (q : Key × V), kvs[i]? = some q → ∃ kt vt : Str, ps[i]? = some (kt ++ ": " ++ vt) ∧ Gd.KeyT q.1 kt ∧ Rx X pins σ H0 as d q.2 vt) (hlen : ps.length = kvs.length) (hsz : base + (dictText ps).length ≤ sizeLine)
    (hR : ∀ s' u H2, Kc H1 H2 s.heap s'.heap → Inv X pins σ H2 s' → R (.ok (.ret (.str (dictText ps) u))) s') :
    wpOwn (model X.prog X.w) A (.builtin id ⟨.ref a :: rest, []⟩) (Builtin.dictReprAt base ⟨[.ref a], []⟩) (fun fin s' => match fin with | .done f => R (.ok f) s' | .again c' => c'.quiet = true ∧ codeAny (model X.prog X.w) A c' R s') (fun e s' => R (.error e) s') s := by
  obtain ⟨_, hsys, vs, kv, o, es, n, ho, hx, hd, _, pr, _⟩ := (show ObjOk X.prog X.w H1 s.heap a (.dK kvs) from I.hok a _ ha)
  have hc := hx.1
  obtain ⟨n1, n2⟩ := Gd.kv_pairs kv pr
  have hTy : s.TypeIs (.ref a) "dict" := ⟨o, ho, hc⟩
  have hca : Clear g a := hcl a (.head _)
  have hes : ps.length = es.size := by rw [hlen, ← n1, Array.length_toList]
  have hp3 := piled_le_dictText ps
  have hsz0 : (dictText ps).length ≤ sizeLine := by omega
  unfold Builtin.dictReprAt
  refine wpOwn_bind (wpOwn_of_wpAny ?_)
  unfold Builtin.Dict.dictSlotNone
  refine wpAny_bind (wpAny_notOrdered_dict hTy ?_)
  show wpAny _ _ (pure (Value.ref a)) _ _ s
  refine wpAny_pure ?_
  rw [dictReprRunning_eq]
  refine wpOwn_bind (wpOwn_stackTailAny hg (dictGuardF_off _) (dictGuardF_pos _) ?_)
  have hn : (g.any fun c => dictGuardF (.ref a) (c, default)) = false := by
    rw [List.any_eq_false]
    intro c hcm
    rw [dictGuardF_of_clear hca c hcm]
    exact Bool.false_ne_true
  rw [hn]
  refine wpOwn_of_wpAny ?_
  have hg' := guards_under_guard hcg hg
  have hcl' : ∀ b ∈ as, Clear (.builtin id ⟨.ref a :: rest, []⟩ :: g) b := fun b hb => (hcl b (.tail _ hb)).cons (a := a) fun e => hna (e ▸ hb)
  show wpAny _ _ (Builtin.Dict.addrOf (.ref a) >>= _) _ _ s
  refine wpAny_bind (wpAny_pure ?_)
  show wpAny _ _ (Builtin.Dict.showsAll a >>= _) _ _ s
  unfold Builtin.Dict.showsAll
  rw [if_neg (by rw [hsys]; exact Bool.false_ne_true)]
  refine wpAny_bind (wpAny_pure ?_)
  refine wpAny_bind (wpAny_dictEpoch ho hd ?_)
  refine wpAny_bind (wpAny_dictEntries ho hd ?_)
  refine wpAny_bind ?_
  rw [Std.Legacy.Range.forIn_eq_forIn_range']
  simp only [Std.Legacy.Range.size, Nat.sub_zero, Nat.add_sub_cancel, Nat.div_one]
  refine wpAny_forIn_list _
    (fun rest' r s' => ∃ i H2, rest' = List.range' i (es.size - i) ∧ i ≤ es.size ∧ r = (⟨(ps.take i).toArray, base + piled (ps.take i)⟩ : (Array Str × Nat)) ∧ Kc H1 H2 s.heap s'.heap ∧ Inv X pins σ H2 s')
    _ ?_ ?_ _ _ ⟨0, H1, by simp, Nat.zero_le _, by simp [piled], Kc.refl, I⟩
  · rintro x rest' _ s' ⟨i, H2, hr, hi, rfl, K2, I2⟩
    have hlt : i < es.size := by
      rcases Nat.lt_or_ge i es.size with h | h
      · exact h
      · rw [Nat.sub_eq_zero_of_le h] at hr; simp at hr
    obtain ⟨rfl, hrest⟩ : x = i ∧ rest' = List.range' (i + 1) (es.size - (i + 1)) := by
      have e : es.size - i = (es.size - (i + 1)) + 1 := by omega
      rw [e, List.range'_succ] at hr
      injection hr with h1 h2
      exact ⟨h1, h2⟩
    obtain ⟨q, hq, hqk, hqv⟩ := n2 x es[x] (by simp [hlt])
    obtain ⟨k, v, hp, rk, rv⟩ := hT x q hq
    have hpl : (k ++ ": " ++ v).length = k.length + 2 + v.length := by
      rw [strLen_append, strLen_append]; rfl
    have hp1 := piled_take_succ hp
    have hp2 := piled_take_le ps (x + 1)
    rw [hpl] at hp1
    have ho2 := K2.keep a _ o ha trivial ho
    refine wpAny_bind (wpAny_dictEntries ho2 hd ?_)
    rw [Array.getElem?_eq_getElem hlt]
    have rk' : ReprK X.prog X.w as s'.heap d es[x].key k := Gd.keyT_repr rk hqk
    refine wpAny_bind (wpAny_holding (wpAny_bind (rk' (base + piled (ps.take x) + 1) (by omega) _ _ _ _ _ hg' hcl' (by have := hrm.un; omega) (fun b o e => e) fun h1 t1 hk1 =>
      wpAny_bind (rv _ hqv (base + piled (ps.take x) + (k.length + 3)) (by omega) _ _ _ _ H2 _ hg' hcl' hrm hfr (e0.trans K2.ext) (I2.kept (t' := t1) hk1) fun s2 H3 K3 I3 => wpAny_pure ?_))))
    have K13 : Kc H1 H3 s.heap s2.heap := (K2.trans ⟨Am.Ext.refl _, fun b u o _ _ q => hk1 b o q⟩).trans K3
    refine wpAny_bind (wpAny_dictEpoch (K13.keep a _ o ha trivial ho) hd ?_)
    rw [if_neg (by simp)]
    have e1 : (ps.take x).toArray.push (k ++ ": " ++ v) = (ps.take (x + 1)).toArray := by
      rw [List.take_add_one, hp]
      simp
    have e2 : base + piled (ps.take x) + (k.length + v.length + 4) = base + piled (ps.take (x + 1)) := by omega
    refine wpAny_pure ⟨x + 1, H3, hrest, hlt, ?_, K13, I3⟩
    rw [e1, e2]
  · rintro _ s' ⟨i, H2, hr, hi, rfl, K2, I2⟩
    have hin : i = es.size := by
      rcases Nat.lt_or_ge i es.size with h | h
      · have e : es.size - i = (es.size - (i + 1)) + 1 := by omega
        rw [e, List.range'_succ] at hr; exact nomatch hr
      · exact Nat.le_antisymm hi h
    rw [hin, ← hes, List.take_length]
    refine wpAny_bind (wpAny_mkStr (wpAny_pure ?_) (by simpa [dictText] using hsz0))
    have h1 := hR { s' with toks := s'.toks + 1 } s'.toks H2 K2 (I2.tok _)
    simpa [dictText] using h1
theorem Rx.dict {a : Addr} {kvs : List (Key × V)} {ps : List Str} (ha : H0 a = some (.dK kvs)) (hna : a ∉ as) (hT : ∀ (i : Nat) (q : Key × V), kvs[i]? = some q → ∃ kt vt : Str, ps[i]? = some (kt ++ ": " ++ vt) ∧ Gd.KeyT q.1 kt ∧ Rx X pins σ H0 as d q.2 vt) (hlen : ps.length = kvs.length) : Rx X pins σ H0 (a :: as) (d + 2) (.ref a) (dictText ps) := by
  intro u r b hb A g E s H1 Q hg hc hr fr e I z
  obtain rfl : u = Value.ref a := r
  have ha1 := e _ _ ha
  obtain ⟨_, hsys, vs, kv, o, es, n, ho, hx, hd, _, pr, _⟩ := (show ObjOk X.prog X.w H1 s.heap a (.dK kvs) from I.hok a _ ha1)
  refine wpAny_pyReprUnder_ref (by omega) (wpAny_pyReprObjUnder_twin (twin := "dict.__repr__.under") ⟨_, ho, hx.1⟩ F.slot_dict_repr rfl hr.units0 ?_)
  refine call_twin_own (F.quiet_dict_repr_under _) F.entry_dict_repr_under F.check_dict_repr_under ⟨o, ho, hx.1⟩ F.slot_dict_repr (F.args_dict_repr_1 _)
    (dx_at (R := callEnd _ _) (isGuard_dict_repr_under _) ?_ ?_ hg hc hna e ha1 I hT hlen hb fun s' u H2 K J => ⟨⟨_, _, rfl⟩, _, _, rfl, z s' H2 K J⟩)
  · exact under_room (by first | exact Nat.le_refl _ | simp [Around.under, Code.weight, Code.isCreation, Code.isGuard, Code.isCaller, Code.frames, Code.isFrame, guardIds]) (units_under_dict_repr_under _ _) rfl (hr.mono (by omega))
  · first | exact fr | (simpa [Around.under, Code.envs, Code.isFrame, pushEnvs] using fr)
/-- a NUMBER -/
theorem Rx.num {C : Addr} {q : Rat} (R : Rep X.prog X.w X.K X.mg X.base C) (nv : Num C H0 v q) (sm : SmN v q) : Rx X pins σ H0 [] 2 v (numText v q) := by
  obtain ⟨f, fd, hs, hf, F, b⟩ := R.of
  rcases nv with ⟨i, rfl, _⟩ | ⟨a, rfl, ia⟩
  · exact Rx.int sm
  · obtain ⟨dx, ha⟩ := id ia
    exact Rx.own hs hf F b ha fun Hs h => ⟨a, q, rfl, ⟨dx, h⟩, KA.Low.more sm (by decide), rfl, rfl⟩
/-- repr(l): a list that is not empty -/
def rRx (X : Cx) (d : Nat) : List V → Hp → VK → Prop := fun vs H Q => ∃ (a : Addr) (x : V) (xs : List V) (ts : List Str) (as : List Addr), vs = [.ref a] ∧ H a = some (.lst (x :: xs)) ∧ a ∉ as ∧
  (∀ (pins : List (Addr × Obj)) (σ : L2.St) (i : Nat) (y : V), (x :: xs)[i]? = some y → ∃ t, ts[i]? = some t ∧ Rx X pins σ H as d y t) ∧ ts.length = (x :: xs).length ∧ (listText ts).length ≤ sizeLine ∧ ∀ H', Am.Ext H H' → Q (.str (listText ts)) H'
theorem call_reprRx {d : Nat} (hG : Gd.Bare X.A) (hr : Room (d + 3) X.A) : CallR X (.builtin "repr") (rRx X d) := by
  intro pins s σ H vs us Q I r h
  obtain ⟨a, x, xs, ts, as, rfl, ha, hna, hT, hlen, hsz, z⟩ := h
  obtain ⟨u, rfl, ru⟩ := r.one
  cases (show u = Value.ref a from ru)
  obtain ⟨_, its, n, rv, l1, ho⟩ := I.lstM ha
  refine Gd.repr_slot ⟨_, ho, rfl⟩ F.slot_list_repr.toG (by have := hr.units; omega) ?_
  refine wpAny_call (codeAny_call_builtin F.slot_list_repr.plain F.entry_list_repr (F.slot_list_repr.check _ _ _ _ _ _ _ _ ⟨_, ho, rfl⟩ (F.args_list_repr_1 _) ?_))
  have hg : X.A.in1.guards = some [] := hG
  have hf : X.A.in1.frames = some X.stack := by first | exact I.ok.frames | (simpa [Around.in1] using I.ok.frames)
  exact lx_at (R := callEnd _ _) (A := X.A.in1) (base := 0) (g := []) (as := as) (H0 := H) hg (fun b _ => Clear.nil b) hna ((hr.mono (show d + 2 ≤ d + 3 by omega)).in1) hf (Am.Ext.refl H) ha I (fun i y hy => hT pins σ i y hy) hlen (by omega) fun s' u H2 K J => ⟨⟨_, _, rfl⟩, .str (listText ts), H2, J, ⟨_, rfl⟩, z H2 K.ext⟩
end
end RX

set_option Elab.async false
set_option linter.all false
set_option maxRecDepth 100000
set_option maxHeartbeats 1000000
/-! is_number, _check_way, _others, _multiplied, _amounts. -/
namespace KD
open PySem PySem.Spec PyProof.Rows L2 Oo Gd Am KA SqX
/-- numbers of fields in a dict -/
def NumD (A : Addr) (H : Hp) (a : Addr) (xs : List Str) (g : Str → Rat) : Prop := ∃ kvs : List (Key × V), H a = some (.dK kvs) ∧ ∀ x ∈ xs, ∃ v, valV kvs (Sum.inr x : Key) = some v ∧ Num A H v (g x)
/-- Amounts of fields in a dict, in order -/
def AmD (A : Addr) (H : Hp) (D : Addr) (xs : List Str) (g : Str → Rat) : Prop := ∃ kvs : List (Key × V), H D = some (.dK kvs) ∧ kvs.map (·.1) = xs.map (Sum.inr : Str → Key) ∧ ∀ x ∈ xs, ∃ r, valV kvs (Sum.inr x : Key) = some (V.ref r) ∧ Is A H r (g x)
theorem NumD.ext {A a : Addr} {H H' : Hp} {xs : List Str} {g : Str → Rat} (e : Am.Ext H H') (h : NumD A H a xs g) : NumD A H' a xs g := by
  obtain ⟨kvs, h1, h2⟩ := h
  exact ⟨kvs, e _ _ h1, fun x hx => let ⟨v, a, b⟩ := h2 x hx; ⟨v, a, b.ext e⟩⟩
theorem NumD.sub {A a : Addr} {H : Hp} {xs ys : List Str} {g : Str → Rat} (s : ∀ y ∈ ys, y ∈ xs) (h : NumD A H a xs g) : NumD A H a ys g := by
  obtain ⟨kvs, h1, h2⟩ := h
  exact ⟨kvs, h1, fun y hy => h2 y (s y hy)⟩
theorem AmD.ext {A a : Addr} {H H' : Hp} {xs : List Str} {g : Str → Rat} (e : Am.Ext H H') (h : AmD A H a xs g) : AmD A H' a xs g := by
  obtain ⟨kvs, h1, h2, h3⟩ := h
  exact ⟨kvs, e _ _ h1, h2, fun x hx => let ⟨v, a, b⟩ := h3 x hx; ⟨v, a, b.ext e⟩⟩
theorem AmD.get {A a : Addr} {H : Hp} {xs : List Str} {g : Str → Rat} {x : Str} (h : AmD A H a xs g) (hx : x ∈ xs) : ∃ r, DGet H a (.str x) (some (V.ref r)) ∧ Is A H r (g x) := by
  obtain ⟨kvs, h1, h2, h3⟩ := h
  obtain ⟨r, e, i⟩ := h3 x hx
  refine ⟨r, ?_, i⟩
  have := DGet.k (k := (Sum.inr x : Key)) h1
  rw [e] at this
  exact this
theorem NumD.get {A a : Addr} {H : Hp} {xs : List Str} {g : Str → Rat} {x : Str} (h : NumD A H a xs g) (hx : x ∈ xs) : ∃ v, DGet H a (.str x) (some v) ∧ Num A H v (g x) := by
  obtain ⟨kvs, h1, h3⟩ := h
  obtain ⟨v, e, i⟩ := h3 x hx
  refine ⟨v, ?_, i⟩
  have := DGet.k (k := (Sum.inr x : Key)) h1
  rw [e] at this
  exact this
/-- without one -/
def oth (xs : List Str) (y : Str) : List Str := xs.filter fun x => decide (x ≠ y)
theorem oth_mem {xs : List Str} {y x : Str} : x ∈ oth xs y ↔ x ∈ xs ∧ x ≠ y := by
  unfold oth
  rw [List.mem_filter, decide_eq_true_eq]
theorem oth_len (xs : List Str) (y : Str) : (oth xs y).length ≤ xs.length := List.length_filter_le ..
theorem snoc_ind {α : Type} {p : List α → Prop} (h0 : p []) (hs : ∀ xs x, p xs → p (xs ++ [x])) : ∀ xs, p xs := fun xs => by
  have : ∀ ys : List α, p ys.reverse := fun ys => by
    induction ys with
    | nil => exact h0
    | cons y ys ih => rw [List.reverse_cons]; exact hs _ _ ih
  rw [← List.reverse_reverse xs]
  exact this _
/-- the product of some -/
def mulQ (xs : List Str) (g : Str → Rat) : Rat := xs.foldl (fun s x => s * g x) 1
theorem mulQ_snoc (xs : List Str) (x : Str) (g : Str → Rat) : mulQ (xs ++ [x]) g = mulQ xs g * g x := by
  unfold mulQ
  rw [List.foldl_append]
  rfl
theorem mulQ_low {m : Nat} {g : Str → Rat} : ∀ (xs : List Str), (∀ x ∈ xs, Low m (g x)) → Low (m * xs.length + 1) (mulQ xs g) := by
  intro xs
  refine snoc_ind (p := fun xs => (∀ x ∈ xs, Low m (g x)) → Low (m * xs.length + 1) (mulQ xs g)) ?_ ?_ xs
  · intro _
    rw [List.length_nil, Nat.mul_zero]
    exact ⟨by show (1 : Nat) < 2 ^ 1; decide, by show (1 : Nat) < 2 ^ 1; decide⟩
  · intro xs x ih h
    rw [mulQ_snoc]
    have a := ih fun y hy => h y (List.mem_append_left _ hy)
    have b := h x (List.mem_append_right _ List.mem_cons_self)
    have := Low.mul a b
    refine this.more ?_
    rw [List.length_append, List.length_singleton, Nat.mul_add]
    omega
section
variable {P : Program} {w : World} {K : W.Frag} {mg : Str → Option Value} {base : Heap} {f A C : Addr} {fd : FuncData} {t t2 t3 : Tok}
def spNum (A : Addr) : Sp := fun vs H Q _ => ∃ v q, vs = [v] ∧ Num A H v q ∧ Q (.bl true) H
theorem scNum : FnScope ["value"] ["value"] (defScope (top 30)) := ⟨rfl, rfl, rfl, by decide +kernel, rfl, by decide +kernel, by decide +kernel⟩
theorem ok_num (fr : Frees mg) (mA : mg "Amount" = some (.ref A)) (T2 : Cl2 K A) (DW : Dn P w K mg base CX0 1 "is_whole" ["value"] spWhole) (F : Fun K "is_number" "is_number" (top 30) f fd) : FnOk P w K mg base CX0 2 f fd ["value"] (spNum A) := by
  refine F.ok scNum (fun vs H Q E h => ?_) (fun cdv A' outer s H vs Q E hr h => ?_)
  · obtain ⟨v, q, rfl, _⟩ := h
    rfl
  · obtain ⟨v, q, rfl, hv, z⟩ := h
    refine ⟨_, pss_one (ps_ret (pe_or (pe_callB call_isi rfl (fr.h _ (by decide +kernel)) (by decide +kernel) (pa_cons (pv 0) (pa_cons (pe_glob (v := V.ref A) rfl mA rfl) pa_nil))) (pe_one (pe_dn DW hr (by rfl) (by decide) (pa_cons (pv 0) pa_nil))))), ?_⟩
    rcases hv with ⟨i, rfl, _⟩ | ⟨a, rfl, ia⟩
    · exact ⟨_, rfl, _, _, _, _, false, rfl, ClsV.own A, TyX.base (TyOf.int i), T2.kI, _, rfl, _, rfl, i, rfl, z⟩
    · obtain ⟨dx, ea⟩ := ia
      exact ⟨_, rfl, _, _, _, _, true, rfl, ClsV.own A, TyX.base (TyOf.ins ea T2.ins.cl T2.ins.ha T2.ins.hn T2.ins.htk T2.ins.hm), T2.ins.me, _, rfl, z⟩
def spChkWay (K : W.Frag) : Sp := fun vs H Q _ => ∃ (a : Addr) (y : Str) (xs : List Str), vs = [.ref a, .str y] ∧ SqA K H a (xs.map V.str) ∧ y ∈ xs ∧ Q .non H
theorem scChkWay : FnScope ["ways", "field"] ["ways", "field"] (defScope (top 40)) := ⟨rfl, rfl, rfl, by decide +kernel, rfl, by decide +kernel, by decide +kernel⟩
theorem ok_chkWay (fr : Frees mg) (F : Fun K "_check_way" "_check_way" (top 40) f fd) : FnOk P w K mg base CX0 1 f fd ["ways", "field"] (spChkWay K) := by
  refine F.ok scChkWay (fun vs H Q E h => ?_) (fun cdv A' outer s H vs Q E hr h => ?_)
  · obtain ⟨a, y, xs, rfl, _⟩ := h
    rfl
  · obtain ⟨a, y, xs, rfl, ha, hy, z⟩ := h
    have isk : IsK K := ⟨trivial⟩
    refine ⟨_, PSs.nox (pss_one (ps_if (PW.pt (pw_or (pt_not (pt_val (pe_callB call_isi rfl (fr.h _ (by decide +kernel)) (by decide +kernel) (pa_cons (pv 1) (pa_cons (pe_bltn (v := V.ty "str") rfl (fr.h _ (by decide +kernel)) (by rfl) rfl) pa_nil)))))
          (pw_or1 (pt_cmpR (niK isk) (pv 1) (pv 0) (by rfl))))) (pss_one ps_never) pss_nil)), ?_⟩
    refine ⟨_, rfl, _, _, _, _, true, rfl, ClsV.ty "str", TyX.base (TyOf.str y), kit_ty (by decide +kernel), _, rfl, iteF ?_⟩
    refine ⟨_, rfl, _, rfl, in_A ha ⟨_, rfl, ?_⟩⟩
    rw [if_pos rfl, decide_eq_true hy]
    exact iteF z
/-- the others, a new list -/
def spOth (K : W.Frag) : Sp := fun vs H Q _ => ∃ (a : Addr) (y : Str) (xs : List Str), vs = [.ref a, .str y] ∧ SqA K H a (xs.map V.str) ∧ xs.length ≤ 100 ∧ ∀ (D : Addr) (H' : Hp), Am.Ext H H' → H D = none → H' D = some (.lst ((oth xs y).map V.str)) → Q (.ref D) H'
abbrev nOth : List Str := ["fields", "field", "other"]
theorem scOth : FnScope nOth ["fields", "field"] (defScope (top 42)) := ⟨rfl, rfl, rfl, by decide +kernel, rfl, by decide +kernel, by decide +kernel⟩
theorem oth_take {xs : List Str} {y x : Str} {i : Nat} (h : xs[i]? = some x) : oth (xs.take (i + 1)) y = oth (xs.take i) y ++ (if x ≠ y then [x] else []) := by
  unfold oth
  rw [take_suc h, List.filter_append]
  congr 1
  by_cases e : x = y
  · rw [if_neg (fun n => n e), List.filter_cons_of_neg (by simpa using e)]
    rfl
  · rw [if_pos e, List.filter_cons_of_pos (by simpa using e)]
    rfl
theorem ok_oth (F : Fun K "_others" "_others" (top 42) f fd) : FnOk P w K mg base CX0 1 f fd ["fields", "field"] (spOth K) := by
  refine F.ok scOth (fun vs H Q E h => ?_) (fun cdv A' outer s H vs Q E hr h => ?_)
  · obtain ⟨a, y, xs, rfl, _⟩ := h
    rfl
  · obtain ⟨a, y, xs, rfl, ha, lx, z⟩ := h
    have nd := scOth.nd
    have big : (1000 : Nat) < sizeLine := by decide
    refine ⟨_, pss_one (ps_ret (pe_lc (own := [("other", 2)]) (g := gName 2) rfl nd (pi_seq (pv 0)) (blkOk_by (N := nOth) (sc := defScope (top 42)) (by decide +kernel)) (fun _ _ _ _ _ => pg_name (i := 2) nd rfl (Or.inl rfl)) (fun _ _ _ _ _ => pts_one (pt_cmpR op_ne (pv 2) (pv 1) (nomark _))) (fun _ _ _ _ _ => pv 2))), ?_⟩
    refine ⟨_, rfl, a, _, H, rfl, ha, Am.Ext.refl H, fun J G wk st D hD => ?_⟩
    rw [List.length_map] at wk
    refine lc_it wk (fun i H' => Am.Ext H H' ∧ H' D = some (.lst ((oth (xs.take i) y).map V.str))) ⟨Am.Ext.new hD, by rw [upd_same]; rfl⟩ (fun i H' _ h => st H' h.1) ?_ ?_
    · rintro i v H' H2 hi ⟨e, d⟩ ⟨rfl, hy⟩
      obtain ⟨x, hx', rfl⟩ := map_at hy
      have ot := oth_take (y := y) hx'
      refine ⟨rfl, _, rfl, _, rfl, rfl, _, rfl, ?_⟩
      by_cases q : x = y
      · rw [decide_eq_true (by rw [q]), Bool.not_true]
        rw [if_neg (fun n => n q), List.append_nil] at ot
        refine iteF ⟨e, ?_⟩
        rw [ot]
        exact d
      · rw [decide_eq_false (fun z => q (by injection z)), Bool.not_false]
        rw [if_pos q] at ot
        refine iteT ⟨_, rfl, _, d, ?_, ext_off e hD, ?_⟩
        · rw [List.length_map]
          have := oth_len (xs.take i) y
          rw [List.length_take] at this
          omega
        · rw [upd_same, ot, List.map_append]
          rfl
    · rintro H' ⟨e, d⟩
      rw [List.take_length] at d
      exact z D H' e hD d
/-- the product of some Amounts -/
def spMul (K : W.Frag) (A : Addr) : Sp := fun vs H Q _ => ∃ (a D : Addr) (xs ys : List Str) (g : Str → Rat) (m : Nat), vs = [.ref a, .ref D] ∧ SqA K H a (xs.map V.str) ∧ AmD A H D ys g ∧ (∀ x ∈ xs, x ∈ ys ∧ Low m (g x)) ∧ m * xs.length ≤ 3900 ∧ m ≤ 3900 ∧ New A H Q (mulQ xs g)
abbrev nMul : List Str := ["fields", "amounts", "result", "field"]
theorem scMul_ : FnScope nMul ["fields", "amounts"] (defScope (top 43)) := ⟨rfl, rfl, rfl, by decide +kernel, rfl, by decide +kernel, by decide +kernel⟩
theorem ok_multiplied (B : Base P w K mg base A) (M : OpI P w K mg base A (Operator.Mult).info.2 6 fun q p => q * p) (F : Fun K "_multiplied" "_multiplied" (top 43) f fd) : FnOk P w K mg base CX0 7 f fd ["fields", "amounts"] (spMul K A) := by
  refine F.ok scMul_ (fun vs H Q E h => ?_) (fun cdv A' outer s H vs Q E hr h => ?_)
  · obtain ⟨a, D, xs, ys, g, m, rfl, _⟩ := h
    rfl
  · obtain ⟨a, D, xs, ys, g, m, rfl, ha, hd, hx, lm, lm1, z⟩ := h
    have nd := scMul_.nd
    have hu := hu_of hr
    refine ⟨_, pss_cons (ps_set (i := 2) nd rfl (.inl rfl) (pe_mk1 B (hr.mono (by decide)) rfl (pa_cons pe_int pa_nil)))
      (pss_cons (ps_for PassesOwn.never rfl (pi_seq (pv 0)) (pg_name (i := 3) nd rfl (.inl rfl))
        (pss_one (ps_set (i := 2) nd rfl (.inl rfl) (pe_op (op_NN (.inr (.inr (.inl rfl))) M hr) (pv 2) (pe_dget hu (pv 1) (pv 3) (fun _ _ => rfl))))))
      (pss_one (ps_ret (pv 2)))), ?_⟩
    refine ⟨1, rfl, by decide, fun r H1 e1 n1 i1 => ⟨_, rfl, a, _, H, rfl, ha, e1, fun J G wk st => ?_⟩⟩
    rw [List.length_map] at wk
    refine for_it wk (fun i σ H' => Am.Ext H H' ∧ ∃ (r : Addr) (e3 : Option V), H r = none ∧ Is A H' r (mulQ (xs.take i) g) ∧ σ = [some (.ref a), some (.ref D), some (.ref r), e3]) ⟨e1, r, none, n1, i1, rfl⟩ (fun i σ H' _ h => st H' h.1) ?_ ?_
    · rintro i v σ H' H2 hi ⟨e, r, e3, nr, ir, rfl⟩ ⟨rfl, hy⟩
      obtain ⟨x, hx', rfl⟩ := map_at hy
      obtain ⟨hxy, lx⟩ := hx x (List.mem_of_getElem? hx')
      obtain ⟨b, gb, ib⟩ := (hd.ext e).get hxy
      have lt := mulQ_low (m := m) (g := g) (xs.take i) (fun y hy => (hx y (List.mem_of_mem_take hy)).2)
      have le : m * (xs.take i).length ≤ m * xs.length := Nat.mul_le_mul_left _ (by rw [List.length_take]; omega)
      refine ⟨_, rfl, _, rfl, _, rfl, D, _, rfl, gb, mulQ (xs.take i) g, g x, Num.is ir, Num.is ib, .inl ⟨r, rfl⟩, low_sz (lt.more (by omega)) (Nat.le_refl 4000), low_sz (lx.more (by omega)) (Nat.le_refl 4000), fun r2 H3 e2 n2 i2 => ?_⟩
      refine ⟨e.trans e2, r2, _, e.gone n2, ?_, rfl⟩
      rw [take_suc hx', mulQ_snoc]
      exact i2
    · rintro σ H' ⟨e, r, e3, nr, ir, rfl⟩
      rw [List.take_length] at ir
      exact ⟨_, rfl, z r H' e nr ir⟩
end
end KD

set_option Elab.async false
set_option linter.all false
set_option maxRecDepth 100000
set_option maxHeartbeats 1000000
/-! _amounts. -/
namespace KD
open PySem PySem.Spec PyProof.Rows L2 Oo Gd Am KA SqX
theorem valV_out {kvs : List (Key × V)} {k : Key} (h : k ∉ kvs.map (·.1)) : valV kvs k = none := by
  cases e : valV kvs k with
  | none => rfl
  | some v => exact absurd (valV_in e) h
theorem inr_mem {xs : List Str} {x : Str} : (Sum.inr x : Key) ∈ xs.map (Sum.inr : Str → Key) ↔ x ∈ xs := by
  constructor
  · intro h
    obtain ⟨y, hy, e⟩ := List.mem_map.mp h
    injection e with e
    rw [← e]
    exact hy
  · exact fun h => List.mem_map_of_mem h
theorem AmD.put {A D : Addr} {H : Hp} {xs : List Str} {g : Str → Rat} {x : Str} {r : Addr} (h : AmD A H D xs g) (hx : x ∉ xs) (ir : Is A H r (g x)) {kvs : List (Key × V)} (hk : H D = some (.dK kvs)) : AmD A (upd H D (.dK (putK kvs (Sum.inr x : Key) (V.ref r)))) D (xs ++ [x]) g := by
  obtain ⟨kvs', h1, h2, h3⟩ := h
  rw [hk] at h1
  injection h1 with h1
  injection h1 with h1
  subst h1
  have is_up : ∀ {b : Addr} {q : Rat} {o : HO}, Is A H b q → Is A (upd H D o) b q := fun {b q o} i => by
    obtain ⟨dx, e⟩ := i
    exact ⟨dx, by rw [upd_ne (ne_of e hk (fun z => nomatch z))]; exact e⟩
  have vn := valV_out (kvs := kvs) (k := (Sum.inr x : Key)) (by rw [h2, inr_mem]; exact hx)
  refine ⟨_, upd_same, ?_, fun y hy => ?_⟩
  · rw [putK_new _ vn, List.map_append, h2, List.map_append]
    rfl
  · rw [valV_put]
    rcases List.mem_append.mp hy with hy | hy
    · have n : ¬ (Sum.inr y : Key) = Sum.inr x := fun e => hx (by injection e with e; rw [← e]; exact hy)
      rw [if_neg n]
      obtain ⟨r2, e2, i2⟩ := h3 y hy
      exact ⟨r2, e2, is_up i2⟩
    · rw [List.mem_singleton] at hy
      subst hy
      rw [if_pos rfl]
      exact ⟨r, rfl, is_up ir⟩
section
variable {P : Program} {w : World} {K : W.Frag} {mg : Str → Option Value} {base : Heap} {f A C : Addr} {fd : FuncData} {t t2 t3 : Tok}
def spAm (K : W.Frag) (A : Addr) : Sp := fun vs H Q _ => ∃ (a d : Addr) (xs : List Str) (g : Str → Rat), vs = [.ref a, .ref d] ∧ SqA K H a (xs.map V.str) ∧ xs.Nodup ∧ xs.length ≤ 100 ∧ NumD A H d xs g ∧ (∀ x ∈ xs, Sz (g x)) ∧ ∀ (D : Addr) (H' : Hp), Am.Ext H H' → H D = none → AmD A H' D xs g → Q (.ref D) H'
abbrev nAm : List Str := ["fields", "numbers", "field"]
theorem scAm : FnScope nAm ["fields", "numbers"] (defScope (top 41)) := ⟨rfl, rfl, rfl, by decide +kernel, rfl, by decide +kernel, by decide +kernel⟩
theorem ok_amounts (fr : Frees mg) (B : Base P w K mg base A) (O : Of P w K mg base A) (DN : Dn P w K mg base CX0 2 "is_number" ["value"] (spNum A)) (F : Fun K "_amounts" "_amounts" (top 41) f fd) : FnOk P w K mg base CX0 5 f fd ["fields", "numbers"] (spAm K A) := by
  refine F.ok scAm (fun vs H Q E h => ?_) (fun cdv A' outer s H vs Q E hr h => ?_)
  · obtain ⟨a, d, xs, g, rfl, _⟩ := h
    rfl
  · obtain ⟨a, d, xs, g, rfl, ha, ndx, lx, hn, hs, z⟩ := h
    have nd := scAm.nd
    have hu := hu_of hr
    have big : (1000 : Nat) < sizeLine := by decide
    refine ⟨_, PSs.nox (pss_cons (ps_if (pt_not (pt_val (pe_callB call_isi rfl (fr.h _ (by decide +kernel)) (by decide +kernel) (pa_cons (pv 1) (pa_cons (pe_bltn (v := V.ty "dict") rfl (fr.h _ (by decide +kernel)) (by rfl) rfl) pa_nil))))) (pss_one ps_never) pss_nil)
      (pss_cons (ps_for PassesOwn.never rfl (pi_seq (pv 0)) (pg_name (i := 2) nd rfl (.inl rfl))
        (pss_one (ps_if (PW.pt (pw_or (pt_cmp (pc_dnotin hu (pv 2) (pv 1))) (pw_or1 (pt_not (pt_val (pe_dn DN hr (by rfl) (by decide) (pa_cons (pe_dget hu (pv 1) (pv 2) (fun _ _ => rfl)) pa_nil))))))) (pss_one ps_never) pss_nil)))
      (pss_one (ps_ret (pe_dc (own := [("field", 2)]) (g := gName 2) (tt := tYes) rfl nd (pi_seq (pv 0)) (blkOk_by (N := nAm) (sc := defScope (top 41)) (by decide +kernel)) (fun _ _ _ _ _ => pg_name (i := 2) nd rfl (Or.inl rfl)) (fun _ _ _ _ _ => pts_nil) (fun _ _ _ _ _ => pv 2) (fun s1 H1 C1 c1 f1 => by exact pe_of O hr (pe_glob (v := V.ref A) rfl B.mgA rfl) (pa_cons (pe_dget hu (pv 1) (pv 2) (fun _ _ => rfl)) pa_nil))))))), ?_⟩
    obtain ⟨kvs, hd, hv⟩ := id hn
    refine ⟨_, rfl, _, _, _, _, true, rfl, ClsV.ty "dict", TyX.base (TyOf.dK hd), kit_ty (by decide +kernel), _, rfl, iteF ?_⟩
    refine ⟨_, rfl, a, _, H, rfl, ha, Am.Ext.refl H, fun J G wk st => ?_⟩
    rw [List.length_map] at wk
    refine for_it wk (fun i σ H' => Am.Ext H H' ∧ ∃ e2 : Option V, σ = [some (.ref a), some (.ref d), e2]) ⟨Am.Ext.refl H, none, rfl⟩ (fun i σ H' _ h => st H' h.1) ?_ ?_
    · rintro i v σ H' H2 hi ⟨e, e2, rfl⟩ ⟨rfl, hy⟩
      obtain ⟨x, hx', rfl⟩ := map_at hy
      obtain ⟨u, gu, nu⟩ := (hn.ext e).get (List.mem_of_getElem? hx')
      exact ⟨_, rfl, _, rfl, d, _, rfl, gu, _, rfl, iteF ⟨_, rfl, _, rfl, d, _, rfl, gu, u, _, rfl, nu, _, rfl, iteF ⟨e, _, rfl⟩⟩⟩
    · rintro σ H1 ⟨e1, e2, rfl⟩
      refine ⟨_, rfl, a, _, H, rfl, ha, e1, fun J G wk st D hD => ?_⟩
      rw [List.length_map] at wk
      refine dc_it wk (fun i H' => Am.Ext H H' ∧ AmD A H' D (xs.take i) g) ⟨e1.trans (Am.Ext.new hD), [], upd_same, rfl, fun _ h => nomatch h⟩ (fun i H' _ h => st H' h.1) ?_ ?_
      · rintro i v H' H2 hi ⟨e, am⟩ ⟨rfl, hy⟩
        obtain ⟨x, hx', rfl⟩ := map_at hy
        have hm := List.mem_of_getElem? hx'
        obtain ⟨u, gu, nu⟩ := (hn.ext e).get hm
        refine ⟨rfl, _, rfl, rfl, _, rfl, _, rfl, d, _, rfl, gu, u, _, rfl, nu, hs x hm, fun r H3 e3 ir => ?_⟩
        have am3 := am.ext e3
        obtain ⟨kv3, h3, k3, _⟩ := id am3
        refine ⟨kv3, Sum.inr x, rfl, h3, ?_, ext_off (e.trans e3) (e1.gone hD), ?_⟩
        · have := congrArg List.length k3
          rw [List.length_map, List.length_map, List.length_take] at this
          omega
        · rw [take_suc hx']
          exact am3.put (not_taken ndx hx') ir h3
      · rintro H' ⟨e, am⟩
        rw [List.take_length] at am
        exact z D H' e (e1.gone hD) am
end
end KD

set_option Elab.async false
set_option linter.all false
set_option maxRecDepth 100000
set_option maxHeartbeats 1000000
/-! Total: _sum, is_true, worked_out. -/
namespace KD
open PySem PySem.Spec PyProof.Rows L2 Oo Gd Am KA SqX
/-- a method with its promise -/
structure MtD (P : Program) (w : World) (K : W.Frag) (mg : Str → Option Value) (base : Heap) (C : Addr) (nm : Str) (CX : CXT) (k : Nat) (ps : List Str) (sp : Sp) : Prop where
  of : ∃ f fd, Meth K C nm f ∧ FnOk P w K mg base CX k f fd ps sp ∧ Binds K fd ps []
def sumQ (ls : List (Str × Int)) (xs : List Str) (g : Str → Rat) : Rat := xs.foldl (fun s x => s + (((wt ls x).getD 0 : Int) : Rat) * g x) 0
theorem sumQ_snoc (ls : List (Str × Int)) (xs : List Str) (x : Str) (g : Str → Rat) : sumQ ls (xs ++ [x]) g = sumQ ls xs g + (((wt ls x).getD 0 : Int) : Rat) * g x := by
  unfold sumQ
  rw [List.foldl_append]
  rfl
def WtOk (ls : List (Str × Int)) (xs : List Str) : Prop := ∀ x ∈ xs, ∃ n, wt ls x = some n ∧ n.natAbs < 2 ^ 100
theorem sumQ_low {m : Nat} {ls : List (Str × Int)} {g : Str → Rat} : ∀ (xs : List Str), WtOk ls xs → (∀ x ∈ xs, Low m (g x)) → Low ((m + 101) * xs.length + 1) (sumQ ls xs g) := by
  intro xs
  refine snoc_ind (p := fun xs => WtOk ls xs → (∀ x ∈ xs, Low m (g x)) → Low ((m + 101) * xs.length + 1) (sumQ ls xs g)) ?_ ?_ xs
  · intro _ _
    rw [List.length_nil, Nat.mul_zero]
    exact ⟨by show (0 : Nat) < 2 ^ 1; decide, by show (1 : Nat) < 2 ^ 1; decide⟩
  · intro xs x ih hw h
    rw [sumQ_snoc]
    have a := ih (fun y hy => hw y (List.mem_append_left _ hy)) fun y hy => h y (List.mem_append_left _ hy)
    have b := h x (List.mem_append_right _ List.mem_cons_self)
    obtain ⟨n, en, nb⟩ := hw x (List.mem_append_right _ List.mem_cons_self)
    rw [en]
    have c : Low 100 ((n : Int) : Rat) := low_int nb (by decide)
    have := Low.add a (Low.mul c b)
    refine this.more ?_
    rw [List.length_append, List.length_singleton, Nat.mul_add]
    omega
section
variable {P : Program} {w : World} {K : W.Frag} {mg : Str → Option Value} {base : Heap} {f A C Z : Addr} {fd : FuncData} {t t2 t3 : Tok}
def spSum (A C : Addr) : Sp := fun vs H Q _ => ∃ (r dx pt pf pd pw D : Addr) (ls : List (Str × Int)) (xs : List Str) (g : Str → Rat) (m : Nat), vs = [.ref r, .ref D] ∧ H r = some (.ins C dx (fldT pt pf pd pw)) ∧ H pd = some (.dK (wts ls)) ∧ D ≠ pd ∧ AmD A H D xs g ∧
  WtOk ls xs ∧ (∀ x ∈ xs, Low m (g x)) ∧ (m + 101) * xs.length ≤ 3800 ∧ m ≤ 3800 ∧ New A H Q (sumQ ls xs g)
abbrev nSum : List Str := ["self", "amounts", "result", "field"]
theorem scSum : FnScope nSum ["self", "amounts"] (defScope (tot 7)) := ⟨rfl, rfl, rfl, by decide +kernel, rfl, by decide +kernel, by decide +kernel⟩
theorem ok_sum (T : ClR K C) (B : Base P w K mg base A) (Ad : OpI P w K mg base A (Operator.Add).info.2 6 fun q p => q + p) (M : OpI P w K mg base A (Operator.Mult).info.2 6 fun q p => q * p) (F : Fun K "_sum" "Total._sum" (tot 7) f fd) :
    FnOk P w K mg base CX0 7 f fd ["self", "amounts"] (spSum A C) := by
  refine F.ok scSum (fun vs H Q E h => ?_) (fun cdv A' outer s H vs Q E hr h => ?_)
  · obtain ⟨r, dx, pt, pf, pd, pw, D, ls, xs, g, m, rfl, _⟩ := h
    rfl
  · obtain ⟨r, dx, pt, pf, pd, pw, D, ls, xs, g, m, rfl, hi, hp, Dp, am, hw, hl, lm, lm1, z⟩ := h
    have nd := scSum.nd
    have hu := hu_of hr
    refine ⟨_, pss_cons (ps_set (i := 2) nd rfl (.inl rfl) (pe_mk1 B (hr.mono (by decide)) rfl (pa_cons pe_int pa_nil)))
      (pss_cons (ps_lock (ps_for PassesOwn.never rfl (pi_keys (pv 1)) (pg_name (i := 3) nd rfl (.inl rfl))
        (pss_one (ps_set (i := 2) nd rfl (.inl rfl) (pe_op (op_NN (.inl rfl) Ad hr) (pv 2) (pe_op (op_NN (.inr (.inr (.inl rfl))) M hr) (pe_dget (td := tFld K (tVar 0) "_weights") (ty := tVar 3) hu (pe_fld (pv 0) rfl) (pv 3) (fun _ _ => rfl)) (pe_dget hu (pv 1) (pv 3) (fun _ _ => rfl))))))))
      (pss_one (ps_ret (pv 2)))), ?_⟩
    refine ⟨0, rfl, by decide, fun a H1 e1 n1 i1 => ?_⟩
    obtain ⟨kvs, hd, hk, hv⟩ := id (am.ext e1)
    have len : kvs.length = xs.length := by
      have := congrArg List.length hk
      rwa [List.length_map, List.length_map] at this
    refine ⟨D, _, hd, trivial, fun od => ⟨_, rfl, D, od, rfl, .inl ⟨kvs, upd_same, ?_⟩⟩⟩
    have hF : upd H1 D (.frz od (.dK kvs)) D = some (.frz od (.dK kvs)) := upd_same
    have isF : ∀ {b : Addr} {q : Rat}, Is A H1 b q → Is A (upd H1 D (.frz od (.dK kvs))) b q := fun {b q} i => by
      obtain ⟨db, e⟩ := i
      exact ⟨db, by rw [upd_ne (ne_of e hd (fun z => nomatch z))]; exact e⟩
    have hiF : upd H1 D (.frz od (.dK kvs)) r = some (.ins C dx (fldT pt pf pd pw)) := by rw [upd_ne (ne_of (e1 _ _ hi) hd (fun z => nomatch z))]; exact e1 _ _ hi
    have hpF : upd H1 D (.frz od (.dK kvs)) pd = some (.dK (wts ls)) := by rw [upd_ne (Ne.symm Dp)]; exact e1 _ _ hp
    have i1F := isF i1
    have nF : H a = none ∧ a ≠ D := ⟨n1, fun q => by rw [q] at i1; obtain ⟨_, i1⟩ := i1; rw [hd] at i1; cases i1⟩
    have e1F : ∀ {H' : Hp}, Am.Ext (upd H1 D (.frz od (.dK kvs))) H' → Am.Ext H (upd H' D (.dK kvs)) := fun {H'} e b o hb => by
      by_cases q : b = D
      · rw [q, upd_same]
        rw [q] at hb
        rw [← e1 _ _ hb, hd]
      · rw [upd_ne q]
        exact e b o (by rw [upd_ne q]; exact e1 _ _ hb)
    have vF : ∀ x ∈ xs, ∃ b, valV kvs (Sum.inr x : Key) = some (V.ref b) ∧ Is A (upd H1 D (.frz od (.dK kvs))) b (g x) := fun x hx => by
      obtain ⟨b, h1, h2⟩ := hv x hx
      exact ⟨b, h1, isF h2⟩
    have gone : ∀ {H' : Hp} {b : Addr}, Am.Ext (upd H1 D (.frz od (.dK kvs))) H' → H' b = none → H b = none ∧ b ≠ D := fun {H' b} e n => by
      have n' := e.gone n
      have bD : b ≠ D := fun q => by rw [q, hF] at n'; cases n'
      rw [upd_ne bD] at n'
      exact ⟨e1.gone n', bD⟩
    generalize upd H1 D (.frz od (.dK kvs)) = FF at hF hiF hpF i1F e1F vF gone ⊢
    rw [← len] at lm
    refine for_it walk_keys (fun i σ H' => Am.Ext FF H' ∧ ∃ (b : Addr) (e3 : Option V), (H b = none ∧ b ≠ D) ∧ Is A H' b (sumQ ls (xs.take i) g) ∧ σ = [some (.ref r), some (.ref D), some (.ref b), e3]) ⟨Am.Ext.refl _, a, none, nF, i1F, rfl⟩ (fun i σ H' _ h => h.1 _ _ hF) ?_ ?_
    · rintro i v σ H' H2 hi' ⟨e, b, e3, nb, ib, rfl⟩ ⟨rfl, k, vv, hk', rfl⟩
      have hxi : (kvs.map (·.1))[i]? = some k := by rw [List.getElem?_map, hk']; rfl
      rw [hk, List.getElem?_map] at hxi
      obtain ⟨x, hx', rfl⟩ := Option.map_eq_some_iff.mp hxi
      have hm := List.mem_of_getElem? hx'
      obtain ⟨n, en, nbd⟩ := hw x hm
      obtain ⟨c, ec, ic⟩ := vF x hm
      have gw : DGet H2 pd (.str x) (some (.int n)) := by
        have := DGet.k (k := (Sum.inr x : Key)) (e _ _ hpF)
        rw [valV_w, en] at this
        exact this
      have ga : DGet H2 D (.str x) (some (.ref c)) := .inl ⟨kvs, Sum.inr x, .inr ⟨od, e _ _ hF⟩, rfl, ec.symm⟩
      have lx := hl x hm
      have lt := sumQ_low (m := m) (ls := ls) (g := g) (xs.take i) (fun y hy => hw y (List.mem_of_mem_take hy)) (fun y hy => hl y (List.mem_of_mem_take hy))
      have le : (m + 101) * (xs.take i).length ≤ (m + 101) * kvs.length := Nat.mul_le_mul_left _ (by rw [List.length_take]; omega)
      have lw : Low 100 ((n : Int) : Rat) := low_int nbd (by decide)
      have lp := Low.mul lw lx
      refine ⟨_, rfl, _, rfl, r, C, dx, _, _, rfl, e _ _ hiF, T.cl, T.no _ (by simp), rfl, _, rfl, pd, _, rfl, gw, _, rfl, _, rfl, D, _, rfl, ga, n, g x, Num.int n, Num.is (ic.ext e), .inr ⟨c, rfl⟩, low_sz (lw.more (by omega)) (Nat.le_refl 4000), low_sz (lx.more (by omega)) (Nat.le_refl 4000), fun r2 H3 e2 n2 i2 => ?_⟩
      refine ⟨sumQ ls (xs.take i) g, _, Num.is (ib.ext e2), Num.is i2, .inl ⟨b, rfl⟩, low_sz (lt.more (by omega)) (Nat.le_refl 4000), low_sz (lp.more (by omega)) (Nat.le_refl 4000), fun r3 H4 e3' n3 i3 => ?_⟩
      refine ⟨(e.trans e2).trans e3', r3, _, gone (e.trans e2) n3, ?_, rfl⟩
      rw [take_suc hx', sumQ_snoc, en]
      exact i3
    · rintro σ H' ⟨e, b, e3, ⟨nb, bD⟩, ib, rfl⟩
      rw [len, List.take_length] at ib
      refine ⟨e _ _ hF, _, rfl, z b _ (e1F e) nb ?_⟩
      obtain ⟨db, ib⟩ := ib
      exact ⟨db, by rw [upd_ne bD]; exact ib⟩
/-- is_true -/
def spTrT (A C : Addr) : Sp := fun vs H Q _ => ∃ (r d : Addr) (q : Rat) (ls : List (Str × Int)) (fs ws : List Str) (g : Str → Rat) (m : Nat), vs = [.ref r, .ref d] ∧ IsT A C H r q ls fs ws ∧ fs.Nodup ∧ fs.length ≤ 100 ∧ NumD A H d fs g ∧
  WtOk ls fs ∧ (∀ x ∈ fs, Low m (g x)) ∧ (m + 101) * fs.length ≤ 3800 ∧ m ≤ 3800 ∧ ∀ H', Am.Ext H H' → Q (.bl (decide (sumQ ls fs g = q))) H'
theorem scTrT : FnScope ["self", "numbers"] ["self", "numbers"] (defScope (tot 5)) := ⟨rfl, rfl, rfl, by decide +kernel, rfl, by decide +kernel, by decide +kernel⟩
theorem ok_trT (T : ClR K C) (EF : EqF P w K mg base A) (DA : Dn P w K mg base CX0 5 "_amounts" ["fields", "numbers"] (spAm K A)) (MS : MtD P w K mg base C "_sum" CX0 7 ["self", "amounts"] (spSum A C)) (F : Fun K "is_true" "Total.is_true" (tot 5) f fd) :
    FnOk P w K mg base CX0 8 f fd ["self", "numbers"] (spTrT A C) := by
  refine F.ok scTrT (fun vs H Q E h => ?_) (fun cdv A' outer s H vs Q E hr h => ?_)
  · obtain ⟨r, d, q, ls, fs, ws, g, m, rfl, _⟩ := h
    rfl
  · obtain ⟨r, d, q, ls, fs, ws, g, m, rfl, ⟨dx, pt, pf, pd, pw, hi, ht, hf, hd, hw⟩, ndf, lf, hn, ok, hl, lm, lm1, z⟩ := h
    obtain ⟨fS, fdS, hmS, FS, bS⟩ := MS.of
    refine ⟨_, pss_one (ps_ret (pe_cmpR (op_eqO (k := 0) EF (hr.mono (by decide))) (pe_meth (E := E0) (pv 0) T.cl hmS FS hr bS .nil pass0 (pa_cons (pe_dn DA hr (by rfl) (by decide) (pa_cons (pe_fld (pv 0) rfl) (pa_cons (pv 1) pa_nil))) pa_nil)) (pe_fld (pv 0) rfl) (by rfl))), ?_⟩
    refine ⟨_, rfl, r, dx, _, rfl, hi, rfl, _, rfl, r, C, dx, _, _, rfl, hi, T.cl, T.no _ (by simp), rfl, _, rfl, pf, d, fs, g, rfl, .inr (SqT.of hf), ndf, lf, hn, fun x hx => low_sz ((hl x hx).more (by omega)) (Nat.le_refl 4000), fun D H1 e1 nD am => ?_⟩
    refine ⟨r, dx, pt, pf, pd, pw, D, ls, fs, g, m, rfl, e1 _ _ hi, e1 _ _ hd, (fun q => by rw [q, hd] at nD; cases nD), am, ok, hl, lm, lm1, fun a H2 e2 n2 i2 => ?_⟩
    have e12 := e1.trans e2
    exact ⟨_, rfl, r, C, dx, _, _, rfl, e12 _ _ hi, T.cl, T.no _ (by simp), rfl, a, pt, _, q, rfl, rfl, i2, ht.ext e12, z H2 e12⟩
/-- worked_out -/
def spWoT (A C : Addr) : Sp := fun vs H Q _ => ∃ (r d : Addr) (y : Str) (q : Rat) (ls : List (Str × Int)) (fs ws : List Str) (g : Str → Rat) (m : Nat) (n : Int), vs = [.ref r, .str y, .ref d] ∧ IsT A C H r q ls fs ws ∧ y ∈ ws ∧ fs.Nodup ∧ fs.length ≤ 100 ∧ NumD A H d (oth fs y) g ∧
  WtOk ls fs ∧ wt ls y = some n ∧ n ≠ 0 ∧ n.natAbs < 2 ^ 100 ∧ (∀ x ∈ oth fs y, Low m (g x)) ∧ (m + 101) * fs.length ≤ 3800 ∧ m ≤ 3800 ∧ Low 100 q ∧ New A H Q ((q - sumQ ls (oth fs y) g) / ((n : Int) : Rat))
abbrev nWoT : List Str := ["self", "field", "numbers", "others"]
theorem scWoT : FnScope nWoT ["self", "field", "numbers"] (defScope (tot 6)) := ⟨rfl, rfl, rfl, by decide +kernel, rfl, by decide +kernel, by decide +kernel⟩
theorem ok_woT (T : ClR K C) (B : Base P w K mg base A) (S : Op P w K mg base A (Operator.Sub).info.2 6 fun q p => q - p) (V1 : Over P w K mg base A Z) (DC : Dn P w K mg base CX0 1 "_check_way" ["ways", "field"] (spChkWay K)) (DO : Dn P w K mg base CX0 1 "_others" ["fields", "field"] (spOth K))
    (DA : Dn P w K mg base CX0 5 "_amounts" ["fields", "numbers"] (spAm K A)) (MS : MtD P w K mg base C "_sum" CX0 7 ["self", "amounts"] (spSum A C)) (F : Fun K "worked_out" "Total.worked_out" (tot 6) f fd) :
    FnOk P w K mg base (L2.CX P w) 8 f fd ["self", "field", "numbers"] (spWoT A C) := by
  refine F.okX scWoT (fun vs H Q E h => ?_) (fun cdv A' outer s H vs Q E hr h => ?_)
  · obtain ⟨r, d, y, q, ls, fs, ws, g, m, n, rfl, _⟩ := h
    rfl
  · obtain ⟨r, d, y, q, ls, fs, ws, g, m, n, rfl, ⟨dx, pt, pf, pd, pw, hi, ht, hf, hd, hw⟩, hy, ndf, lf, hn, ok, wy, n0, nb, hl, lm, lm1, lq, z⟩ := h
    have nd := scWoT.nd
    have hu := hu_of hr
    obtain ⟨fS, fdS, hmS, FS, bS⟩ := MS.of
    obtain ⟨fV, fdV, hmV, FV, bV⟩ := V1.of
    refine ⟨_, pss_cons (ps_expr (pe_dn DC hr (by rfl) (by decide) (pa_cons (pe_fld (pv 0) rfl) (pa_cons (pv 1) pa_nil))))
      (pss_cons (ps_set (i := 3) nd rfl (.inl rfl) (pe_dn DA hr (by rfl) (by decide) (pa_cons (pe_dn DO hr (by rfl) (by decide) (pa_cons (pe_fld (pv 0) rfl) (pa_cons (pv 1) pa_nil))) (pa_cons (pv 2) pa_nil))))
      (pss_one (ps_ret (pe_meth (E := E) (pe_op (op_O S (hr.mono (by decide))) (pe_fld (pv 0) rfl) (pe_meth (E := E0) (pv 0) T.cl hmS FS hr bS .nil pass0 (pa_cons (pv 3) pa_nil))) B.T.cl hmV FV (hr.mono (by decide)) bV .nil (passes_call (takes_of rfl rfl rfl rfl) fun _ _ _ _ h => h) (pa_cons (pe_dget (td := tFld K (tVar 0) "_weights") (ty := tVar 1) hu (pe_fld (pv 0) rfl) (pv 1) (fun _ _ => rfl)) pa_nil))))), ?_⟩
    have tS : ∀ {a : Addr} {xs : List Str} {H' : Hp}, Tp H' a xs → SqA K H' a (xs.map V.str) := fun h => .inr (SqT.of h)
    have lo := oth_len fs y
    have lmo : (m + 101) * (oth fs y).length ≤ 3800 := Nat.le_trans (Nat.mul_le_mul_left _ lo) lm
    refine ⟨_, rfl, r, C, dx, _, _, rfl, hi, T.cl, T.no _ (by simp), rfl, _, rfl, pw, y, ws, rfl, tS hw, hy, ?_⟩
    refine ⟨_, rfl, r, C, dx, _, _, rfl, hi, T.cl, T.no _ (by simp), rfl, _, rfl, pf, y, fs, rfl, tS hf, lf, fun L H1 e1 n1 hL => ?_⟩
    refine ⟨_, rfl, L, d, oth fs y, g, rfl, .inl (SqL.of hL), ndf.filter _, by omega, hn.ext e1, fun x hx => low_sz ((hl x hx).more (by omega)) (Nat.le_refl 4000), fun D H2 e2 nD am => ?_⟩
    have e12 := e1.trans e2
    have hi2 := e12 _ _ hi
    have hd2 := e12 _ _ hd
    have lsum := sumQ_low (m := m) (ls := ls) (g := g) (oth fs y) (fun x hx => ok x (oth_mem.mp hx).1) hl
    have lw : Low 100 ((n : Int) : Rat) := low_int nb (by decide)
    refine ⟨_, rfl, r, C, dx, _, _, rfl, hi2, T.cl, T.no _ (by simp), rfl, _, rfl, r, dx, _, rfl, hi2, rfl, _, rfl, r, dx, pt, pf, pd, pw, D, ls, oth fs y, g, m, rfl, hi2, hd2, (fun q => by rw [q, e1 _ _ hd] at nD; cases nD), am, (fun x hx => ok x (oth_mem.mp hx).1), hl, lmo, lm1, fun a H3 e3 n3 i3 => ?_⟩
    have e13 := e12.trans e3
    refine ⟨pt, q, _, rfl, ht.ext e13, Num.is i3, low_sz (lq.more (by omega)) (Nat.le_refl 4000), low_sz (lsum.more (by omega)) (Nat.le_refl 4000), fun b H4 e4 n4 i4 => ?_⟩
    have e14 := e13.trans e4
    obtain ⟨db, eb⟩ := id i4
    have gw : DGet H4 pd (.str y) (some (.int n)) := by
      have := DGet.k (k := (Sum.inr y : Key)) (e14 _ _ hd)
      rw [valV_w, wy] at this
      exact this
    have ld := Low.sub lq lsum
    refine ⟨b, db, _, rfl, eb, no_over _, _, rfl, r, C, dx, _, _, rfl, e14 _ _ hi, T.cl, T.no _ (by simp), rfl, _, rfl, pd, _, rfl, gw, b, _, _, _, rfl, i4, Num.int n, ld.more (by omega), lw.more (by omega), fun _ c H5 e5 n5 i5 => z c H5 (e14.trans e5) (e14.gone n5) i5, fun e => absurd e ?_⟩
    intro h0
    exact n0 (by exact_mod_cast h0)
end
end KD

set_option Elab.async false
set_option linter.all false
set_option maxRecDepth 100000
set_option maxHeartbeats 1000000
/-! Product, Loose: is_true, worked_out. -/
namespace KD
open PySem PySem.Spec PyProof.Rows L2 Oo Gd Am KA SqX
section
variable {P : Program} {w : World} {K : W.Frag} {mg : Str → Option Value} {base : Heap} {f A C Z : Addr} {fd : FuncData} {t t2 t3 : Tok}
def spTrP (A C : Addr) : Sp := fun vs H Q _ => ∃ (r d : Addr) (q : Rat) (ls rs fs ws : List Str) (g : Str → Rat) (m : Nat), vs = [.ref r, .ref d] ∧ IsP A C H r q ls rs fs ws ∧ fs.Nodup ∧ fs.length ≤ 100 ∧ NumD A H d fs g ∧
  (∀ x ∈ ls, x ∈ fs) ∧ (∀ x ∈ rs, x ∈ fs) ∧ (∀ x ∈ fs, Low m (g x)) ∧ m * ls.length ≤ 3700 ∧ m * rs.length ≤ 3700 ∧ m ≤ 3700 ∧ Low 200 q ∧ ∀ H', Am.Ext H H' → Q (.bl (decide (mulQ ls g = q * mulQ rs g))) H'
abbrev nTrP : List Str := ["self", "numbers", "amounts"]
theorem scTrP : FnScope nTrP ["self", "numbers"] (defScope (pro 6)) := ⟨rfl, rfl, rfl, by decide +kernel, rfl, by decide +kernel, by decide +kernel⟩
theorem ok_trP (T : ClR K C) (EF : EqF P w K mg base A) (DA : Dn P w K mg base CX0 5 "_amounts" ["fields", "numbers"] (spAm K A)) (DM : Dn P w K mg base CX0 7 "_multiplied" ["fields", "amounts"] (spMul K A)) (M : OpI P w K mg base A (Operator.Mult).info.2 6 fun q p => q * p) (F : Fun K "is_true" "Product.is_true" (pro 6) f fd) :
    FnOk P w K mg base CX0 8 f fd ["self", "numbers"] (spTrP A C) := by
  refine F.ok scTrP (fun vs H Q E h => ?_) (fun cdv A' outer s H vs Q E hr h => ?_)
  · obtain ⟨r, d, q, ls, rs, fs, ws, g, m, rfl, _⟩ := h
    rfl
  · obtain ⟨r, d, q, ls, rs, fs, ws, g, m, rfl, ⟨dx, pt, pl, pr, pf, pw, hi, ht, hl, hrr, hf, hw⟩, ndf, lf, hn, sl, sr, hb, m1, m2, m3, lq, z⟩ := h
    have nd := scTrP.nd
    refine ⟨_, pss_cons (ps_set (i := 2) nd rfl (.inl rfl) (pe_dn DA hr (by rfl) (by decide) (pa_cons (pe_fld (pv 0) rfl) (pa_cons (pv 1) pa_nil))))
      (pss_one (ps_ret (pe_cmpR (op_eqO (k := 0) EF (hr.mono (by decide))) (pe_dn DM hr (by rfl) (by decide) (pa_cons (pe_fld (pv 0) rfl) (pa_cons (pv 2) pa_nil))) (pe_op (op_NN (.inr (.inr (.inl rfl))) M (hr.mono (by decide))) (pe_fld (pv 0) rfl) (pe_dn DM hr (by rfl) (by decide) (pa_cons (pe_fld (pv 0) rfl) (pa_cons (pv 2) pa_nil)))) (by rfl)))), ?_⟩
    have tS : ∀ {a : Addr} {xs : List Str} {H' : Hp}, Tp H' a xs → SqA K H' a (xs.map V.str) := fun h => .inr (SqT.of h)
    refine ⟨_, rfl, r, C, dx, _, _, rfl, hi, T.cl, T.no _ (by simp), rfl, _, rfl, pf, d, fs, g, rfl, tS hf, ndf, lf, hn, fun x hx => low_sz ((hb x hx).more (by omega)) (Nat.le_refl 4000), fun D H1 e1 nD am => ?_⟩
    refine ⟨_, rfl, r, C, dx, _, _, rfl, e1 _ _ hi, T.cl, T.no _ (by simp), rfl, _, rfl, pl, D, ls, fs, g, m, rfl, tS (e1 _ _ hl), am, fun x hx => ⟨sl x hx, hb x (sl x hx)⟩, by omega, by omega, fun a H2 e2 n2 i2 => ?_⟩
    have e12 := e1.trans e2
    refine ⟨_, rfl, r, C, dx, _, _, rfl, e12 _ _ hi, T.cl, T.no _ (by simp), rfl, _, rfl, r, C, dx, _, _, rfl, e12 _ _ hi, T.cl, T.no _ (by simp), rfl, _, rfl, pr, D, rs, fs, g, m, rfl, tS (e12 _ _ hrr), am.ext e2, fun x hx => ⟨sr x hx, hb x (sr x hx)⟩, by omega, by omega, fun b H3 e3 n3 i3 => ?_⟩
    have e13 := e12.trans e3
    have lm := mulQ_low (m := m) (g := g) rs fun x hx => hb x (sr x hx)
    refine ⟨q, _, Num.is (ht.ext e13), Num.is i3, .inl ⟨pt, rfl⟩, low_sz (lq.more (by omega)) (Nat.le_refl 4000), low_sz (lm.more (by omega)) (Nat.le_refl 4000), fun c H4 e4 n4 i4 => ?_⟩
    exact ⟨a, c, _, _, rfl, rfl, (i2.ext e3).ext e4, i4, z H4 (e13.trans e4)⟩
/-- a quotient, or by zero -/
def Quot (A Z : Addr) (H : Hp) (Q : VK) (E : XK) (n d : Rat) : Prop := (d ≠ 0 → New A H Q (n / d)) ∧ (d = 0 → Refuse Z H E)
theorem Quot.on {A Z : Addr} {H H' : Hp} {Q : VK} {E : XK} {n d : Rat} (e : Am.Ext H H') (h : Quot A Z H Q E n d) : Quot A Z H' Q E n d := ⟨fun d0 r H2 e2 n2 i2 => h.1 d0 r H2 (e.trans e2) (e.gone n2) i2, fun d0 => (h.2 d0).on e⟩
def spWoP (A C Z : Addr) : Sp := fun vs H Q E => ∃ (r d : Addr) (y : Str) (q : Rat) (ls rs fs ws : List Str) (g : Str → Rat) (m : Nat), vs = [.ref r, .str y, .ref d] ∧ IsP A C H r q ls rs fs ws ∧ y ∈ ws ∧ fs.Nodup ∧ fs.length ≤ 100 ∧ NumD A H d (oth fs y) g ∧
  (∀ x ∈ ls, x ∈ fs) ∧ (∀ x ∈ rs, x ∈ fs) ∧ ls.length ≤ 100 ∧ rs.length ≤ 100 ∧ (∀ x ∈ oth fs y, Low m (g x)) ∧ m * ls.length ≤ 3700 ∧ m * rs.length ≤ 3700 ∧ m ≤ 3700 ∧ Low 200 q ∧
  (if y ∈ ls then Quot A Z H Q E (q * mulQ (oth rs y) g) (mulQ (oth ls y) g) else Quot A Z H Q E (mulQ (oth ls y) g) (q * mulQ (oth rs y) g))
abbrev nWoP : List Str := ["self", "field", "numbers", "others", "left", "right"]
theorem scWoP : FnScope nWoP ["self", "field", "numbers"] (defScope (pro 7)) := ⟨rfl, rfl, rfl, by decide +kernel, rfl, by decide +kernel, by decide +kernel⟩
theorem ok_woP (T : ClR K C) (B : Base P w K mg base A) (V1 : Over P w K mg base A Z) (DC : Dn P w K mg base CX0 1 "_check_way" ["ways", "field"] (spChkWay K)) (DO : Dn P w K mg base CX0 1 "_others" ["fields", "field"] (spOth K))
    (DA : Dn P w K mg base CX0 5 "_amounts" ["fields", "numbers"] (spAm K A)) (DM : Dn P w K mg base CX0 7 "_multiplied" ["fields", "amounts"] (spMul K A)) (M : OpI P w K mg base A (Operator.Mult).info.2 6 fun q p => q * p) (F : Fun K "worked_out" "Product.worked_out" (pro 7) f fd) :
    FnOk P w K mg base (L2.CX P w) 8 f fd ["self", "field", "numbers"] (spWoP A C Z) := by
  refine F.okX scWoP (fun vs H Q E h => ?_) (fun cdv A' outer s H vs Q E hr h => ?_)
  · obtain ⟨r, d, y, q, ls, rs, fs, ws, g, m, rfl, _⟩ := h
    rfl
  · obtain ⟨r, d, y, q, ls, rs, fs, ws, g, m, rfl, ⟨dx, pt, pl, pr, pf, pw, hi, ht, hl, hrr, hf, hw⟩, hy, ndf, lf, hn, sl, sr, l1, l2, hb, m1, m2, m3, lq, z⟩ := h
    have nd := scWoP.nd
    have isk : IsK K := ⟨trivial⟩
    obtain ⟨fV, fdV, hmV, FV, bV⟩ := V1.of
    refine ⟨_, pss_cons (ps_expr (pe_dn DC hr (by rfl) (by decide) (pa_cons (pe_fld (pv 0) rfl) (pa_cons (pv 1) pa_nil))))
      (pss_cons (ps_set (i := 3) nd rfl (.inl rfl) (pe_dn DA hr (by rfl) (by decide) (pa_cons (pe_dn DO hr (by rfl) (by decide) (pa_cons (pe_fld (pv 0) rfl) (pa_cons (pv 1) pa_nil))) (pa_cons (pv 2) pa_nil))))
      (pss_cons (ps_set (i := 4) nd rfl (.inl rfl) (pe_dn DM hr (by rfl) (by decide) (pa_cons (pe_dn DO hr (by rfl) (by decide) (pa_cons (pe_fld (pv 0) rfl) (pa_cons (pv 1) pa_nil))) (pa_cons (pv 3) pa_nil))))
      (pss_cons (ps_set (i := 5) nd rfl (.inl rfl) (pe_op (op_NN (.inr (.inr (.inl rfl))) M (hr.mono (by decide))) (pe_fld (pv 0) rfl) (pe_dn DM hr (by rfl) (by decide) (pa_cons (pe_dn DO hr (by rfl) (by decide) (pa_cons (pe_fld (pv 0) rfl) (pa_cons (pv 1) pa_nil))) (pa_cons (pv 3) pa_nil)))))
      (pss_one (ps_ret (pe_ifExp (pt_cmpR (inK isk) (pv 1) (pe_fld (pv 0) rfl) (by rfl)) (pe_meth (E := E) (pv 5) B.T.cl hmV FV (hr.mono (by decide)) bV .nil (passes_call (takes_of rfl rfl rfl rfl) fun _ _ _ _ h => h) (pa_cons (pv 4) pa_nil)) (pe_meth (E := E) (pv 4) B.T.cl hmV FV (hr.mono (by decide)) bV .nil (passes_call (takes_of rfl rfl rfl rfl) fun _ _ _ _ h => h) (pa_cons (pv 5) pa_nil)))))))), ?_⟩
    have tS : ∀ {a : Addr} {xs : List Str} {H' : Hp}, Tp H' a xs → SqA K H' a (xs.map V.str) := fun h => .inr (SqT.of h)
    have lo := oth_len fs y
    have ol := oth_len ls y
    have orr := oth_len rs y
    have mo1 : m * (oth ls y).length ≤ 3700 := Nat.le_trans (Nat.mul_le_mul_left _ ol) m1
    have mo2 : m * (oth rs y).length ≤ 3700 := Nat.le_trans (Nat.mul_le_mul_left _ orr) m2
    have sl' : ∀ x ∈ oth ls y, x ∈ oth fs y ∧ Low m (g x) := fun x hx => by
      have := oth_mem.mpr ⟨sl x (oth_mem.mp hx).1, (oth_mem.mp hx).2⟩
      exact ⟨this, hb x this⟩
    have sr' : ∀ x ∈ oth rs y, x ∈ oth fs y ∧ Low m (g x) := fun x hx => by
      have := oth_mem.mpr ⟨sr x (oth_mem.mp hx).1, (oth_mem.mp hx).2⟩
      exact ⟨this, hb x this⟩
    refine ⟨_, rfl, r, C, dx, _, _, rfl, hi, T.cl, T.no _ (by simp), rfl, _, rfl, pw, y, ws, rfl, tS hw, hy, ?_⟩
    refine ⟨_, rfl, r, C, dx, _, _, rfl, hi, T.cl, T.no _ (by simp), rfl, _, rfl, pf, y, fs, rfl, tS hf, lf, fun L H1 e1 n1 hL => ?_⟩
    refine ⟨_, rfl, L, d, oth fs y, g, rfl, .inl (SqL.of hL), ndf.filter _, by omega, hn.ext e1, fun x hx => low_sz ((hb x hx).more (by omega)) (Nat.le_refl 4000), fun D H2 e2 nD am => ?_⟩
    have e12 := e1.trans e2
    refine ⟨_, rfl, r, C, dx, _, _, rfl, e12 _ _ hi, T.cl, T.no _ (by simp), rfl, _, rfl, pl, y, ls, rfl, tS (e12 _ _ hl), l1, fun L2 H3 e3 n3 hL2 => ?_⟩
    have e13 := e12.trans e3
    refine ⟨_, rfl, L2, D, oth ls y, oth fs y, g, m, rfl, .inl (SqL.of hL2), am.ext e3, sl', by omega, by omega, fun a H4 e4 n4 i4 => ?_⟩
    have e14 := e13.trans e4
    refine ⟨_, rfl, r, C, dx, _, _, rfl, e14 _ _ hi, T.cl, T.no _ (by simp), rfl, _, rfl, r, C, dx, _, _, rfl, e14 _ _ hi, T.cl, T.no _ (by simp), rfl, _, rfl, pr, y, rs, rfl, tS (e14 _ _ hrr), l2, fun L3 H5 e5 n5 hL3 => ?_⟩
    have e15 := e14.trans e5
    refine ⟨_, rfl, L3, D, oth rs y, oth fs y, g, m, rfl, .inl (SqL.of hL3), ((am.ext e3).ext e4).ext e5, sr', by omega, by omega, fun b H6 e6 n6 i6 => ?_⟩
    have e16 := e15.trans e6
    have lml := mulQ_low (m := m) (g := g) (oth ls y) fun x hx => (sl' x hx).2
    have lmr := mulQ_low (m := m) (g := g) (oth rs y) fun x hx => (sr' x hx).2
    refine ⟨q, _, Num.is (ht.ext e16), Num.is i6, .inl ⟨pt, rfl⟩, low_sz (lq.more (by omega)) (Nat.le_refl 4000), low_sz (lmr.more (by omega)) (Nat.le_refl 4000), fun c H7 e7 n7 i7 => ?_⟩
    have e17 := e16.trans e7
    have i47 := ((i4.ext e5).ext e6).ext e7
    have lr := Low.mul lq lmr
    obtain ⟨da, ea⟩ := id i47
    obtain ⟨dc, ec⟩ := id i7
    refine ⟨_, rfl, _, rfl, r, C, dx, _, _, rfl, e17 _ _ hi, T.cl, T.no _ (by simp), rfl, in_A (tS (e17 _ _ hl)) ⟨_, rfl, ?_⟩⟩
    rw [if_neg Bool.false_ne_true]
    by_cases c1 : y ∈ ls
    · rw [if_pos c1] at z
      rw [decide_eq_true c1]
      have z' := z.on e17
      exact iteT ⟨_, rfl, c, dc, _, rfl, ec, no_over _, _, rfl, c, _, _, _, rfl, i7, Num.is i47, lr.more (by omega), lml.more (by omega), z'.1, z'.2⟩
    · rw [if_neg c1] at z
      rw [decide_eq_false c1]
      have z' := z.on e17
      exact iteF ⟨_, rfl, a, da, _, rfl, ea, no_over _, _, rfl, a, _, _, _, rfl, i47, Num.is i7, lml.more (by omega), lr.more (by omega), z'.1, z'.2⟩
def spTrL (A C : Addr) : Sp := fun vs H Q _ => ∃ (r d : Addr) (fs ws : List Str) (g : Str → Rat), vs = [.ref r, .ref d] ∧ IsL C H r fs ws ∧ fs.Nodup ∧ fs.length ≤ 100 ∧ NumD A H d fs g ∧ (∀ x ∈ fs, Sz (g x)) ∧ ∀ H', Am.Ext H H' → Q (.bl true) H'
theorem scTrL : FnScope ["self", "numbers"] ["self", "numbers"] (defScope (lo 3)) := ⟨rfl, rfl, rfl, by decide +kernel, rfl, by decide +kernel, by decide +kernel⟩
theorem ok_trL (T : ClR K C) (DA : Dn P w K mg base CX0 5 "_amounts" ["fields", "numbers"] (spAm K A)) (F : Fun K "is_true" "Loose.is_true" (lo 3) f fd) : FnOk P w K mg base CX0 8 f fd ["self", "numbers"] (spTrL A C) := by
  refine F.ok scTrL (fun vs H Q E h => ?_) (fun cdv A' outer s H vs Q E hr h => ?_)
  · obtain ⟨r, d, fs, ws, g, rfl, _⟩ := h
    rfl
  · obtain ⟨r, d, fs, ws, g, rfl, ⟨dx, pf, pw, hi, hf, hw⟩, ndf, lf, hn, hs, z⟩ := h
    refine ⟨_, pss_cons (ps_expr (pe_dn DA hr (by rfl) (by decide) (pa_cons (pe_fld (pv 0) rfl) (pa_cons (pv 1) pa_nil)))) (pss_one (ps_ret pe_bl)), ?_⟩
    exact ⟨_, rfl, r, C, dx, _, _, rfl, hi, T.cl, T.no _ (by simp), rfl, _, rfl, pf, d, fs, g, rfl, .inr (SqT.of hf), ndf, lf, hn, hs, fun D H1 e1 nD am => z H1 e1⟩
end
end KD

set_option Elab.async false
set_option linter.all false
set_option maxRecDepth 100000
set_option maxHeartbeats 2000000
set_option exponentiation.threshold 20000
/-! _law_part, _law_times, _law_plus, _law_over. -/
namespace KD
open PySem PySem.Spec PyProof.Rows L2 Oo Gd Am KA SqX
section
variable {P : Program} {w : World} {K : W.Frag} {mg : Str → Option Value} {base : Heap} {f A C : Addr} {fd : FuncData} {t t2 t3 : Tok}
def spPrt : Sp := fun vs H Q _ => ∃ p : Addr, vs = [.ref p] ∧ Pot H p ∧ ∀ (t : Addr) (H' : Hp) (q : Rat), Kp p H H' → H t = none → t ≠ p → Fr2 H' t q → Low 40 q → Q (.ref t) H'
theorem scPrt : FnScope ["_law_pot_here", "_law_way"] ["_law_pot_here"] (defScope (top 60)) := ⟨rfl, rfl, rfl, by decide +kernel, rfl, by decide +kernel, by decide +kernel⟩
theorem ok_part (D1 : DnD P w K mg base) (DL : DnL P w K mg base) (F : Fun K "_law_part" "_law_part" (top 60) f fd) : FnOk P w K mg base CX0 2 f fd ["_law_pot_here"] spPrt := by
  refine F.ok scPrt (fun vs H Q E h => ?_) (fun cdv A' outer s H vs Q E hr h => ?_)
  · obtain ⟨p, rfl, _⟩ := h
    rfl
  · obtain ⟨p, rfl, hp, z⟩ := h
    have nd := scPrt.nd
    refine ⟨_, pss_cons (ps_set (i := 1) nd rfl (.inl rfl) (pe_dn D1 hr (by rfl) (by decide) (pa_cons (pv 0) (pa_cons pe_int pa_nil))))
      (pss_cons (ps_if (pt_cmpR op_eq (pv 1) pe_int (nomark _)) (pss_one (ps_ret (pe_tup (pa_cons pe_int (pa_cons pe_int pa_nil))))) pss_nil)
      (pss_cons (ps_if (pt_cmpR op_lt (pv 1) pe_int (nomark _)) (pss_one (ps_ret (pe_dn DL hr (by rfl) (by decide) (pa_cons (pe_op op_sub (pe_dn D1 hr (by rfl) (by decide) (pa_cons (pv 0) (pa_cons pe_int pa_nil))) pe_int) (pa_cons (pe_op op_add pe_int (pe_dn D1 hr (by rfl) (by decide) (pa_cons (pv 0) (pa_cons pe_int pa_nil)))) pa_nil))))) pss_nil)
      (pss_one (ps_ret (pe_dn DL hr (by rfl) (by decide) (pa_cons (pe_op op_sub (pe_dn D1 hr (by rfl) (by decide) (pa_cons (pv 0) (pa_cons (pe_op op_mulW pe_int (pe_op op_pow pe_int pe_int)) pa_nil))) (pe_op op_pow pe_int pe_int)) (pa_cons (pe_op op_add pe_int (pe_dn D1 hr (by rfl) (by decide) (pa_cons (pv 0) (pa_cons (pe_op op_pow pe_int pe_int) pa_nil)))) pa_nil))))))), ?_⟩
    have fin : ∀ {H2 : Hp} (k : Kp p H H2) (n d : Int), 0 < d → n.natAbs < 2 ^ 39 → d.natAbs < 2 ^ 39 → NewP H2 Q (Rat.divInt n d) := fun {H2} k n d d0 nb db t H4 e4 n4 t4 => by
      have tp : t ≠ p := ne_pot k.pot n4
      obtain ⟨b1, b2⟩ := divInt_le n d (by omega)
      refine z t H4 _ ⟨fun b o nb hb => e4 b o (k.1 b o nb hb), ?_⟩ (k.gone tp n4) tp t4 ⟨Nat.lt_of_le_of_lt b1 (Nat.lt_trans nb (by decide)), Nat.lt_of_le_of_lt b2 (Nat.lt_trans db (by decide))⟩
      obtain ⟨u, v, q, r⟩ := k.pot
      exact ⟨u, v, e4 _ _ q, r⟩
    have p39 : (2 : Nat) ^ 39 = 549755813888 := by decide
    refine ⟨_, rfl, p, 6, rfl, hp, by decide, by decide, fun d H1 d0 d1 k1 => ?_⟩
    refine ⟨_, rfl, rfl, _, rfl, ite2 (fun c => ?_) (fun c => ?_)⟩
    · refine ⟨(by show 2 ≤ sizeLine; decide), fun T hT => ?_⟩
      have Tp' := ne_pot k1.pot hT
      exact z T _ 0 (k1.trans (Kp.new k1.pot hT)) (k1.gone Tp' hT) Tp' (by show _ = _; rw [upd_same]; rfl) ⟨by decide, by decide⟩
    refine ⟨_, rfl, _, _, rfl, rfl, _, rfl, ite2 (fun c => ?_) (fun c => ?_)⟩
    · refine ⟨_, rfl, p, 21, rfl, k1.pot, by decide, by decide, fun a H2 a0 a1 k2 => ⟨_, _, rfl, rfl, ?_⟩⟩
      refine ⟨_, rfl, p, 4, rfl, k2.pot, by decide, by decide, fun b H3 b0 b1 k3 => ⟨_, _, rfl, rfl, ?_⟩⟩
      refine ⟨_, _, rfl, by omega, ?_, ?_, fin ((k1.trans k2).trans k3) _ _ (by omega) ?_ ?_⟩
      · exact Nat.lt_trans (show (a - 10).natAbs < 2 ^ 39 by omega) (Nat.pow_lt_pow_right (by decide) (by decide))
      · exact Nat.lt_trans (show (1 + b).natAbs < 2 ^ 39 by omega) (Nat.pow_lt_pow_right (by decide) (by decide))
      · omega
      · omega
    · refine ⟨_, rfl, 10, 10, rfl, rfl, ⟨by decide, by decide, by decide⟩, _, _, rfl, rfl, mulW (by decide) (by decide), p, _, rfl, k1.pot, (by show (0 : Int) < 20000000000; decide), (by show (20000000000 : Int) ≤ _; decide), fun a H2 a0 a1 k2 => ?_⟩
      replace a1 : a < 20000000000 := a1
      refine ⟨10, 10, rfl, rfl, ⟨by decide, by decide, by decide⟩, _, _, rfl, rfl, ?_⟩
      refine ⟨_, rfl, 10, 6, rfl, rfl, ⟨by decide, by decide, by decide⟩, p, _, rfl, k2.pot, (by show (0 : Int) < 1000000; decide), (by show (1000000 : Int) ≤ _; decide), fun b H3 b0 b1 k3 => ⟨_, _, rfl, rfl, ?_⟩⟩
      replace b1 : b < 1000000 := b1
      have n1 : (a - 10 ^ (10 : Int).toNat).natAbs < 2 ^ 39 := by
        show (a - 10000000000).natAbs < _
        omega
      refine ⟨_, _, rfl, by omega, ?_, ?_, fin ((k1.trans k2).trans k3) _ _ (by omega) n1 (by omega)⟩
      · exact Nat.lt_trans n1 (Nat.pow_lt_pow_right (by decide) (by decide))
      · exact Nat.lt_trans (show (1 + b).natAbs < 2 ^ 39 by omega) (Nat.pow_lt_pow_right (by decide) (by decide))
theorem scTimes : FnScope ["_law_near", "_law_far"] ["_law_near", "_law_far"] (defScope (top 61)) := ⟨rfl, rfl, rfl, by decide +kernel, rfl, by decide +kernel, by decide +kernel⟩
theorem scPlus : FnScope ["_law_near", "_law_far"] ["_law_near", "_law_far"] (defScope (top 62)) := ⟨rfl, rfl, rfl, by decide +kernel, rfl, by decide +kernel, by decide +kernel⟩
theorem ok_plus (D : DnL P w K mg base) (F : Fun K "_law_plus" "_law_plus" (top 62) f fd) : FnOk P w K mg base CX0 2 f fd ["_law_near", "_law_far"] (spPair K fun q p => q + p) := by
  refine F.ok scPlus (fun vs H Q E h => ?_) (fun cdv A outer s H vs Q E hr h => ?_)
  · obtain ⟨t, u, q, p, rfl, _⟩ := h
    rfl
  · obtain ⟨t, u, q, p, rfl, ht, hu, lq, lp, z⟩ := h
    have cm : ∀ {i j : Int}, i.natAbs < 2 ^ 3900 → j.natAbs < 2 ^ 3900 → CMulW i j := fun h h' => mulOk h h' (by decide) (by decide)
    refine ⟨_, pss_one (ps_ret (pe_dn D hr (by rfl) (by decide) (pa_cons (pe_op op_add (pe_op op_mulW (pe_ix ix_tup (pv 0) pe_int (fun _ _ => rfl)) (pe_ix ix_tup (pv 1) pe_int (fun _ _ => rfl))) (pe_op op_mulW (pe_ix ix_tup (pv 1) pe_int (fun _ _ => rfl)) (pe_ix ix_tup (pv 0) pe_int (fun _ _ => rfl))))
      (pa_cons (pe_op op_mulW (pe_ix ix_tup (pv 0) pe_int (fun _ _ => rfl)) (pe_ix ix_tup (pv 1) pe_int (fun _ _ => rfl))) pa_nil)))), ?_⟩
    refine ⟨_, rfl, ⟨_, _, 0, _, rfl, rfl, ht, rfl, _, rfl, ⟨_, _, 1, _, rfl, rfl, hu, rfl, _, _, rfl, rfl, cm lq.1 (KA.low_den lp), _, rfl, ⟨_, _, 0, _, rfl, rfl, hu, rfl, _, rfl, ⟨_, _, 1, _, rfl, rfl, ht, rfl, _, _, rfl, rfl, cm lp.1 (KA.low_den lq), _, _, rfl, rfl, ?_⟩⟩⟩⟩⟩
    refine ⟨_, rfl, ⟨_, _, 1, _, rfl, rfl, ht, rfl, _, rfl, ⟨_, _, 1, _, rfl, rfl, hu, rfl, _, _, rfl, rfl, cm (KA.low_den lq) (KA.low_den lp), _, _, rfl, Int.mul_pos (den_pos q) (den_pos p), more_bits (add_bits (low39 lq lp) (low39 lp lq)) (by decide), more_bits (den39 lq lp) (by decide), ?_⟩⟩⟩
    rw [add_rat]
    exact z
theorem ok_times (D : DnL P w K mg base) (F : Fun K "_law_times" "_law_times" (top 61) f fd) : FnOk P w K mg base CX0 2 f fd ["_law_near", "_law_far"] (spPair K fun q p => q * p) := by
  refine F.ok scTimes (fun vs H Q E h => ?_) (fun cdv A outer s H vs Q E hr h => ?_)
  · obtain ⟨t, u, q, p, rfl, _⟩ := h
    rfl
  · obtain ⟨t, u, q, p, rfl, ht, hu, lq, lp, z⟩ := h
    have cm : ∀ {i j : Int}, i.natAbs < 2 ^ 3900 → j.natAbs < 2 ^ 3900 → CMulW i j := fun h h' => mulOk h h' (by decide) (by decide)
    refine ⟨_, pss_one (ps_ret (pe_dn D hr (by rfl) (by decide) (pa_cons (pe_op op_mulW (pe_ix ix_tup (pv 0) pe_int (fun _ _ => rfl)) (pe_ix ix_tup (pv 1) pe_int (fun _ _ => rfl)))
      (pa_cons (pe_op op_mulW (pe_ix ix_tup (pv 0) pe_int (fun _ _ => rfl)) (pe_ix ix_tup (pv 1) pe_int (fun _ _ => rfl))) pa_nil)))), ?_⟩
    refine ⟨_, rfl, ⟨_, _, 0, _, rfl, rfl, ht, rfl, _, rfl, ⟨_, _, 0, _, rfl, rfl, hu, rfl, _, _, rfl, rfl, cm lq.1 lp.1, ?_⟩⟩⟩
    refine ⟨_, rfl, ⟨_, _, 1, _, rfl, rfl, ht, rfl, _, rfl, ⟨_, _, 1, _, rfl, rfl, hu, rfl, _, _, rfl, rfl, cm (KA.low_den lq) (KA.low_den lp), _, _, rfl, Int.mul_pos (den_pos q) (den_pos p), more_bits (mul_bits lq.1 lp.1) (by decide), more_bits (den39 lq lp) (by decide), ?_⟩⟩⟩
    rw [mul_rat]
    exact z
def spOver (K : W.Frag) : Sp := fun vs H Q _ => ∃ t u q p, vs = [.ref t, .ref u] ∧ Pt K H t q ∧ Pt K H u p ∧ Low 3900 q ∧ Low 3900 p ∧ p ≠ 0 ∧ NewP H Q (q / p)
abbrev nOver : List Str := ["_law_near", "_law_far", "_law_high", "_law_low"]
theorem scOver_ : FnScope nOver ["_law_near", "_law_far"] (defScope (top 63)) := ⟨rfl, rfl, rfl, by decide +kernel, rfl, by decide +kernel, by decide +kernel⟩
theorem ok_lover (fr : Frees mg) (D : DnL P w K mg base) (F : Fun K "_law_over" "_law_over" (top 63) f fd) : FnOk P w K mg base CX0 2 f fd ["_law_near", "_law_far"] (spOver K) := by
  refine F.ok scOver_ (fun vs H Q E h => ?_) (fun cdv A outer s H vs Q E hr h => ?_)
  · obtain ⟨t, u, q, p, rfl, _⟩ := h
    rfl
  · obtain ⟨t, u, q, p, rfl, ht, hu, lq, lp, p0, z⟩ := h
    have nd := scOver_.nd
    have pn : p.num ≠ 0 := fun e => p0 (Rat.num_eq_zero.mp e)
    have cm : ∀ {i j : Int}, i.natAbs < 2 ^ 3900 → j.natAbs < 2 ^ 3900 → CMulW i j := fun h h' => mulOk h h' (by decide) (by decide)
    refine ⟨_, pss_cons (ps_par (i := 2) (j := 3) rfl nd rfl rfl (by decide) rfl rfl (pa_cons (pe_op op_mulW (pe_ix ix_tup (pv 0) pe_int (fun _ _ => rfl)) (pe_ix ix_tup (pv 1) pe_int (fun _ _ => rfl))) (pa_cons (pe_op op_mulW (pe_ix ix_tup (pv 0) pe_int (fun _ _ => rfl)) (pe_ix ix_tup (pv 1) pe_int (fun _ _ => rfl))) pa_nil)) (by rfl))
      (pss_one (ps_ret (pe_dn D hr (by rfl) (by decide) (pa_cons (pe_ifExp (pt_cmpR op_gt (pv 3) pe_int (nomark _)) (pv 2) (pe_un un_neg (pv 2))) (pa_cons (pe_callB call_abs rfl (fr.h _ (by decide +kernel)) (by decide +kernel) (pa_cons (pv 3) pa_nil)) pa_nil))))), ?_⟩
    refine ⟨_, rfl, ⟨_, _, 0, _, rfl, rfl, ht, rfl, _, rfl, ⟨_, _, 1, _, rfl, rfl, hu, rfl, _, _, rfl, rfl, cm lq.1 (KA.low_den lp), ?_⟩⟩⟩
    refine ⟨_, rfl, ⟨_, _, 1, _, rfl, rfl, ht, rfl, _, rfl, ⟨_, _, 0, _, rfl, rfl, hu, rfl, _, _, rfl, rfl, cm (KA.low_den lq) lp.1, _, _, rfl, ?_⟩⟩⟩
    have b1 : (q.num * (p.den : Int)).natAbs < 2 ^ 8000 := Nat.lt_trans (low39 lq lp) (Nat.pow_lt_pow_right (by decide) (by decide))
    have b2 : ((q.den : Int) * p.num).natAbs < 2 ^ 8000 := Nat.lt_trans (mul_bits (KA.low_den lq) lp.1) (Nat.pow_lt_pow_right (by decide) (by decide))
    refine ⟨_, rfl, _, _, rfl, rfl, _, rfl, ite2 (fun h => ?_) (fun h => ?_)⟩
    · have h' : 0 < (q.den : Int) * p.num := by simpa using h
      have e1 : (if (q.den : Int) * p.num < 0 then -((q.den : Int) * p.num) else (q.den : Int) * p.num) = (q.den : Int) * p.num := if_neg (by omega)
      refine ⟨_, rfl, _, rfl, _, rfl, _, _, rfl, ?_⟩
      rw [e1]
      refine ⟨h', b1, b2, ?_⟩
      rw [div_rat]
      exact z
    · have h' : (q.den : Int) * p.num < 0 := by
        have a : ¬ 0 < (q.den : Int) * p.num := by simpa using h
        have b : (q.den : Int) * p.num ≠ 0 := Int.mul_ne_zero (den0 q) pn
        omega
      have e1 : (if (q.den : Int) * p.num < 0 then -((q.den : Int) * p.num) else (q.den : Int) * p.num) = -((q.den : Int) * p.num) := if_pos h'
      refine ⟨_, rfl, _, rfl, _, rfl, _, rfl, _, _, rfl, ?_⟩
      rw [e1]
      refine ⟨by omega, by rw [Int.natAbs_neg]; exact b1, by rw [Int.natAbs_neg]; exact b2, ?_⟩
      rw [Rat.neg_divInt_neg, div_rat]
      exact z
end
end KD

set_option Elab.async false
set_option linter.all false
set_option maxRecDepth 100000
set_option maxHeartbeats 2000000
set_option exponentiation.threshold 20000
/-! _law_product, _law_sum. -/
namespace KD
open PySem PySem.Spec PyProof.Rows L2 Oo Gd Am KA SqX
/-- fractions of fields in a dict -/
def PrtD (H : Hp) (a : Addr) (xs : List Str) (g : Str → Rat) : Prop := ∃ kvs : List (Key × V), H a = some (.dK kvs) ∧ Paired (fun (p : Key × V) (x : Str) => ∃ t : Addr, p = ((Sum.inr x : Key), V.ref t) ∧ Fr2 H t (g x)) kvs xs
theorem prt_ext {H H' : Hp} {g : Str → Rat} (e : Am.Ext H H') : ∀ {kvs : List (Key × V)} {xs : List Str}, Paired (fun (p : Key × V) (x : Str) => ∃ t : Addr, p = ((Sum.inr x : Key), V.ref t) ∧ Fr2 H t (g x)) kvs xs → Paired (fun (p : Key × V) (x : Str) => ∃ t : Addr, p = ((Sum.inr x : Key), V.ref t) ∧ Fr2 H' t (g x)) kvs xs
  | _, _, .nil => .nil
  | _, _, .cons ⟨t, a, b⟩ r => .cons ⟨t, a, e _ _ b⟩ (prt_ext e r)
theorem PrtD.ext {H H' : Hp} {a : Addr} {xs : List Str} {g : Str → Rat} (e : Am.Ext H H') (h : PrtD H a xs g) : PrtD H' a xs g := let ⟨kvs, h1, h2⟩ := h; ⟨kvs, e _ _ h1, prt_ext e h2⟩
theorem prt_val {H : Hp} {g : Str → Rat} {x : Str} : ∀ {kvs : List (Key × V)} {xs : List Str}, Paired (fun (p : Key × V) (x : Str) => ∃ t : Addr, p = ((Sum.inr x : Key), V.ref t) ∧ Fr2 H t (g x)) kvs xs → x ∈ xs → ∃ t : Addr, valV kvs (Sum.inr x : Key) = some (V.ref t) ∧ Fr2 H t (g x)
  | _, _, .nil, h => nomatch h
  | _, y :: ys, .cons ⟨t, a, b⟩ r, h => by
    by_cases e : y = x
    · subst e
      exact ⟨t, by rw [valV_pos (by rw [a]), a], b⟩
    · rw [valV_neg (by rw [a]; exact fun z => e (by injection z))]
      refine prt_val r ?_
      rcases List.mem_cons.mp h with h | h
      · exact absurd h.symm e
      · exact h
theorem PrtD.get {a : Addr} {H : Hp} {xs : List Str} {g : Str → Rat} {x : Str} (h : PrtD H a xs g) (hx : x ∈ xs) : ∃ t : Addr, DGet H a (.str x) (some (V.ref t)) ∧ Fr2 H t (g x) := by
  obtain ⟨kvs, h1, h3⟩ := h
  obtain ⟨v, e, i⟩ := prt_val h3 hx
  refine ⟨v, ?_, i⟩
  have := DGet.k (k := (Sum.inr x : Key)) h1
  rw [e] at this
  exact this
theorem wt_at {ls : List (Str × Int)} (nd : (ls.map (·.1)).Nodup) {p : Str × Int} (h : p ∈ ls) : wt ls p.1 = some p.2 := by
  induction ls with
  | nil => exact nomatch h
  | cons a ls ih =>
    rw [List.map_cons, List.nodup_cons] at nd
    unfold wt
    rcases List.mem_cons.mp h with h | h
    · rw [h, List.find?_cons_of_pos (by simp)]
      rfl
    · have ne : a.1 ≠ p.1 := fun e => nd.1 (by rw [e]; exact List.mem_map_of_mem (f := fun x : Str × Int => x.1) h)
      rw [List.find?_cons_of_neg (by simpa using ne)]
      exact ih nd.2 h
section
variable {P : Program} {w : World} {K : W.Frag} {mg : Str → Option Value} {base : Heap} {f A C : Addr} {fd : FuncData} {t t2 t3 : Tok}
abbrev DnT (P : Program) (w : World) (K : W.Frag) (mg : Str → Option Value) (base : Heap) : Prop := Dn P w K mg base CX0 2 "_law_times" ["_law_near", "_law_far"] (spPair K fun q p => q * p)
abbrev DnPl (P : Program) (w : World) (K : W.Frag) (mg : Str → Option Value) (base : Heap) : Prop := Dn P w K mg base CX0 2 "_law_plus" ["_law_near", "_law_far"] (spPair K fun q p => q + p)
abbrev DnOv (P : Program) (w : World) (K : W.Frag) (mg : Str → Option Value) (base : Heap) : Prop := Dn P w K mg base CX0 2 "_law_over" ["_law_near", "_law_far"] (spOver K)
def spLPro : Sp := fun vs H Q _ => ∃ (a b : Addr) (y : Str) (xs ys : List Str) (g : Str → Rat) (m : Nat), vs = [.ref a, .ref b, .str y] ∧ PrtD H a xs g ∧ Ls H b ys ∧ (∀ x ∈ ys, x ∈ xs ∧ Low m (g x)) ∧ m * ys.length ≤ 3700 ∧ m ≤ 3700 ∧ NewP H Q (mulQ (oth ys y) g)
abbrev nLPro : List Str := ["_law_parts", "_law_some_here", "_law_spot", "_law_found", "_law_each"]
theorem scLPro : FnScope nLPro ["_law_parts", "_law_some_here", "_law_spot"] (defScope (top 64)) := ⟨rfl, rfl, rfl, by decide +kernel, rfl, by decide +kernel, by decide +kernel⟩
theorem ok_lpro (DT : DnT P w K mg base) (F : Fun K "_law_product" "_law_product" (top 64) f fd) : FnOk P w K mg base CX0 3 f fd ["_law_parts", "_law_some_here", "_law_spot"] spLPro := by
  refine F.ok scLPro (fun vs H Q E h => ?_) (fun cdv A' outer s H vs Q E hr h => ?_)
  · obtain ⟨a, b, y, xs, ys, g, m, rfl, _⟩ := h
    rfl
  · obtain ⟨a, b, y, xs, ys, g, m, rfl, hp, hb, hx, lm, lm1, z⟩ := h
    have nd := scLPro.nd
    have hu := hu_of hr
    refine ⟨_, pss_cons (ps_set (i := 3) nd rfl (.inl rfl) (pe_tup (pa_cons pe_int (pa_cons pe_int pa_nil))))
      (pss_cons (ps_for PassesOwn.never rfl (pi_list (pv 1)) (pg_name (i := 4) nd rfl (.inl rfl))
        (pss_one (ps_if (pt_cmpR op_ne (pv 4) (pv 2) (nomark _)) (pss_one (ps_set (i := 3) nd rfl (.inl rfl) (pe_dn DT hr (by rfl) (by decide) (pa_cons (pv 3) (pa_cons (pe_dget hu (pv 0) (pv 4) (fun _ _ => rfl)) pa_nil))))) pss_nil)))
      (pss_one (ps_ret (pv 3)))), ?_⟩
    refine ⟨(by show 2 ≤ sizeLine; decide), fun T hT => ?_⟩
    have eT := Am.Ext.new (o := .tup [V.int 1, .int 1]) hT
    refine ⟨_, rfl, b, rfl, ⟨_, SqL.of (eT _ _ hb)⟩, ?_⟩
    refine for_it (walk_list (xs := ys.map V.str)) (fun i σ H' => Am.Ext H H' ∧ ∃ (r : Addr) (e3 : Option V), H r = none ∧ Fr2 H' r (mulQ (oth (ys.take i) y) g) ∧ σ = [some (.ref a), some (.ref b), some (.str y), some (.ref r), e3]) ⟨eT, T, none, hT, (by show _ = _; rw [upd_same]; rfl), rfl⟩ (fun i σ H' _ h => SqL.of (h.1 _ _ hb)) ?_ ?_
    · rintro i v σ H' H2 hi ⟨e, r, e3, nr, ir, rfl⟩ ⟨rfl, hy⟩
      obtain ⟨x, hx', rfl⟩ := map_at hy
      obtain ⟨hxy, lx⟩ := hx x (List.mem_of_getElem? hx')
      have ot := oth_take (y := y) hx'
      refine ⟨_, rfl, _, rfl, rfl, _, rfl, ?_⟩
      by_cases q : x = y
      · rw [decide_eq_true (by rw [q]), Bool.not_true]
        rw [if_neg (fun n => n q), List.append_nil] at ot
        refine iteF ⟨e, r, _, nr, ?_, rfl⟩
        rw [ot]
        exact ir
      · rw [decide_eq_false (fun z => q (by injection z)), Bool.not_false]
        rw [if_pos q] at ot
        obtain ⟨b2, gb, ib⟩ := (hp.ext e).get hxy
        have lt := mulQ_low (m := m) (g := g) (oth (ys.take i) y) (fun y hy => (hx y (List.mem_of_mem_take (oth_mem.mp hy).1)).2)
        have le : m * (oth (ys.take i) y).length ≤ m * ys.length := Nat.mul_le_mul_left _ (Nat.le_trans (oth_len _ _) (by rw [List.length_take]; omega))
        refine iteT ⟨_, rfl, _, rfl, _, rfl, a, _, rfl, gb, r, b2, mulQ (oth (ys.take i) y) g, g x, rfl, Pt.of ir, Pt.of ib, lt.more (by omega), lx.more (by omega), fun r2 H3 e2 n2 i2 => ?_⟩
        refine ⟨e.trans e2, r2, _, e.gone n2, ?_, rfl⟩
        rw [ot, mulQ_snoc]
        exact i2
    · rintro σ H' ⟨e, r, e3, nr, ir, rfl⟩
      rw [List.length_map, List.take_length] at ir
      exact ⟨_, rfl, z r H' e nr ir⟩
/-- _law_sum of a tie that is a sum -/
def spLSum : Sp := fun vs H Q _ => ∃ (t a : Addr) (y : Str) (xs : List Str) (ls : List (Str × Int)) (q : Rat) (os : List Str) (g : Str → Rat) (m : Nat), vs = [.ref t, .ref a, .str y] ∧ TieAt H t (.sum ls q) os ∧ PrtD H a xs g ∧ (ls.map (·.1)).Nodup ∧ (∀ p ∈ ls, p.2.natAbs < 2 ^ 100) ∧
  (∀ x ∈ ls.map (·.1), x ∈ xs ∧ Low m (g x)) ∧ (m + 101) * ls.length ≤ 3700 ∧ m ≤ 3700 ∧ NewP H Q (sumQ ls (oth (ls.map (·.1)) y) g)
abbrev nLSum : List Str := ["_law_tie_here", "_law_parts", "_law_spot", "_law_found", "_law_each", "_law_weight_here"]
theorem scLSum : FnScope nLSum ["_law_tie_here", "_law_parts", "_law_spot"] (defScope (top 65)) := ⟨rfl, rfl, rfl, by decide +kernel, rfl, by decide +kernel, by decide +kernel⟩
theorem wtok_of {ls : List (Str × Int)} (nd : (ls.map (·.1)).Nodup) (h : ∀ p ∈ ls, p.2.natAbs < 2 ^ 100) {xs : List Str} (s : ∀ x ∈ xs, x ∈ ls.map (·.1)) : WtOk ls xs := fun x hx => by
  obtain ⟨n, a, b⟩ := wt_some (s x hx)
  exact ⟨n, a, h _ b⟩
theorem ok_lsum (DT : DnT P w K mg base) (DP : DnPl P w K mg base) (F : Fun K "_law_sum" "_law_sum" (top 65) f fd) : FnOk P w K mg base CX0 3 f fd ["_law_tie_here", "_law_parts", "_law_spot"] spLSum := by
  refine F.ok scLSum (fun vs H Q E h => ?_) (fun cdv A' outer s H vs Q E hr h => ?_)
  · obtain ⟨t, a, y, xs, ls, q, os, g, m, rfl, _⟩ := h
    rfl
  · obtain ⟨t, a, y, xs, ls, q, os, g, m, rfl, ⟨po, ho, pl, ps, pq, hl, hps, hq, htt⟩, hp, ndl, wb, hx, lm, lm1, z⟩ := h
    have nd := scLSum.nd
    have hu := hu_of hr
    have isk : IsK K := ⟨trivial⟩
    have wk := fun {zs : List Str} (s : ∀ x ∈ zs, x ∈ ls.map (·.1)) => wtok_of ndl wb s
    refine ⟨_, pss_cons (ps_set (i := 3) nd rfl (.inl rfl) (pe_tup (pa_cons pe_int (pa_cons pe_int pa_nil))))
      (pss_cons (ps_for PassesOwn.never rfl (pi_list (pe_ix (ixK isk) (pv 0) pe_int (fun _ _ => rfl))) (pg_tup rfl (pgs_cons (pg_name (i := 4) nd rfl (.inl rfl)) (pgs_cons (pg_name (i := 5) nd rfl (.inl rfl)) pgs_nil)))
        (pss_one (ps_if (pt_cmpR op_ne (pv 4) (pv 2) (nomark _)) (pss_one (ps_set (i := 3) nd rfl (.inl rfl) (pe_dn DP hr (by rfl) (by decide) (pa_cons (pv 3) (pa_cons (pe_dn DT hr (by rfl) (by decide) (pa_cons (pe_tup (pa_cons (pv 5) (pa_cons pe_int pa_nil))) (pa_cons (pe_dget hu (pv 1) (pv 4) (fun _ _ => rfl)) pa_nil))) pa_nil))))) pss_nil)))
      (pss_one (ps_ret (pv 3)))), ?_⟩
    refine ⟨(by show 2 ≤ sizeLine; decide), fun T hT => ?_⟩
    have eT := Am.Ext.new (o := .tup [V.int 0, .int 1]) hT
    refine ⟨_, rfl, ix4 (i := 1) (eT _ _ htt) rfl ⟨pl, rfl, ⟨_, SqL.of (eT _ _ hl)⟩, ?_⟩⟩
    have lps := prs_len hps
    refine for_it (walk_list (xs := ps.map V.ref)) (fun i σ H' => Am.Ext H H' ∧ ∃ (r : Addr) (e3 e4 : Option V), H r = none ∧ Fr2 H' r (sumQ ls (oth ((ls.map (·.1)).take i) y) g) ∧ σ = [some (.ref t), some (.ref a), some (.str y), some (.ref r), e3, e4]) ⟨eT, T, none, none, hT, (by show _ = _; rw [upd_same]; rfl), rfl⟩ (fun i σ H' _ h => SqL.of (h.1 _ _ hl)) ?_ ?_
    · rintro i v σ H' H2 hi ⟨e, r, e3, e4, nr, ir, rfl⟩ ⟨rfl, hy⟩
      obtain ⟨p, pr, rfl, hpi, hpp⟩ := prs_at (hps.ext e) hy
      have hx' : (ls.map (·.1))[i]? = some pr.1 := by rw [List.getElem?_map, hpi]; rfl
      obtain ⟨hxy, lx⟩ := hx pr.1 (List.mem_of_getElem? hx')
      have hmem := List.mem_of_getElem? hpi
      have ot := oth_take (y := y) hx'
      refine ⟨p, _, rfl, SqT.of hpp, rfl, _, _, rfl, _, _, rfl, rfl, ?_⟩
      refine ⟨_, rfl, _, rfl, rfl, _, rfl, ?_⟩
      by_cases q : pr.1 = y
      · rw [decide_eq_true (by rw [q]), Bool.not_true]
        rw [if_neg (fun n => n q), List.append_nil] at ot
        refine iteF ⟨e, r, _, _, nr, ?_, rfl⟩
        rw [ot]
        exact ir
      · rw [decide_eq_false (fun z => q (by injection z)), Bool.not_false]
        rw [if_pos q] at ot
        have sub : ∀ x ∈ oth ((ls.map (·.1)).take i) y, x ∈ ls.map (·.1) := fun x hx => List.mem_of_mem_take (oth_mem.mp hx).1
        have lt := sumQ_low (m := m) (ls := ls) (g := g) (oth ((ls.map (·.1)).take i) y) (wk sub) (fun x h => (hx x (sub x h)).2)
        have le : (m + 101) * (oth ((ls.map (·.1)).take i) y).length ≤ (m + 101) * ls.length := Nat.mul_le_mul_left _ (Nat.le_trans (oth_len _ _) (by rw [List.length_take, List.length_map]; omega))
        have lw : Low 100 ((pr.2 : Int) : Rat) := low_int (wb pr hmem) (by decide)
        have lp := Low.mul lw lx
        refine iteT ⟨_, rfl, _, rfl, (by show 2 ≤ sizeLine; decide), fun T2 hT2 => ?_⟩
        have eT2 := Am.Ext.new (o := .tup [V.int pr.2, .int 1]) hT2
        obtain ⟨b2, gb, ib⟩ := (hp.ext (e.trans eT2)).get hxy
        refine ⟨_, rfl, _, rfl, a, _, rfl, gb, T2, b2, ((pr.2 : Int) : Rat), g pr.1, rfl, Pt.of (by rw [upd_same]; rfl), Pt.of ib, lw.more (by omega), lx.more (by omega), fun r2 H3 e2 n2 i2 => ?_⟩
        have ir3 := e2 _ _ (eT2 _ _ ir)
        refine ⟨r, r2, _, _, rfl, Pt.of ir3, Pt.of i2, lt.more (by omega), lp.more (by omega), fun r3 H4 e3' n3 i3 => ?_⟩
        have e4' := ((e.trans eT2).trans e2).trans e3'
        refine ⟨e4', r3, _, _, ((e.trans eT2).trans e2).gone n3, ?_, rfl⟩
        rw [ot, sumQ_snoc, wt_at ndl hmem]
        exact i3
    · rintro σ H' ⟨e, r, e3, e4, nr, ir, rfl⟩
      rw [List.length_map, lps, ← List.length_map (f := fun x : Str × Int => x.1) (as := ls), List.take_length] at ir
      exact ⟨_, rfl, z r H' e nr ir⟩
end
end KD

set_option Elab.async false
set_option linter.all false
set_option maxRecDepth 100000
set_option maxHeartbeats 2000000
set_option exponentiation.threshold 20000
/-! _law_is_so, _law_due. -/
namespace KD
open PySem PySem.Spec PyProof.Rows L2 Oo Gd Am KA SqX
def isLo : TD → Bool
  | .loo _ => true
  | _ => false
/-- a tie and fractions of fields -/
structure TG (H : Hp) (t a : Addr) (td : TD) (os xs : List Str) (g : Str → Rat) : Prop where
  tie : TieAt H t td os
  pd : PrtD H a xs g
  ok : TdOk td os
  sm : Sm td
  l4 : td.ins.length ≤ 4
  sub : ∀ x ∈ td.ins, x ∈ xs
  low : ∀ x ∈ xs, Low 40 (g x)
  nl : isLo td = false
theorem TG.ext {H H' : Hp} {t a : Addr} {td : TD} {os xs : List Str} {g : Str → Rat} (e : Am.Ext H H') (h : TG H t a td os xs g) : TG H' t a td os xs g := ⟨h.tie.ext e, h.pd.ext e, h.ok, h.sm, h.l4, h.sub, h.low, h.nl⟩
def soB (td : TD) (g : Str → Rat) : Bool := match td with
  | .loo _ => true
  | .sum ls q => decide (sumQ ls (ls.map (·.1)) g = q)
  | .pro xs ys q => decide (mulQ xs g = q * mulQ ys g)
/-- a quotient, none by zero -/
def quo (n d : Rat) : Option Rat := if d = 0 then none else some (n / d)
def dueQ (td : TD) (y : Str) (g : Str → Rat) : Option Rat := match td with
  | .loo _ => none
  | .sum ls q => some ((q - sumQ ls (oth (ls.map (·.1)) y) g) / (((wt ls y).getD 0 : Int) : Rat))
  | .pro xs ys q => if y ∈ ys then quo (mulQ (oth xs y) g) (q * mulQ (oth ys y) g) else quo (q * mulQ (oth ys y) g) (mulQ (oth xs y) g)
def DueR (H : Hp) (Q : VK) : Option Rat → Prop
  | none => ∀ H', Am.Ext H H' → Q .non H'
  | some r => NewP H Q r
theorem NewP.on {H H' : Hp} {Q : VK} {q : Rat} (e : Am.Ext H H') (h : NewP H Q q) : NewP H' Q q := fun t H2 e2 n2 h2 => h t H2 (e.trans e2) (e.gone n2) h2
theorem DueR.on {H H' : Hp} {Q : VK} {r : Option Rat} (e : Am.Ext H H') (h : DueR H Q r) : DueR H' Q r := by
  cases r with
  | none => exact fun H2 e2 => h H2 (e.trans e2)
  | some r => exact NewP.on e h
theorem eq_fr {K : W.Frag} {H : Hp} {a b : Addr} {q p : Rat} {Q : VK} (ha : Pt K H a q) (hb : Pt K H b p) (z : Q (.bl (decide (q = p))) H) : rEqD K (.ref a) (.ref b) H Q := by
  refine ⟨.tuple [.int q.num, .int q.den], .tuple [.int p.num, .int p.den], .tup ha (.cons (.int _) (.cons (.int _) .nil)), .tup hb (.cons (.int _) (.cons (.int _) .nil)), rfl, rfl, ?_⟩
  have e : PyData.eqv (.tuple [.int q.num, .int q.den]) (.tuple [.int p.num, .int p.den]) = decide (q = p) := by
    show ((q.num == p.num) && (((q.den : Int) == (p.den : Int)) && true)) = _
    rw [Bool.and_true]
    by_cases h : q = p
    · subst h
      simp
    · rw [decide_eq_false h]
      by_cases h1 : q.num = p.num
      · have h2 : ¬ (q.den : Int) = p.den := fun h2 => h (Rat.ext h1 (by omega))
        rw [beq_eq_false_iff_ne.mpr h2, Bool.and_false]
      · rw [beq_eq_false_iff_ne.mpr h1, Bool.false_and]
  rw [e]
  exact z
theorem oth_emp {xs : List Str} (h : ∀ x ∈ xs, nameB x = true) : oth xs "" = xs := by
  unfold oth
  refine List.filter_eq_self.mpr fun x hx => decide_eq_true fun e => ?_
  have := (name_len (h x hx)).1
  rw [e] at this
  exact absurd this (by decide)
theorem Fr2.neg {H : Hp} {t : Addr} {q : Rat} (h : H t = some (.tup [.int (-q.num), .int q.den])) : Fr2 H t (-q) := h
section
variable {P : Program} {w : World} {K : W.Frag} {mg : Str → Option Value} {base : Heap} {f A C : Addr} {fd : FuncData} {t t2 t3 : Tok}
abbrev DnLP (P : Program) (w : World) (K : W.Frag) (mg : Str → Option Value) (base : Heap) : Prop := Dn P w K mg base CX0 3 "_law_product" ["_law_parts", "_law_some_here", "_law_spot"] spLPro
abbrev DnLS (P : Program) (w : World) (K : W.Frag) (mg : Str → Option Value) (base : Heap) : Prop := Dn P w K mg base CX0 3 "_law_sum" ["_law_tie_here", "_law_parts", "_law_spot"] spLSum
def spIsSo : Sp := fun vs H Q _ => ∃ (t a : Addr) (td : TD) (os xs : List Str) (g : Str → Rat), vs = [.ref t, .ref a] ∧ TG H t a td os xs g ∧ ∀ H', Am.Ext H H' → Q (.bl (soB td g)) H'
theorem scIsSo : FnScope ["_law_tie_here", "_law_parts"] ["_law_tie_here", "_law_parts"] (defScope (top 66)) := ⟨rfl, rfl, rfl, by decide +kernel, rfl, by decide +kernel, by decide +kernel⟩
theorem ok_isso (DT : DnT P w K mg base) (DP : DnLP P w K mg base) (DS : DnLS P w K mg base) (F : Fun K "_law_is_so" "_law_is_so" (top 66) f fd) : FnOk P w K mg base CX0 4 f fd ["_law_tie_here", "_law_parts"] spIsSo := by
  refine F.ok scIsSo (fun vs H Q E h => ?_) (fun cdv A' outer s H vs Q E hr h => ?_)
  · obtain ⟨t, a, td, os, xs, g, rfl, _⟩ := h
    rfl
  · obtain ⟨t, a, td, os, xs, g, rfl, tg, z⟩ := h
    have isk : IsK K := ⟨trivial⟩
    refine ⟨_, pss_cons (ps_if (pt_cmpR op_eq (pe_ix (ixK isk) (pv 0) pe_int (fun _ _ => rfl)) pe_str (nomark _)) (pss_one (ps_ret (pe_cmpR (eqK isk hr) (pe_dn DS hr (by rfl) (by decide) (pa_cons (pv 0) (pa_cons (pv 1) (pa_cons pe_str pa_nil)))) (pe_ix (ixK isk) (pv 0) pe_int (fun _ _ => rfl)) (by rfl)))) pss_nil)
      (pss_one (ps_ret (pe_cmpR (eqK isk hr) (pe_dn DP hr (by rfl) (by decide) (pa_cons (pv 1) (pa_cons (pe_ix (ixK isk) (pe_ix (ixK isk) (pv 0) pe_int (fun _ _ => rfl)) pe_int (fun _ _ => rfl)) (pa_cons pe_str pa_nil))))
        (pe_dn DT hr (by rfl) (by decide) (pa_cons (pe_ix (ixK isk) (pv 0) pe_int (fun _ _ => rfl)) (pa_cons (pe_dn DP hr (by rfl) (by decide) (pa_cons (pv 1) (pa_cons (pe_ix (ixK isk) (pe_ix (ixK isk) (pv 0) pe_int (fun _ _ => rfl)) pe_int (fun _ _ => rfl)) (pa_cons pe_str pa_nil)))) pa_nil))) (by rfl)))), ?_⟩
    have nm := tg.ok.nm
    have sub := tg.sub
    have l4 := tg.l4
    have tie0 := tg.tie
    cases td with
    | loo ys => exact nomatch tg.nl
    | sum ls q =>
      obtain ⟨po, ho, pl, ps, pq, hl, hps, hq, htt⟩ := id tie0
      have wb := tg.sm.1
      have ll : ls.length ≤ 4 := by rw [← List.length_map (f := fun x : Str × Int => x.1) (as := ls)]; exact l4
      refine ⟨_, rfl, ix4 (i := 0) htt rfl ⟨rfl, _, rfl, if_yes ⟨_, rfl, _, rfl, t, a, "", xs, ls, q, os, g, 40, rfl, tie0, tg.pd, nm.nd, wb, fun x hx => ⟨sub x hx, tg.low x (sub x hx)⟩, by omega, by decide, fun r H1 e1 n1 i1 => ?_⟩⟩⟩
      have oe : oth (ls.map (·.1)) "" = ls.map (·.1) := oth_emp (xs := TD.ins (.sum ls q)) nm.ok
      rw [oe] at i1
      exact ⟨_, rfl, ix4 (i := 2) (e1 _ _ htt) rfl (.inr (eq_fr (Pt.of i1) (Pt.of (e1 _ _ hq)) (z H1 e1)))⟩
    | pro ys zs q =>
      obtain ⟨po, ho, pp, px, py, pq, hx, hy, hpp, hq, htt⟩ := id tie0
      have lq := tg.sm
      have ll : ys.length + zs.length ≤ 4 := by rw [← List.length_append]; exact l4
      refine ⟨_, rfl, ix4 (i := 0) htt rfl ⟨rfl, _, rfl, if_no s_ps ⟨_, rfl, _, rfl, ix4 (i := 1) htt rfl (ix4 (i := 0) hpp rfl ⟨a, px, "", xs, ys, g, 40, rfl, tg.pd, hx, fun x h => ⟨sub x (List.mem_append_left _ h), tg.low x (sub x (List.mem_append_left _ h))⟩, by omega, by decide, fun r H1 e1 n1 i1 => ?_⟩)⟩⟩⟩
      rw [oth_emp nm.left.ok] at i1
      refine ⟨_, rfl, ix4 (i := 2) (e1 _ _ htt) rfl ⟨_, rfl, _, rfl, ix4 (i := 1) (e1 _ _ htt) rfl (ix4 (i := 1) (e1 _ _ hpp) rfl ⟨a, py, "", xs, zs, g, 40, rfl, tg.pd.ext e1, e1 _ _ hy, fun x h => ⟨sub x (List.mem_append_right _ h), tg.low x (sub x (List.mem_append_right _ h))⟩, by omega, by decide, fun r2 H2 e2 n2 i2 => ?_⟩)⟩⟩
      rw [oth_emp nm.right.ok] at i2
      have lz := mulQ_low (m := 40) (g := g) zs fun x h => tg.low x (sub x (List.mem_append_right _ h))
      refine ⟨pq, r2, q, _, rfl, Pt.of ((e1.trans e2) _ _ hq), Pt.of i2, Low.more lq (by omega), lz.more (by omega), fun r3 H3 e3 n3 i3 => ?_⟩
      exact .inr (eq_fr (Pt.of (e3 _ _ (e2 _ _ i1))) (Pt.of i3) (z H3 ((e1.trans e2).trans e3)))
def spDue : Sp := fun vs H Q _ => ∃ (t a : Addr) (y : Str) (td : TD) (os xs : List Str) (g : Str → Rat), vs = [.ref t, .ref a, .str y] ∧ TG H t a td os xs g ∧ y ∈ td.ins ∧ DueR H Q (dueQ td y g)
abbrev nDue : List Str := ["_law_tie_here", "_law_parts", "_law_spot", "_law_rest", "_law_sides"]
theorem scDue : FnScope nDue ["_law_tie_here", "_law_parts", "_law_spot"] (defScope (top 67)) := ⟨rfl, rfl, rfl, by decide +kernel, rfl, by decide +kernel, by decide +kernel⟩
theorem ok_due (fr : Frees mg) (DT : DnT P w K mg base) (DPl : DnPl P w K mg base) (DO : DnOv P w K mg base) (DP : DnLP P w K mg base) (DS : DnLS P w K mg base) (F : Fun K "_law_due" "_law_due" (top 67) f fd) : FnOk P w K mg base CX0 4 f fd ["_law_tie_here", "_law_parts", "_law_spot"] spDue := by
  refine F.ok scDue (fun vs H Q E h => ?_) (fun cdv A' outer s H vs Q E hr h => ?_)
  · obtain ⟨t, a, y, td, os, xs, g, rfl, _⟩ := h
    rfl
  · obtain ⟨t, a, y, td, os, xs, g, rfl, tg, hyi, z⟩ := h
    have nd := scDue.nd
    have hu := hu_of hr
    have isk : IsK K := ⟨trivial⟩
    refine ⟨_, pss_cons (ps_if (pt_cmpR op_eq (pe_ix (ixK isk) (pv 0) pe_int (fun _ _ => rfl)) pe_str (nomark _))
        (pss_cons (ps_set (i := 3) nd rfl (.inl rfl) (pe_dn DS hr (by rfl) (by decide) (pa_cons (pv 0) (pa_cons (pv 1) (pa_cons (pv 2) pa_nil)))))
        (pss_one (ps_ret (pe_dn DO hr (by rfl) (by decide) (pa_cons (pe_dn DPl hr (by rfl) (by decide) (pa_cons (pe_ix (ixK isk) (pv 0) pe_int (fun _ _ => rfl)) (pa_cons (pe_tup (pa_cons (pe_un un_neg (pe_ix (ixK isk) (pv 3) pe_int (fun _ _ => rfl))) (pa_cons (pe_ix (ixK isk) (pv 3) pe_int (fun _ _ => rfl)) pa_nil))) pa_nil)))
          (pa_cons (pe_tup (pa_cons (pe_dget hu (pe_callTy (call_dictP rfl) rfl (fr.h _ (by decide +kernel)) (by decide +kernel) (pa_cons (pe_ix (ixK isk) (pv 0) pe_int (fun _ _ => rfl)) pa_nil)) (pv 2) (fun _ _ => rfl)) (pa_cons pe_int pa_nil))) pa_nil)))))) pss_nil)
      (pss_cons (ps_set (i := 4) nd rfl (.inl rfl) (pe_lst (pa_cons (pe_dn DP hr (by rfl) (by decide) (pa_cons (pv 1) (pa_cons (pe_ix (ixK isk) (pe_ix (ixK isk) (pv 0) pe_int (fun _ _ => rfl)) pe_int (fun _ _ => rfl)) (pa_cons (pv 2) pa_nil))))
        (pa_cons (pe_dn DT hr (by rfl) (by decide) (pa_cons (pe_ix (ixK isk) (pv 0) pe_int (fun _ _ => rfl)) (pa_cons (pe_dn DP hr (by rfl) (by decide) (pa_cons (pv 1) (pa_cons (pe_ix (ixK isk) (pe_ix (ixK isk) (pv 0) pe_int (fun _ _ => rfl)) pe_int (fun _ _ => rfl)) (pa_cons (pv 2) pa_nil)))) pa_nil))) pa_nil))))
      (C8.pss_cut (ps_if (pt_cmpR (inK isk) (pv 2) (pe_ix (ixK isk) (pe_ix (ixK isk) (pv 0) pe_int (fun _ _ => rfl)) pe_int (fun _ _ => rfl)) (by rfl)) (pss_one (ps_set (i := 4) nd rfl (.inl rfl) (pe_revL (pv 4)))) pss_nil)
      (pss_one (ps_ret (pe_ifExp (pt_cmpR op_eq (pe_ix (ixK isk) (pe_ix (ixK isk) (pv 4) pe_int (fun _ _ => rfl)) pe_int (fun _ _ => rfl)) pe_int (nomark _)) pe_non (pe_dn DO hr (by rfl) (by decide) (pa_cons (pe_ix (ixK isk) (pv 4) pe_int (fun _ _ => rfl)) (pa_cons (pe_ix (ixK isk) (pv 4) pe_int (fun _ _ => rfl)) pa_nil)))))))), ?_⟩
    have nm := tg.ok.nm
    have sub := tg.sub
    have l4 := tg.l4
    have tie0 := tg.tie
    cases td with
    | loo ys => exact nomatch tg.nl
    | sum ls q =>
      obtain ⟨po, ho, pl, ps, pq, hl, hps, hq, htt⟩ := id tie0
      obtain ⟨wb, lq⟩ := tg.sm
      have n0 := tg.ok.dt.1
      obtain ⟨n, en, mn⟩ := wt_some hyi
      have ll : ls.length ≤ 4 := by rw [← List.length_map (f := fun x : Str × Int => x.1) (as := ls)]; exact l4
      refine ⟨_, rfl, ix4 (i := 0) htt rfl ⟨rfl, _, rfl, if_yes ⟨_, rfl, _, rfl, _, rfl, t, a, y, xs, ls, q, os, g, 40, rfl, tie0, tg.pd, nm.nd, wb, fun x hx => ⟨sub x hx, tg.low x (sub x hx)⟩, by omega, by decide, fun r H1 e1 n1 i1 => ?_⟩⟩⟩
      have ls1 := sumQ_low (m := 40) (ls := ls) (g := g) (oth (ls.map (·.1)) y) (wtok_of nm.nd wb fun x h => (oth_mem.mp h).1) (fun x h => tg.low x (sub x (show x ∈ ls.map (·.1) from (oth_mem.mp h).1)))
      have lo := Nat.le_trans (oth_len (ls.map (·.1)) y) l4
      replace i1 : H1 r = some (.tup [.int (sumQ ls (oth (ls.map (·.1)) y) g).num, .int (sumQ ls (oth (ls.map (·.1)) y) g).den]) := i1
      have lsn : Low 700 (sumQ ls (oth (ls.map (·.1)) y) g) := ls1.more (by omega)
      have z' : ∀ H', Am.Ext H H' → NewP H' Q ((q - sumQ ls (oth (ls.map (·.1)) y) g) / ((n : Int) : Rat)) := fun H' e' => by
        have := DueR.on e' z
        rw [show dueQ (.sum ls q) y g = some ((q - sumQ ls (oth (ls.map (·.1)) y) g) / (((wt ls y).getD 0 : Int) : Rat)) from rfl, en] at this
        exact this
      generalize sumQ ls (oth (ls.map (·.1)) y) g = sm at i1 lsn z'
      refine ⟨_, rfl, ix4 (i := 2) (e1 _ _ htt) rfl ⟨_, rfl, ix4 (i := 0) i1 rfl ⟨_, rfl, _, rfl, ix4 (i := 1) i1 rfl ⟨(by show 2 ≤ sizeLine; decide), fun T hT => ?_⟩⟩⟩⟩
      have eT := Am.Ext.new (o := .tup [V.int (-sm.num), .int sm.den]) hT
      have e1T := e1.trans eT
      refine ⟨pq, T, q, -sm, rfl, Pt.of (e1T _ _ hq), Pt.of upd_same, lq.more (by decide), low_neg (lsn.more (by decide)), fun r2 H2 e2 n2 i2 => ?_⟩
      have e02 := e1T.trans e2
      refine ⟨_, rfl, ix4 (i := 1) (e02 _ _ htt) rfl ⟨pl, ps, wts ls, rfl, SqL.of (e02 _ _ hl), prs_kv (Prs.ext e02 hps), fun d hd => ?_⟩⟩
      rw [merge_w nm.nd]
      have ed := Am.Ext.new (o := .dK (wts ls)) hd
      have gw : DGet (upd H2 d (.dK (wts ls))) d (.str y) (some (.int n)) := by
        have := DGet.k (k := (Sum.inr y : Key)) (upd_same (H := H2) (a := d) (o := .dK (wts ls)))
        rw [valV_w, en] at this
        exact this
      refine ⟨_, rfl, d, _, rfl, gw, (by show 2 ≤ sizeLine; decide), fun T2 hT2 => ?_⟩
      have eT2 := Am.Ext.new (o := .tup [V.int n, .int 1]) hT2
      have e2T := ed.trans eT2
      have nz : ((n : Int) : Rat) ≠ 0 := fun h0 => n0 _ mn |>.1 (by exact_mod_cast h0)
      have lw : Low 100 ((n : Int) : Rat) := low_int (wb _ mn) (by decide)
      have la := Low.add lq (low_neg lsn)
      refine ⟨r2, T2, q + -sm, ((n : Int) : Rat), rfl, Pt.of (e2T _ _ i2), Pt.of (by rw [upd_same]; rfl), la.more (by decide), lw.more (by decide), nz, ?_⟩
      rw [← Rat.sub_eq_add_neg]
      exact z' _ (e02.trans e2T)
    | pro ys zs q =>
      obtain ⟨po, ho, pp, px, py, pq, hx, hy, hpp, hq, htt⟩ := id tie0
      have lq : Low 100 q := tg.sm
      have ll : ys.length + zs.length ≤ 4 := by rw [← List.length_append]; exact l4
      refine ⟨_, rfl, ix4 (i := 0) htt rfl ⟨rfl, _, rfl, if_no s_ps ⟨_, rfl, _, rfl, ix4 (i := 1) htt rfl (ix4 (i := 0) hpp rfl ⟨_, rfl, a, px, y, xs, ys, g, 40, rfl, tg.pd, hx, fun x h => ⟨sub x (List.mem_append_left _ h), tg.low x (sub x (List.mem_append_left _ h))⟩, by omega, by decide, fun r H1 e1 n1 i1 => ?_⟩)⟩⟩⟩
      refine ⟨_, rfl, ix4 (i := 2) (e1 _ _ htt) rfl ⟨_, rfl, _, rfl, ix4 (i := 1) (e1 _ _ htt) rfl (ix4 (i := 1) (e1 _ _ hpp) rfl ⟨_, rfl, a, py, y, xs, zs, g, 40, rfl, tg.pd.ext e1, e1 _ _ hy, fun x h => ⟨sub x (List.mem_append_right _ h), tg.low x (sub x (List.mem_append_right _ h))⟩, by omega, by decide, fun r2 H2 e2 n2 i2 => ?_⟩)⟩⟩
      have lz := mulQ_low (m := 40) (g := g) (oth zs y) fun x h => tg.low x (sub x (List.mem_append_right _ (oth_mem.mp h).1))
      have ly := mulQ_low (m := 40) (g := g) (oth ys y) fun x h => tg.low x (sub x (List.mem_append_left _ (oth_mem.mp h).1))
      have lo1 := oth_len zs y
      have lo2 := oth_len ys y
      refine ⟨pq, r2, q, _, rfl, Pt.of ((e1.trans e2) _ _ hq), Pt.of i2, lq.more (by omega), lz.more (by omega), fun r3 H3 e3 n3 i3 => ?_⟩
      have e03 := (e1.trans e2).trans e3
      refine ⟨(by show 2 ≤ sizeLine; decide), fun S hS => ?_⟩
      have eS := Am.Ext.new (o := .lst [V.ref r, .ref r3]) hS
      have e0S := e03.trans eS
      have i1' : Fr2 (upd H3 S (.lst [V.ref r, .ref r3])) r (mulQ (oth ys y) g) := eS _ _ (e3 _ _ (e2 _ _ i1))
      have i3' : Fr2 (upd H3 S (.lst [V.ref r, .ref r3])) r3 (q * mulQ (oth zs y) g) := eS _ _ i3
      have hS' : upd H3 S (.lst [V.ref r, .ref r3]) S = some (.lst [.ref r, .ref r3]) := upd_same
      have lmr : Low 400 (q * mulQ (oth zs y) g) := (Low.mul lq lz).more (by omega)
      have lml : Low 400 (mulQ (oth ys y) g) := ly.more (by omega)
      have due : dueQ (.pro ys zs q) y g = if y ∈ zs then quo (mulQ (oth ys y) g) (q * mulQ (oth zs y) g) else quo (q * mulQ (oth zs y) g) (mulQ (oth ys y) g) := rfl
      generalize mulQ (oth ys y) g = L at i1' lml due
      generalize q * mulQ (oth zs y) g = R at i3' lmr due
      generalize upd H3 S (.lst [V.ref r, .ref r3]) = H4 at e0S i1' i3' hS' ⊢
      refine ⟨fun σ H5 => ∃ (S u v : Addr) (n d : Rat), σ = [some (.ref t), some (.ref a), some (.str y), none, some (.ref S)] ∧ Am.Ext H H5 ∧ H5 S = some (.lst [.ref u, .ref v]) ∧ Fr2 H5 u d ∧ Fr2 H5 v n ∧ Low 400 d ∧ Low 400 n ∧ dueQ (.pro ys zs q) y g = quo n d, ?_, ?_⟩
      · refine ⟨_, rfl, _, rfl, ix4 (i := 1) (e0S _ _ htt) rfl (ix4 (i := 1) (e0S _ _ hpp) rfl (in_A (.inl (SqL.of (e0S _ _ hy))) ⟨_, rfl, ?_⟩))⟩
        rw [if_neg Bool.false_ne_true]
        by_cases c : y ∈ zs
        · rw [decide_eq_true c]
          rw [if_pos c] at due
          refine iteT ⟨_, rfl, S, _, rfl, SqL.of hS', fun p hp => ?_⟩
          have ep := Am.Ext.new (o := .lst [V.ref r3, .ref r]) hp
          exact ⟨p, r3, r, L, R, rfl, e0S.trans ep, upd_same, ep _ _ i3', ep _ _ i1', lmr, lml, due⟩
        · rw [decide_eq_false c]
          rw [if_neg c] at due
          exact iteF ⟨S, r, r3, R, L, rfl, e0S, hS', i1', i3', lml, lmr, due⟩
      · rintro σ H5 ⟨S, u, v, n, d, rfl, e5, hS5, hu5, hv5, ld, ln, due5⟩
        rw [due5] at z
        have a0 : atI [V.ref u, V.ref v] ((0 : Nat) : Int) = some (V.ref u) := atI_nat (j := 0) rfl
        have a1 : atI [V.ref u, V.ref v] ((1 : Nat) : Int) = some (V.ref v) := atI_nat (j := 1) rfl
        refine ⟨_, rfl, .inl ⟨S, _, 0, _, rfl, rfl, SqL.of hS5, a0, ix4 (i := 0) hu5 rfl ⟨rfl, _, rfl, ite2 (fun c => ?_) (fun c => ?_)⟩⟩⟩
        · have d0 : d = 0 := Rat.num_eq_zero.mp (by simpa using c)
          have : quo n d = none := if_pos d0
          rw [this] at z
          exact z H5 e5
        · have d0 : d ≠ 0 := fun e => c (by rw [e]; rfl)
          have : quo n d = some (n / d) := if_neg d0
          rw [this] at z
          refine ⟨_, rfl, .inl ⟨S, _, 1, _, rfl, rfl, SqL.of hS5, a1, _, rfl, .inl ⟨S, _, 0, _, rfl, rfl, SqL.of hS5, a0, v, u, n, d, rfl, Pt.of hv5, Pt.of hu5, ln.more (by decide), ld.more (by decide), d0, NewP.on e5 z⟩⟩⟩
end
end KD

set_option Elab.async false
set_option linter.all false
set_option maxRecDepth 100000
set_option maxHeartbeats 2000000
set_option exponentiation.threshold 20000
/-! _law_shape, _law_passed. -/
namespace KD
open PySem PySem.Spec PyProof.Rows L2 Oo Gd Am KA SqX
/-- names and NUMBERS as a dict's pairs -/
def PasR (A : Addr) (H : Hp) : List (Key × V) → List (Str × Rat) → Prop := Paired fun p y => p.1 = (Sum.inr y.1 : Key) ∧ Num A H p.2 y.2
def PasD (A : Addr) (H : Hp) (D : Addr) (ys : List (Str × Rat)) : Prop := ∃ kvs : List (Key × V), H D = some (.dK kvs) ∧ PasR A H kvs ys
theorem pas_mono {A : Addr} {H H' : Hp} (f : ∀ (b C dx : Addr) (fs : List (Str × V)), H b = some (.ins C dx fs) → H' b = some (.ins C dx fs)) : ∀ {kvs : List (Key × V)} {ys : List (Str × Rat)}, PasR A H kvs ys → PasR A H' kvs ys
  | _, _, .nil => .nil
  | _, _, .cons ⟨a, b⟩ r => .cons ⟨a, b.imp (fun z => z) fun ⟨x, e, dx, i⟩ => ⟨x, e, dx, f _ _ _ _ i⟩⟩ (pas_mono f r)
theorem PasD.ext {A D : Addr} {H H' : Hp} {ys : List (Str × Rat)} (e : Am.Ext H H') (h : PasD A H D ys) : PasD A H' D ys := let ⟨kvs, a, b⟩ := h; ⟨kvs, e _ _ a, pas_mono (fun _ _ _ _ i => e _ _ i) b⟩
theorem PasD.kp {A D p : Addr} {H H' : Hp} {ys : List (Str × Rat)} (k : Kp p H H') (hp : Pot H p) (h : PasD A H D ys) : PasD A H' D ys := by
  obtain ⟨kvs, a, b⟩ := h
  obtain ⟨u, v, q, _⟩ := hp
  exact ⟨kvs, k.at (ne_of a q (fun e => nomatch e)) a, pas_mono (fun c C dx fs i => k.at (ne_of i q (fun e => nomatch e)) i) b⟩
theorem pas_keys {A : Addr} {H : Hp} : ∀ {kvs : List (Key × V)} {ys : List (Str × Rat)}, PasR A H kvs ys → kvs.map (·.1) = (ys.map (·.1)).map (Sum.inr : Str → Key)
  | _, _, .nil => rfl
  | _, _, .cons ⟨a, b⟩ r => by
    rw [List.map_cons, List.map_cons, List.map_cons, a, pas_keys r]
theorem pas_snoc {A : Addr} {H : Hp} {k : Key} {v : V} {y : Str × Rat} (hk : k = Sum.inr y.1) (hv : Num A H v y.2) : ∀ {kvs : List (Key × V)} {ys : List (Str × Rat)}, PasR A H kvs ys → PasR A H (kvs ++ [(k, v)]) (ys ++ [y])
  | _, _, .nil => .cons ⟨hk, hv⟩ .nil
  | _, _, .cons a r => .cons a (pas_snoc hk hv r)
theorem pas_val {A : Addr} {H : Hp} {x : Str} {g : Str → Rat} : ∀ {kvs : List (Key × V)} {ys : List (Str × Rat)}, PasR A H kvs ys → (∀ y ∈ ys, y.1 = x → y.2 = g x) → x ∈ ys.map (·.1) → ∃ v, valV kvs (Sum.inr x : Key) = some v ∧ Num A H v (g x)
  | _, _, .nil, _, h => nomatch h
  | (k, v) :: kvs, y :: ys, .cons ⟨a, b⟩ r, e, h => by
    have a' : k = Sum.inr y.1 := a
    by_cases c : y.1 = x
    · refine ⟨v, by rw [valV_pos (by show k = _; rw [a', c])], ?_⟩
      rw [← e y List.mem_cons_self c]
      exact b
    · rw [valV_neg (by show ¬ k = _; rw [a']; exact fun z => c (by injection z))]
      refine pas_val r (fun z hz => e z (List.mem_cons_of_mem _ hz)) ?_
      rw [List.map_cons, List.mem_cons] at h
      rcases h with h | h
      · exact absurd h.symm c
      · exact h
/-- what _law_passed gives -/
def pasY (q0 : Rat) (xs : List Str) (gone : Str) (g : Str → Rat) : List (Str × Rat) := ("zz9", q0) :: (oth xs gone).map fun x => (x, g x)
theorem PasD.num {A D : Addr} {H : Hp} {q0 : Rat} {xs : List Str} {gone : Str} {g : Str → Rat} (hz : ("zz9" : Str) ∉ xs) (h : PasD A H D (pasY q0 xs gone g)) : NumD A H D (oth xs gone) g := by
  obtain ⟨kvs, a, b⟩ := h
  refine ⟨kvs, a, fun x hx => pas_val b (fun y hy e => ?_) ?_⟩
  · rcases List.mem_cons.mp hy with hy | hy
    · exfalso
      have e' : ("zz9" : Str) = x := by rw [hy] at e; exact e
      exact hz (by rw [e']; exact (oth_mem.mp hx).1)
    · obtain ⟨z, _, rfl⟩ := List.mem_map.mp hy
      rw [← e]
  · unfold pasY
    rw [List.map_cons, List.map_map]
    exact List.mem_cons_of_mem _ (List.mem_map.mpr ⟨x, hx, rfl⟩)
section
variable {P : Program} {w : World} {K : W.Frag} {mg : Str → Option Value} {base : Heap} {f A C : Addr} {fd : FuncData} {t t2 t3 : Tok}
def spShape : Sp := fun vs H Q _ => ∃ v, vs = [v] ∧ ((v = .non ∧ Q (.str "None") H) ∨ ∃ (t : Addr) (q : Rat), v = .ref t ∧ Fr2 H t q ∧ Low 3900 q ∧ Q (.str (Am.shown q)) H)
theorem scShape : FnScope ["_law_part_here"] ["_law_part_here"] (defScope (top 68)) := ⟨rfl, rfl, rfl, by decide +kernel, rfl, by decide +kernel, by decide +kernel⟩
theorem ok_shape (nb : base.NoDigits) (fr : Frees mg) (F : Fun K "_law_shape" "_law_shape" (top 68) f fd) : FnOk P w K mg base CX0 1 f fd ["_law_part_here"] spShape := by
  refine F.ok scShape (fun vs H Q E h => ?_) (fun cdv A' outer s H vs Q E hr h => ?_)
  · obtain ⟨v, rfl, _⟩ := h
    rfl
  · obtain ⟨v, rfl, hv⟩ := h
    have isk : IsK K := ⟨trivial⟩
    refine ⟨_, pss_one (ps_ret (pe_ifExp (pt_cmpR op_isN (pv 0) pe_non (nomark _)) pe_str (pe_op op_add_str (pe_op op_add_str (pe_op op_add_str (pe_op op_add_str pe_str (pe_callTy (call_strI nb rfl) rfl (fr.h _ (by decide +kernel)) (by decide +kernel) (pa_cons (pe_ix (ixK isk) (pv 0) pe_int (fun _ _ => rfl)) pa_nil))) pe_str) (pe_callTy (call_strI nb rfl) rfl (fr.h _ (by decide +kernel)) (by decide +kernel) (pa_cons (pe_ix (ixK isk) (pv 0) pe_int (fun _ _ => rfl)) pa_nil))) pe_str))), ?_⟩
    rcases hv with ⟨rfl, z⟩ | ⟨t, q, rfl, ht, lq, z⟩
    · exact ⟨_, rfl, rfl, _, rfl, iteT z⟩
    · have l8 := lq.more (show 3900 ≤ 8000 by decide)
      have a1 := big_len l8.1
      have a2 := big_len (KA.low_den l8)
      have k1 : (Str.ofString "Amount(").length = 7 := by decide
      have k2 : (Str.ofString ", ").length = 2 := by decide
      have k3 : (Str.ofString ")").length = 1 := by decide
      have big : (20000 : Nat) ≤ sizeLine := by decide
      rw [shown_eq] at z
      refine ⟨_, rfl, rfl, _, rfl, iteF ⟨_, rfl, ix4 (i := 0) ht rfl ⟨q.num, rfl, l8.1, _, _, rfl, rfl, ?_, _, _, rfl, rfl, ?_, _, rfl, ix4 (i := 1) ht rfl ⟨(q.den : Int), rfl, KA.low_den l8, _, _, rfl, rfl, ?_, _, _, rfl, rfl, ?_, z⟩⟩⟩⟩ <;> (simp only [strLen_append, k1, k2, k3]; omega)
def spPas (A : Addr) : Sp := fun vs H Q _ => ∃ (p a : Addr) (gone : Str) (xs : List Str) (g : Str → Rat), vs = [.ref p, .ref a, .str gone] ∧ Pot H p ∧ PrtD H a xs g ∧ xs.Nodup ∧ ("zz9" : Str) ∉ xs ∧ xs.length ≤ 60 ∧ (∀ x ∈ xs, Low 40 (g x)) ∧
  ∀ (D : Addr) (H' : Hp) (q0 : Rat), Kp p H H' → H D = none → D ≠ p → Low 40 q0 → PasD A H' D (pasY q0 xs gone g) → Q (.ref D) H'
abbrev nPas : List Str := ["_law_pot_here", "_law_parts", "_law_gone", "_law_found", "_law_spot", "_law_part_here"]
theorem scPas : FnScope nPas ["_law_pot_here", "_law_parts", "_law_gone"] (defScope (top 69)) := ⟨rfl, rfl, rfl, by decide +kernel, rfl, by decide +kernel, by decide +kernel⟩
theorem ok_passed (B : Base P w K mg base A) (D1 : DnD P w K mg base) (DP : DnP P w K mg base) (F : Fun K "_law_passed" "_law_passed" (top 69) f fd) : FnOk P w K mg base CX0 4 f fd ["_law_pot_here", "_law_parts", "_law_gone"] (spPas A) := by
  refine F.ok scPas (fun vs H Q E h => ?_) (fun cdv A' outer s H vs Q E hr h => ?_)
  · obtain ⟨p, a, gone, xs, g, rfl, _⟩ := h
    rfl
  · obtain ⟨p, a, gone, xs, g, rfl, hp, ⟨kv0, ha, prt⟩, ndx, nz, lx, lo, z⟩ := h
    have nd := scPas.nd
    have hu := hu_of hr
    have isk : IsK K := ⟨trivial⟩
    have big : (1000 : Nat) < sizeLine := by decide
    refine ⟨_, pss_cons (ps_set (i := 3) nd rfl (.inl rfl) (pe_disp (pps_cons pe_str (pe_dn DP hr (by rfl) (by decide) (pa_cons (pv 0) (pa_cons (pe_lst (pa_cons pe_int (pa_cons pe_int (pa_cons (pe_mk2 B (hr.mono (by decide)) rfl (pa_cons pe_int (pa_cons pe_int pa_nil))) pa_nil)))) pa_nil))) pps_nil) rfl rfl (fun z => by cases z) (by decide)))
      (pss_cons (ps_lock (ps_for PassesOwn.never rfl (pi_items (pv 1)) (pg_tup rfl (pgs_cons (pg_name (i := 4) nd rfl (.inl rfl)) (pgs_cons (pg_name (i := 5) nd rfl (.inl rfl)) pgs_nil)))
        (pss_one (ps_if (pt_cmpR op_ne (pv 4) (pv 2) (nomark _)) (pss_one (ps_dput hu (pv 3) (pv 4) (pe_ifExp (PW.pt (pw_and (pt_cmpR op_eq (pe_ix (ixK isk) (pv 5) pe_int (fun _ _ => rfl)) pe_int (nomark _)) (pw_and1 (pt_cmpR op_eq (pe_dn D1 hr (by rfl) (by decide) (pa_cons (pv 0) (pa_cons pe_int pa_nil))) pe_int (nomark _)))))
          (pe_ix (ixK isk) (pv 5) pe_int (fun _ _ => rfl)) (pe_mk2 B (hr.mono (by decide)) rfl (pa_cons (pe_ix (ixK isk) (pv 5) pe_int (fun _ _ => rfl)) (pa_cons (pe_ix (ixK isk) (pv 5) pe_int (fun _ _ => rfl)) pa_nil)))) rfl)) pss_nil))))
      (pss_one (ps_ret (pv 3)))), ?_⟩
    have ap : a ≠ p := by
      obtain ⟨u, v, q, _⟩ := hp
      exact ne_of ha q (fun e => nomatch e)
    intro D hD
    have Dp := ne_pot hp hD
    have Da : D ≠ a := fun e => by rw [e, ha] at hD; cases hD
    have hp1 := hp.new (o := .dK []) hD
    have hD1 : upd H D (.dK []) D = some (.dK []) := upd_same
    have kD := Kp.new (o := .dK []) hp hD
    generalize upd H D (.dK []) = G1 at hp1 hD1 kD ⊢
    refine ⟨_, rfl, 1, 3, rfl, by decide, Nat.lt_trans (show (1 : Int).natAbs < 2 ^ 1 by decide) (Nat.pow_lt_pow_right (by decide) (by decide)), Nat.lt_trans (show (3 : Int).natAbs < 2 ^ 2 by decide) (Nat.pow_lt_pow_right (by decide) (by decide)), fun r G2 e2 n2 i2 => ⟨(by show 3 ≤ sizeLine; decide), fun L hL => ?_⟩⟩
    have k2 : Kp p G1 G2 := Kp.ext hp1 e2
    have e3 := Am.Ext.new (o := .lst [V.int 0, .int 5, .ref r]) hL
    refine ⟨p, L, _, rfl, k2.pot.new hL, ne_pot k2.pot hL, SqL.of upd_same, (fun z => by cases z), (by show 3 ≤ 1000000; decide), fun v0 G4 hv k4 => ?_⟩
    have k3 := k2.trans (Kp.new (o := .lst [V.int 0, .int 5, .ref r]) k2.pot hL)
    have i4 : Is A G4 r (Rat.divInt 1 3) := Is.kp k4 (k2.pot.new hL) (i2.ext e3)
    have num : ∃ q0, Num A G4 v0 q0 ∧ Low 40 q0 := by
      simp only [List.mem_cons, List.not_mem_nil, or_false] at hv
      rcases hv with rfl | rfl | rfl
      · exact ⟨_, Num.int 0, low_int (by decide) (by decide)⟩
      · exact ⟨_, Num.int 5, low_int (by decide) (by decide)⟩
      · exact ⟨_, Num.is i4, ⟨by decide +kernel, by decide +kernel⟩⟩
    obtain ⟨q0, nv0, lq0⟩ := num
    have kH4 := (kD.trans k3).trans k4
    have hD4 := k4.at Dp (Kp.at (Kp.new (o := .lst [V.int 0, .int 5, .ref r]) k2.pot hL) Dp (k2.at Dp hD1))
    clear hv
    refine ⟨hD4, [((Sum.inr ("zz9" : Str) : Key), v0)], rfl, (by show 1 ≤ 15; decide), ?_⟩
    have nins : ∀ {G : Hp} {b C dx : Addr} {fs : List (Str × V)} {o : HO} {ks : List (Key × V)}, G D = some (.dK ks) → G b = some (.ins C dx fs) → upd G D o b = some (.ins C dx fs) := fun {G b C dx fs o ks} h1 h2 => by
      rw [upd_ne (ne_of h2 h1 (fun z => nomatch z))]
      exact h2
    have mg0 : mergeK [] [((Sum.inr ("zz9" : Str) : Key), v0)] = [((Sum.inr ("zz9" : Str) : Key), v0)] := rfl
    rw [mg0]
    have pas0 : PasD A (upd G4 D (.dK [((Sum.inr ("zz9" : Str) : Key), v0)])) D (("zz9", q0) :: (oth (xs.take 0) gone).map fun x => (x, g x)) := ⟨_, upd_same, .cons ⟨rfl, nv0.imp (fun z => z) fun ⟨x, e, dx, i⟩ => ⟨x, e, dx, nins hD4 i⟩⟩ .nil⟩
    have k05 : Kp p H (upd G4 D (.dK [((Sum.inr ("zz9" : Str) : Key), v0)])) := kH4.over Dp hD
    generalize upd G4 D (.dK [((Sum.inr ("zz9" : Str) : Key), v0)]) = G5 at pas0 k05 ⊢
    have ha5 := k05.at ap ha
    refine ⟨a, _, ha5, trivial, fun od => ⟨_, rfl, a, od, kv0, rfl, upd_same, ?_⟩⟩
    have haF : upd H a (.frz od (.dK kv0)) a = some (.frz od (.dK kv0)) := upd_same
    have nF : upd H a (.frz od (.dK kv0)) D = none := by rw [upd_ne Da]; exact hD
    have kF : Kp p (upd H a (.frz od (.dK kv0))) (upd G5 a (.frz od (.dK kv0))) := by
      refine ⟨fun b o nb hb => ?_, ?_⟩
      · by_cases c : b = a
        · rw [c, upd_same] at hb ⊢
          exact hb
        · rw [upd_ne c] at hb ⊢
          exact k05.at nb hb
      · obtain ⟨u, v, q, y⟩ := k05.pot
        exact ⟨u, v, by rw [upd_ne (Ne.symm ap)]; exact q, y⟩
    have pasF : PasD A (upd G5 a (.frz od (.dK kv0))) D (("zz9", q0) :: (oth (xs.take 0) gone).map fun x => (x, g x)) := by
      obtain ⟨kvs, x1, x2⟩ := pas0
      exact ⟨kvs, by rw [upd_ne Da]; exact x1, pas_mono (fun b C dx fs i => by rw [upd_ne (ne_of i ha5 (fun z => nomatch z))]; exact i) x2⟩
    have prF : Paired (fun (p : Key × V) (x : Str) => ∃ t : Addr, p = ((Sum.inr x : Key), V.ref t) ∧ Fr2 (upd H a (.frz od (.dK kv0))) t (g x)) kv0 xs := by
      have : ∀ {kvs : List (Key × V)} {zs : List Str}, Paired (fun (p : Key × V) (x : Str) => ∃ t : Addr, p = ((Sum.inr x : Key), V.ref t) ∧ Fr2 H t (g x)) kvs zs → Paired (fun (p : Key × V) (x : Str) => ∃ t : Addr, p = ((Sum.inr x : Key), V.ref t) ∧ Fr2 (upd H a (.frz od (.dK kv0))) t (g x)) kvs zs := by
        intro kvs zs h
        induction h with
        | nil => exact .nil
        | cons h1 _ ih =>
          obtain ⟨t, x1, x2⟩ := h1
          exact .cons ⟨t, x1, by show upd _ _ _ _ = _; rw [upd_ne (ne_of x2 ha (fun z => nomatch z))]; exact x2⟩ ih
      exact this prt
    have back : ∀ {H' : Hp}, Kp p (upd H a (.frz od (.dK kv0))) H' → Kp p H (upd H' a (.dK kv0)) := fun {H'} k => by
      refine ⟨fun b o nb hb => ?_, ?_⟩
      · by_cases c : b = a
        · rw [c, upd_same]
          rw [c, ha] at hb
          exact hb
        · rw [upd_ne c]
          exact k.at nb (by rw [upd_ne c]; exact hb)
      · obtain ⟨u, v, q, y⟩ := k.pot
        exact ⟨u, v, by rw [upd_ne (Ne.symm ap)]; exact q, y⟩
    generalize upd G5 a (.frz od (.dK kv0)) = G6 at kF pasF ⊢
    have potF : Pot (upd H a (.frz od (.dK kv0))) p := by
      obtain ⟨u, v, q, y⟩ := hp
      exact ⟨u, v, by rw [upd_ne (Ne.symm ap)]; exact q, y⟩
    generalize upd H a (.frz od (.dK kv0)) = HF at haF nF kF prF back potF
    have lk : kv0.length = xs.length := Paired.length prF
    have at_ : ∀ {kvs : List (Key × V)} {zs : List Str} (i : Nat) (k : Key × V), Paired (fun (p : Key × V) (x : Str) => ∃ t : Addr, p = ((Sum.inr x : Key), V.ref t) ∧ Fr2 HF t (g x)) kvs zs → kvs[i]? = some k → ∃ (x : Str) (t : Addr), zs[i]? = some x ∧ k = ((Sum.inr x : Key), V.ref t) ∧ Fr2 HF t (g x) := by
      intro kvs zs i k h
      induction h generalizing i with
      | nil => intro e; simp at e
      | cons h1 _ ih =>
        intro e
        cases i with
        | zero =>
          obtain ⟨t, x1, x2⟩ := h1
          simp at e
          exact ⟨_, t, rfl, by rw [← e]; exact x1, x2⟩
        | succ i => exact ih i (by simpa using e)
    refine for_it walk_items (fun i σ H' => Kp p HF H' ∧ PasD A H' D (("zz9", q0) :: (oth (xs.take i) gone).map fun x => (x, g x)) ∧ ∃ e4 e5, σ = [some (.ref p), some (.ref a), some (.str gone), some (.ref D), e4, e5]) ⟨kF, pasF, none, none, rfl⟩ (fun i σ H' _ h => h.1.at ap haF) ?_ ?_
    · rintro i v σ H' H2 hi ⟨k, pas, e4, e5, rfl⟩ ⟨T, v1, v2, rfl, hT, rfl, hv1, hv2⟩
      obtain ⟨kk, hkk, rfl⟩ := Option.map_eq_some_iff.mp hv1
      obtain rfl : kk.2 = v2 := by
        have hv2' : kv0[i]?.map Prod.snd = some v2 := hv2
        rw [hkk] at hv2'
        exact Option.some.inj hv2'
      obtain ⟨x, t, hx, rfl, ft⟩ := at_ i kk prF hkk
      have hm := List.mem_of_getElem? hx
      have ot := oth_take (y := gone) hx
      have kT := k.trans (Kp.new (o := .tup [kV (Sum.inr x : Key), V.ref t]) k.pot hT)
      have pasT := pas.ext (Am.Ext.new (o := .tup [kV (Sum.inr x : Key), V.ref t]) hT)
      have hT' : upd H' T (.tup [kV (Sum.inr x : Key), V.ref t]) T = some (.tup [.str x, .ref t]) := upd_same
      have ftp : t ≠ p := by
        obtain ⟨u, v, q, _⟩ := potF
        exact ne_of ft q (fun z => nomatch z)
      generalize upd H' T (.tup [kV (Sum.inr x : Key), V.ref t]) = G7 at kT pasT hT' ⊢
      have ft7 : Fr2 G7 t (g x) := kT.at ftp ft
      refine ⟨T, _, rfl, SqT.of hT', rfl, _, _, rfl, _, _, rfl, rfl, ?_⟩
      refine ⟨_, rfl, _, rfl, rfl, _, rfl, ?_⟩
      by_cases c : x = gone
      · rw [decide_eq_true (by rw [c]), Bool.not_true]
        rw [if_neg (fun n => n c), List.append_nil] at ot
        refine iteF ⟨kT, ?_, _, _, rfl⟩
        rw [ot]
        exact pasT
      · rw [decide_eq_false (fun z => c (by injection z)), Bool.not_false]
        rw [if_pos c] at ot
        have fin : ∀ (u : V) (G8 : Hp), Kp p HF G8 → PasD A G8 D (("zz9", q0) :: (oth (xs.take i) gone).map fun x => (x, g x)) → Num A G8 u (g x) → ∃ a_1 H4, V.ref D = V.ref a_1 ∧ DPut G8 a_1 (V.str x) u H4 ∧ Kp p HF H4 ∧ PasD A H4 D (("zz9", q0) :: (oth (xs.take (i + 1)) gone).map fun x => (x, g x)) ∧ ∃ e4 e5 : Option V, [some (V.ref p), some (.ref a), some (.str gone), some (.ref D), some (.str x), some (.ref t)] = [some (V.ref p), some (.ref a), some (.str gone), some (.ref D), e4, e5] := by
          intro u G8 k8 pas8 nu
          obtain ⟨kvs, h8, r8⟩ := pas8
          have hk := pas_keys r8
          have vn : valV kvs (Sum.inr x : Key) = none := valV_out (by
            rw [hk, inr_mem, List.map_cons, List.mem_cons, List.map_map]
            rintro (h | h)
            · have h' : x = "zz9" := h
              exact nz (by rw [← h']; exact hm)
            · obtain ⟨y, hy, e⟩ := List.mem_map.mp h
              have e' : y = x := e
              rw [e'] at hy
              exact not_taken ndx hx (oth_mem.mp hy).1)
          have lk8 : kvs.length ≤ 100 := by
            have := congrArg List.length hk
            rw [List.length_map, List.length_map, List.length_map, List.length_cons, List.length_map] at this
            have := oth_len (xs.take i) gone
            rw [List.length_take] at this
            omega
          refine ⟨D, _, rfl, DPut.k (k := (Sum.inr x : Key)) h8 (by omega), k8.over Dp nF, ⟨_, upd_same, ?_⟩, _, _, rfl⟩
          rw [putK_new _ vn, ot, List.map_append]
          have nu' : Num A (upd G8 D (.dK (kvs ++ [((Sum.inr x : Key), u)]))) u (g x) := nu.imp (fun z => z) fun ⟨x, e, dx, i⟩ => ⟨x, e, dx, nins h8 i⟩
          exact pas_snoc (y := (x, g x)) rfl nu' (pas_mono (fun b C dx fs i => nins h8 i) r8)
        have lg := lo x hm
        have b1 : (g x).num.natAbs < 2 ^ 8999 := more_bits lg.1 (by decide)
        have b2 : ((g x).den : Int).natAbs < 2 ^ 8999 := more_bits (KA.low_den lg) (by decide)
        refine iteT ⟨_, rfl, ix4 (i := 1) ft7 rfl ⟨rfl, _, rfl, ite2 (fun c1 => ?_) (fun _ => ?_)⟩⟩
        · have d1 : ((g x).den : Int) = 1 := by simpa using c1
          refine ⟨_, rfl, p, 2, rfl, kT.pot, by decide, by decide, fun d G8 d0 d2 k8 => ⟨rfl, _, rfl, ite2 (fun _ => ?_) (fun _ => ?_)⟩⟩
          · exact ⟨_, rfl, ix4 (i := 0) (k8.at ftp ft7) rfl ⟨_, rfl, _, rfl, fin _ G8 (kT.trans k8) (pasT.kp k8 kT.pot) (.inl ⟨_, rfl, int_of d1⟩)⟩⟩
          · have ft8 := k8.at ftp ft7
            refine ⟨_, rfl, ix4 (i := 0) ft8 rfl ⟨_, rfl, ix4 (i := 1) ft8 rfl ⟨_, _, rfl, den0 _, b1, b2, fun r G9 e9 n9 i9 => ⟨_, rfl, _, rfl, fin _ G9 ((kT.trans k8).trans (Kp.ext k8.pot e9)) ((pasT.kp k8 kT.pot).ext e9) ?_⟩⟩⟩⟩
            rw [Rat.num_divInt_den] at i9
            exact Num.is i9
        · refine ⟨_, rfl, ix4 (i := 0) ft7 rfl ⟨_, rfl, ix4 (i := 1) ft7 rfl ⟨_, _, rfl, den0 _, b1, b2, fun r G9 e9 n9 i9 => ⟨_, rfl, _, rfl, fin _ G9 (kT.trans (Kp.ext kT.pot e9)) (pasT.ext e9) ?_⟩⟩⟩⟩
          rw [Rat.num_divInt_den] at i9
          exact Num.is i9
    · rintro σ H' ⟨k, pas, e4, e5, rfl⟩
      rw [lk, List.take_length] at pas
      refine ⟨k.at ap haF, _, rfl, z D _ q0 (back k) hD Dp lq0 ?_⟩
      obtain ⟨kvs, x1, x2⟩ := pas
      exact ⟨kvs, by rw [upd_ne Da]; exact x1, pas_mono (fun b C dx fs i => by rw [upd_ne (ne_of i (k.at ap haF) (fun z => nomatch z))]; exact i) x2⟩
end
end KD

set_option Elab.async false
set_option linter.all false
set_option maxRecDepth 100000
set_option maxHeartbeats 2000000
set_option exponentiation.threshold 20000
/-! _law_told: what a call makes, or by zero. -/
namespace KD
open PySem PySem.Spec PyProof.Rows L2 Oo Gd Am KA SqX
theorem ps_exists {X : Cx} {st : Stmt} {α : Type _} {t : α → TS} (h : ∀ a, PS X st (t a)) : PS X st (fun D σ H => ∃ a, t a D σ H) := ⟨fun pins s σ H D I ⟨a, z⟩ => (h a).run pins s σ H D I z⟩
theorem ps_cond {X : Cx} {st : Stmt} {p : Prop} {t : TS} (h : p → PS X st t) : PS X st (fun D σ H => p ∧ t D σ H) := ⟨fun pins s σ H D I ⟨a, z⟩ => (h a).run pins s σ H D I z⟩
theorem ps_of {X : Cx} {st : Stmt} {t t' : TS} (h : PS X st t) (e : ∀ D σ H, t' D σ H → t D σ H) : PS X st t' := ⟨fun pins s σ H D I z => h.run pins s σ H D I (e D σ H z)⟩
structure Er (K : W.Frag) (C : Addr) (fld : Str) : Prop where
  xf : XfC K C
  no : W.findIn K (.ref C) fld = some none
  ea : Ge.EA K C
structure Tq (K : W.Frag) (mg : Str → Option Value) (Z ZA : Addr) : Prop where
  mZ : mg "DividedByZero" = some (.ref Z)
  mA : mg "AmountError" = some (.ref ZA)
  eZ : Er K Z "rule"
  xZ : W.exmOne K (.ref Z) (.ref ZA) = some true
  kZ : W.kitOne K (.ref Z) (.ref Z) = some true
abbrev nTo : List Str := ["_law_call", "_law_told_here", "e"]
theorem scTo : FnScope nTo ["_law_call"] (defScope (top 70)) := ⟨rfl, rfl, rfl, by decide +kernel, rfl, by decide +kernel, by decide +kernel⟩
/-- told: by zero -/
def TTz (Z : Addr) : (XK → Hp → VK → Prop) → Hp → VK → Prop := fun tl H Q =>
  ∀ Q', tl (fun cls d H' => cls = .ref Z ∧ ∃ dx, d = some dx ∧ H' dx = some (.xd [("rule", .non)]) ∧ Q (.str "None") H') H Q'
/-- told: an Amount -/
def TTm (A : Addr) : (XK → Hp → VK → Prop) → Hp → VK → Prop := fun tl H Q =>
  ∀ Qc : VK, (∀ a q H', Is A H' a q → Low 3000 q → Q (.str (Am.shown q)) H' → Qc (.ref a) H') → tl (fun _ _ _ => False) H Qc
def TTt (A Z : Addr) : (XK → Hp → VK → Prop) → Hp → VK → Prop := fun tl H Q => TTz Z tl H Q ∨ TTm A tl H Q
theorem told_gives {X : Cx} {A Z ZA g : Addr} {cdg : Value} {q : Str} {k : Nat} (R : Rep X.prog X.w X.K X.mg X.base A) (tq : Tq X.K X.mg Z ZA) (fr : Frees X.mg) (hG : Bare X.A) (hr : Room (k + 4) X.A) :
    LamX.GivesTo X nTo "_law_told" (defScope (top 70)) g cdg (defBody (top 70)) "_law_call" q (TTt A Z) := by
  intro f c' s H Q tl act hc h
  have nd := scTo.nd
  have isk : IsK X.K := ⟨trivial⟩
  have hr2 := hr.deeper (envOfC "_law_told" (defScope (top 70)) s.heap.objs.size g cdg)
  refine ⟨_, pss_cons (ps_set (i := 1) nd rfl (.inl rfl) pe_str) (pss_cons
    (Gx.ps_tryAs (i := 2) (tb := fun W D σ H => ∃ Ech : XK, (∀ cls d σ' H', Ech cls d H' → σ'.length = 3 → W cls d σ' H') ∧ σ[0]? = some (some (.ref f)) ∧ H c' = some (LamX.CodeO c' q) ∧ tl Ech H fun v H1 => rReprN A [v] H1 fun x H2 => D.nx (σ.set 1 (some x)) H2) (Wout := fun _ _ _ _ => False) rfl rfl nd rfl rfl takes0 (fun W pn xe tk => ?b1)
      (.cons (c := .ref ZA) ⟨rfl, by decide, .inl tq.mA⟩ (fun a oe cls d pn z hv => pss_one (ps_set (i := 1) nd rfl (.inl rfl)
        (pe_ifExp (PW.pt (pw_and (pt_val (pe_callB (heldK isk List.mem_cons_self z hv) rfl (fr.h _ (by decide +kernel)) (by decide +kernel) (pa_cons (pv 2) (pa_cons (pe_glob (v := V.ref Z) rfl tq.mZ rfl) pa_nil))))
          (pw_and1 (pt_cmpR op_isN (pe_xf tq.eZ.xf tq.eZ.no z hv (pv 2)) pe_non (nomark _))))) pe_str pe_str))) .nil)) (pss_one (ps_ret (pv 1)))), ?r⟩
  case b1 =>
    refine pss_one ?_
    refine ps_exists fun Ech => ?_
    refine ps_cond fun hW => ?_
    refine ps_of (ps_set (i := 1) nd rfl (.inl rfl) (pe_callB (call_reprN (k := k) R ?hg ?hrr) rfl (fr.h _ (by decide +kernel)) (by decide +kernel) (pa_cons (act (fun cls d σ' H' => σ'.length = 3 → W cls d σ' H') pn xe Ech _ _ (takes_len tk) hW) pa_nil))) (fun D σ H h => ?_)
    case hg => exact hG
    case hrr => exact hr2
    obtain ⟨h1, h2, h3⟩ := h
    exact ⟨h1, h2, h3⟩
  case r =>
    have len3 : ∀ σ' : L2.St, σ'.length = 3 → ∃ x0 x1 x2, σ' = [x0, x1, x2] := fun σ' hl => by
      match σ', hl with
      | [x0, x1, x2], _ => exact ⟨x0, x1, x2, rfl⟩
    rcases h with h | h
    · refine ⟨_, ?_, rfl, hc, h _⟩
      rintro cls d σ' H' ⟨rfl, dx, rfl, hdx, z⟩ hl
      obtain ⟨x0, x1, x2, rfl⟩ := len3 σ' hl
      have hh : ∀ dy, some dx = some dy → ∃ fs, H' dy = some (.xd fs) := fun dy e => ⟨_, by cases e; exact hdx⟩
      refine ⟨true, tq.xZ, fun _ a na => ?_, fun e => absurd e (by decide)⟩
      exact ⟨_, rfl, Z, _, true, rfl, rfl, tq.eZ.ea, hh, .inl ⟨_, .own Z, tq.kZ⟩, _, rfl, iteT ⟨_, rfl, rfl, rfl, dx, _, .non, rfl, hdx, rfl, rfl, _, rfl, iteT ⟨_, rfl, z⟩⟩⟩
    · refine ⟨fun _ _ _ => False, fun _ _ _ _ z => z.elim, rfl, hc, h _ fun a q H' ia lq z => ?_⟩
      exact ⟨.ref a, q, rfl, .inr ⟨a, rfl, ia⟩, lq, ⟨_, rfl, z⟩⟩
end KD

set_option Elab.async false
set_option linter.all false
set_option maxRecDepth 100000
set_option maxHeartbeats 2000000
set_option exponentiation.threshold 20000
/-! sums and products in any sequence; what a way comes to. -/
namespace KD
open PySem PySem.Spec PyProof.Rows L2 Oo Gd Am KA SqX
theorem add_rc (a b c : Rat) : a + b + c = a + c + b := by rw [Rat.add_assoc, Rat.add_comm b c, ← Rat.add_assoc]
theorem mul_rc (a b c : Rat) : a * b * c = a * c * b := by rw [Rat.mul_assoc, Rat.mul_comm b c, ← Rat.mul_assoc]
theorem mulQ_perm {xs ys : List Str} (h : xs.Perm ys) (g : Str → Rat) : mulQ xs g = mulQ ys g := by
  unfold mulQ
  exact h.foldl_eq' (fun x _ y _ z => mul_rc _ _ _) (1 : Rat)
theorem sumQ_perm {xs ys : List Str} (h : xs.Perm ys) (ls : List (Str × Int)) (g : Str → Rat) : sumQ ls xs g = sumQ ls ys g := by
  unfold sumQ
  exact h.foldl_eq' (fun x _ y _ z => add_rc _ _ _) (0 : Rat)
theorem mulQ_congr {g h : Str → Rat} : ∀ (xs : List Str), (∀ x ∈ xs, g x = h x) → mulQ xs g = mulQ xs h := by
  intro xs
  refine snoc_ind (p := fun xs => (∀ x ∈ xs, g x = h x) → mulQ xs g = mulQ xs h) (fun _ => rfl) (fun xs x ih e => ?_) xs
  rw [mulQ_snoc, mulQ_snoc, ih fun y hy => e y (List.mem_append_left _ hy), e x (List.mem_append_right _ List.mem_cons_self)]
theorem sumQ_congr {ls ks : List (Str × Int)} {g h : Str → Rat} : ∀ (xs : List Str), (∀ x ∈ xs, g x = h x ∧ wt ls x = wt ks x) → sumQ ls xs g = sumQ ks xs h := by
  intro xs
  refine snoc_ind (p := fun xs => (∀ x ∈ xs, g x = h x ∧ wt ls x = wt ks x) → sumQ ls xs g = sumQ ks xs h) (fun _ => rfl) (fun xs x ih e => ?_) xs
  obtain ⟨a, b⟩ := e x (List.mem_append_right _ List.mem_cons_self)
  rw [sumQ_snoc, sumQ_snoc, ih fun y hy => e y (List.mem_append_left _ hy), a, b]
theorem oth_perm {xs ys : List Str} (h : xs.Perm ys) (y : Str) : (oth xs y).Perm (oth ys y) := h.filter _
theorem oth_split {xs : List Str} (nd : xs.Nodup) {y : Str} (hy : y ∈ xs) : xs.Perm (oth xs y ++ [y]) := by
  have e : oth xs y = xs.erase y := by
    rw [nd.erase_eq_filter y]
    unfold oth
    refine List.filter_congr fun x _ => ?_
    by_cases c : x = y <;> simp [c]
  rw [e]
  exact (List.perm_cons_erase hy).trans (List.perm_append_comm (l₁ := [y]) (l₂ := xs.erase y))
theorem oth_same {xs : List Str} {y : Str} (hy : y ∉ xs) : oth xs y = xs := by
  unfold oth
  exact List.filter_eq_self.mpr fun x hx => decide_eq_true fun e => hy (by rw [← e]; exact hx)
theorem wt_ord {ls : List (Str × Int)} (nd : (ls.map (·.1)).Nodup) {x : Str} (hx : x ∈ ls.map (·.1)) : wt (ordW ls) x = wt ls x := by
  obtain ⟨n, e, _⟩ := wt_some hx
  have hm : (x, (wt ls x).getD 0) ∈ ordW ls := List.mem_map.mpr ⟨x, (srt_mem _ _).mpr hx, rfl⟩
  have nd2 : ((ordW ls).map (·.1)).Nodup := by
    unfold ordW
    rw [fst_map]
    exact srt_nd nd
  have := wt_at nd2 hm
  rw [this, e]
  rfl
/-- the fractions with another one -/
def put (g : Str → Rat) (y : Str) (v : Rat) : Str → Rat := fun x => if x = y then v else g x
theorem put_same {g : Str → Rat} {y : Str} {v : Rat} : put g y v y = v := if_pos rfl
theorem put_off {g : Str → Rat} {y x : Str} {v : Rat} (h : x ≠ y) : put g y v x = g x := if_neg h
theorem put_put {g : Str → Rat} {y : Str} {v u : Rat} : put (put g y v) y u = put g y u := by
  funext x
  unfold put
  by_cases h : x = y
  · rw [if_pos h, if_pos h]
  · rw [if_neg h, if_neg h, if_neg h]
theorem mulQ_put {xs : List Str} (nd : xs.Nodup) {y : Str} (hy : y ∈ xs) (g : Str → Rat) (v : Rat) : mulQ xs (put g y v) = mulQ (oth xs y) g * v := by
  rw [mulQ_perm (oth_split nd hy), mulQ_snoc, put_same, mulQ_congr (oth xs y) fun x hx => put_off (oth_mem.mp hx).2]
theorem mulQ_puto {xs : List Str} {y : Str} (hy : y ∉ xs) (g : Str → Rat) (v : Rat) : mulQ xs (put g y v) = mulQ xs g := mulQ_congr xs fun x hx => put_off fun e => hy (by rw [← e]; exact hx)
theorem sumQ_put {ls : List (Str × Int)} {xs : List Str} (nd : xs.Nodup) {y : Str} (hy : y ∈ xs) (g : Str → Rat) (v : Rat) : sumQ ls xs (put g y v) = sumQ ls (oth xs y) g + (((wt ls y).getD 0 : Int) : Rat) * v := by
  rw [sumQ_perm (oth_split nd hy), sumQ_snoc, put_same, sumQ_congr (ks := ls) (oth xs y) fun x hx => ⟨put_off (oth_mem.mp hx).2, rfl⟩]
theorem rat_sub_self_add (q s : Rat) : s + (q - s) = q := add_sub_all q s
/-- what the rule's own reading says of a sum and of a product -/
theorem so_put {td : TD} {os : List Str} {y : Str} {g : Str → Rat} {v : Rat} (ok : TdOk td os) (nl : isLo td = false) (hy : y ∈ td.ins) (h : dueQ td y g = some v) (δ : Rat) : soB td (put g y (v + δ)) = decide (δ = 0) := by
  have nm := ok.nm
  cases td with
  | loo xs => exact nomatch nl
  | sum ls q =>
    obtain ⟨n, en, mn⟩ := wt_some hy
    have n0 : ((n : Int) : Rat) ≠ 0 := fun e => ok.dt.1 _ mn |>.1 (by exact_mod_cast e)
    have h' : (q - sumQ ls (oth (ls.map (·.1)) y) g) / (((wt ls y).getD 0 : Int) : Rat) = v := Option.some.inj h
    have e1 : sumQ ls (ls.map (·.1)) (put g y (v + δ)) = sumQ ls (oth (ls.map (·.1)) y) g + (((wt ls y).getD 0 : Int) : Rat) * (v + δ) := sumQ_put nm.nd hy g _
    show decide (sumQ ls (ls.map (·.1)) (put g y (v + δ)) = q) = _
    rw [e1, ← h', en]
    show decide (_ + ((n : Int) : Rat) * ((q - _) / ((n : Int) : Rat) + δ) = q) = _
    generalize sumQ ls (oth (ls.map (·.1)) y) g = S
    have e2 : S + ((n : Int) : Rat) * ((q - S) / ((n : Int) : Rat) + δ) = q + ((n : Int) : Rat) * δ := by
      rw [Rat.mul_add, Rat.div_def, Rat.mul_comm (q - S), ← Rat.mul_assoc, Rat.mul_inv_cancel _ n0, Rat.one_mul, ← Rat.add_assoc, add_sub_all]
    rw [e2]
    refine decide_eq_decide.mpr ⟨fun e => ?_, fun e => ?_⟩
    · have : ((n : Int) : Rat) * δ = 0 := by
        have := congrArg (fun z => z - q) e
        simp only [add_sub_self, Rat.sub_self] at this
        exact this
      rcases Rat.mul_eq_zero.mp this with h1 | h1
      · exact absurd h1 n0
      · exact h1
    · rw [e, Rat.mul_zero, Rat.add_zero]
  | pro xs ys q =>
    have q0 : q ≠ 0 := ok.dt.1
    have hy' : y ∈ xs ∨ y ∈ ys := List.mem_append.mp hy
    show decide (mulQ xs (put g y (v + δ)) = q * mulQ ys (put g y (v + δ))) = _
    have h1 : (if y ∈ ys then quo (mulQ (oth xs y) g) (q * mulQ (oth ys y) g) else quo (q * mulQ (oth ys y) g) (mulQ (oth xs y) g)) = some v := h
    have key : ∀ (n d : Rat), quo n d = some v → decide (d * (v + δ) = n) = decide (δ = 0) := by
      intro n d e
      unfold quo at e
      by_cases d0 : d = 0
      · rw [if_pos d0] at e; cases e
      · rw [if_neg d0] at e
        have e' := Option.some.inj e
        have e2 : d * (v + δ) = n + d * δ := by
          rw [← e', Rat.mul_add, Rat.div_def, Rat.mul_comm n, ← Rat.mul_assoc, Rat.mul_inv_cancel _ d0, Rat.one_mul]
        rw [e2]
        refine decide_eq_decide.mpr ⟨fun e => ?_, fun e => ?_⟩
        · have : d * δ = 0 := by
            have := congrArg (fun z => z - n) e
            simp only [add_sub_self, Rat.sub_self] at this
            exact this
          rcases Rat.mul_eq_zero.mp this with h1 | h1
          · exact absurd h1 d0
          · exact h1
        · rw [e, Rat.mul_zero, Rat.add_zero]
    by_cases c : y ∈ ys
    · have nx : y ∉ xs := nm.off y c
      rw [if_pos c, oth_same nx] at h1
      rw [mulQ_puto nx, mulQ_put nm.right.nd c, ← Rat.mul_assoc, ← key _ _ h1]
      exact decide_eq_decide.mpr ⟨fun e => e.symm, fun e => e.symm⟩
    · have hx : y ∈ xs := hy'.resolve_right c
      rw [if_neg c, oth_same c] at h1
      rw [mulQ_puto c, mulQ_put nm.left.nd hx, ← key _ _ h1]
theorem quo_low {n m : Nat} {q p v : Rat} (h : Low n q) (h' : Low m p) (e : quo q p = some v) : Low (n + m) v := by
  unfold quo at e
  by_cases c : p = 0
  · rw [if_pos c] at e; cases e
  · rw [if_neg c] at e
    rw [← Option.some.inj e]
    exact low_div h h' c
theorem due_low {td : TD} {os : List Str} {y : Str} {g : Str → Rat} {v : Rat} (ok : TdOk td os) (sm : Sm td) (l4 : td.ins.length ≤ 4) (lo : ∀ x ∈ td.ins, Low 40 (g x)) (hy : y ∈ td.ins) (h : dueQ td y g = some v) : Low 768 v := by
  have nm := ok.nm
  cases td with
  | loo xs => cases h
  | sum ls q =>
    obtain ⟨n, en, mn⟩ := wt_some hy
    have n0 : ((n : Int) : Rat) ≠ 0 := fun e => ok.dt.1 _ mn |>.1 (by exact_mod_cast e)
    have h' : (q - sumQ ls (oth (ls.map (·.1)) y) g) / (((wt ls y).getD 0 : Int) : Rat) = v := Option.some.inj h
    have a := sumQ_low (m := 40) (ls := ls) (g := g) (oth (ls.map (·.1)) y) (wtok_of nm.nd sm.1 fun x h => (oth_mem.mp h).1) (fun x h => lo x (show x ∈ ls.map (·.1) from (oth_mem.mp h).1))
    have b := Nat.le_trans (oth_len (ls.map (·.1)) y) l4
    have c := low_div (Low.sub sm.2 a) (low_int (sm.1 _ mn) (by decide)) n0
    rw [← h', en]
    exact c.more (by omega)
  | pro xs ys q =>
    have lq : Low 100 q := sm
    have ll : xs.length + ys.length ≤ 4 := by rw [← List.length_append]; exact l4
    have a := mulQ_low (m := 40) (g := g) (oth xs y) fun x h => lo x (List.mem_append_left _ (oth_mem.mp h).1)
    have b := mulQ_low (m := 40) (g := g) (oth ys y) fun x h => lo x (List.mem_append_right _ (oth_mem.mp h).1)
    have c := oth_len xs y
    have d := oth_len ys y
    have h1 : (if y ∈ ys then quo (mulQ (oth xs y) g) (q * mulQ (oth ys y) g) else quo (q * mulQ (oth ys y) g) (mulQ (oth xs y) g)) = some v := h
    by_cases e : y ∈ ys
    · rw [if_pos e] at h1
      exact (quo_low a (Low.mul lq b) h1).more (by omega)
    · rw [if_neg e] at h1
      exact (quo_low (Low.mul lq b) a h1).more (by omega)
end KD

set_option Elab.async false
set_option linter.all false
set_option maxRecDepth 100000
set_option maxHeartbeats 2000000
set_option exponentiation.threshold 20000
/-! is_true and worked_out of rules of any class. -/
namespace KD
open PySem PySem.Spec PyProof.Rows L2 Oo Gd Am KA SqX
/-- an Amount, or by zero -/
def DueP (A Z : Addr) (H : Hp) (Q : VK) (E : XK) : Option Rat → Prop
  | none => Refuse Z H E
  | some v => New A H Q v
theorem DueP.quot {A Z : Addr} {H : Hp} {Q : VK} {E : XK} {n d : Rat} (h : DueP A Z H Q E (quo n d)) : Quot A Z H Q E n d := by
  refine ⟨fun d0 => ?_, fun d0 => ?_⟩
  · have e : quo n d = some (n / d) := if_neg d0
    rw [e] at h
    exact h
  · have e : quo n d = none := if_pos d0
    rw [e] at h
    exact h
def spTr (A CT CP CL : Addr) : TD → Sp
  | .loo _ => spTrL A CL
  | .sum _ _ => spTrT A CT
  | .pro _ _ _ => spTrP A CP
def spWo (A Z CT CP : Addr) : TD → Sp
  | .loo _ => fun _ _ _ _ => False
  | .sum _ _ => spWoT A CT
  | .pro _ _ _ => spWoP A CP Z
theorem numd_srt {A a : Addr} {H : Hp} {xs : List Str} {g : Str → Rat} (h : NumD A H a xs g) : NumD A H a (srt xs) g := h.sub fun y hy => (srt_mem _ _).mp hy
theorem wtok_ord {ls : List (Str × Int)} (nd : (ls.map (·.1)).Nodup) (h : ∀ p ∈ ls, p.2.natAbs < 2 ^ 100) : WtOk (ordW ls) (srt (ls.map (·.1))) := fun x hx => by
  have hx' := (srt_mem _ _).mp hx
  obtain ⟨n, a, b⟩ := wt_some hx'
  exact ⟨n, by rw [wt_ord nd hx', a], h _ b⟩
theorem tr_sp {K : W.Frag} {A CT CP CL : Addr} {H : Hp} {Q : VK} {r d : Addr} {td : TD} {os : List Str} {g : Str → Rat} (ir : IsRule A CT CP CL H r td os) (ok : TdOk td os) (sm : Sm td) (l4 : td.ins.length ≤ 4) (hn : NumD A H d td.ins g) (lo : ∀ x ∈ td.ins, Low 800 (g x))
    (z : ∀ H', Am.Ext H H' → Q (.bl (soB td g)) H') : spTr A CT CP CL td [.ref r, .ref d] H Q E0 := by
  have nm := ok.nm
  cases td with
  | loo xs =>
    have l4' : xs.length ≤ 4 := l4
    exact ⟨r, d, srt xs, srt os, g, rfl, ir, srt_nd nm.nd, by rw [srt_len]; omega, numd_srt hn, fun x hx => low_sz ((lo x ((srt_mem _ _).mp hx)).more (by decide)) (Nat.le_refl 4000), z⟩
  | sum ls q =>
    have l4' : (ls.map (·.1)).length ≤ 4 := l4
    refine ⟨r, d, q, ordW ls, srt (ls.map fun p : Str × Int => p.1), srt os, g, 800, rfl, ir, srt_nd nm.nd, by rw [srt_len]; omega, numd_srt hn, wtok_ord nm.nd sm.1, fun x hx => lo x (show x ∈ ls.map (·.1) from (srt_mem _ _).mp hx), by rw [srt_len]; omega, by decide, fun H' e => ?_⟩
    have e1 : sumQ (ordW ls) (srt (ls.map (·.1))) g = sumQ ls (ls.map (·.1)) g := by
      rw [sumQ_perm (srt_perm _), sumQ_congr (ks := ls) _ fun x hx => ⟨rfl, wt_ord nm.nd hx⟩]
    rw [e1]
    exact z H' e
  | pro xs ys q =>
    have ll : xs.length + ys.length ≤ 4 := by rw [← List.length_append]; exact l4
    refine ⟨r, d, q, srt xs, srt ys, srt (xs ++ ys), srt os, g, 800, rfl, ir, srt_nd nm.nd, by rw [srt_len, List.length_append]; omega, numd_srt hn, fun x hx => (srt_mem _ _).mpr (List.mem_append_left _ ((srt_mem _ _).mp hx)), fun x hx => (srt_mem _ _).mpr (List.mem_append_right _ ((srt_mem _ _).mp hx)), fun x hx => lo x (show x ∈ xs ++ ys from (srt_mem _ _).mp hx), by rw [srt_len]; omega, by rw [srt_len]; omega, by decide, Low.more (show Low 100 q from sm) (by decide), fun H' e => ?_⟩
    rw [mulQ_perm (srt_perm xs), mulQ_perm (srt_perm ys)]
    exact z H' e
theorem wo_sp {K : W.Frag} {A Z CT CP CL : Addr} {H : Hp} {Q : VK} {E : XK} {r d : Addr} {y : Str} {td : TD} {os : List Str} {g : Str → Rat} (ir : IsRule A CT CP CL H r td os) (ok : TdOk td os) (sm : Sm td) (nl : isLo td = false) (l4 : td.ins.length ≤ 4) (hy : y ∈ os) (hn : NumD A H d (oth td.ins y) g) (lo : ∀ x ∈ td.ins, Low 40 (g x))
    (z : DueP A Z H Q E (dueQ td y g)) : spWo A Z CT CP td [.ref r, .str y, .ref d] H Q E := by
  have nm := ok.nm
  have hyi := ok.oi y hy
  have hn' : ∀ {xs : List Str}, (∀ x, x ∈ xs ↔ x ∈ td.ins) → NumD A H d (oth xs y) g := fun {xs} h => hn.sub fun x hx => oth_mem.mpr ⟨(h x).mp (oth_mem.mp hx).1, (oth_mem.mp hx).2⟩
  cases td with
  | loo xs => exact nomatch nl
  | sum ls q =>
    have l4' : (ls.map (·.1)).length ≤ 4 := l4
    obtain ⟨n, en, mn⟩ := wt_some hyi
    refine ⟨r, d, y, q, ordW ls, srt (ls.map fun p : Str × Int => p.1), srt os, g, 40, n, rfl, ir, (srt_mem _ _).mpr hy, srt_nd nm.nd, by rw [srt_len]; omega, hn' (srt_mem _), wtok_ord nm.nd sm.1, by rw [wt_ord nm.nd hyi, en], (ok.dt.1 _ mn).1, sm.1 _ mn, fun x hx => lo x (show x ∈ ls.map (·.1) from (srt_mem _ _).mp (oth_mem.mp hx).1), by rw [srt_len]; omega, by decide, sm.2, ?_⟩
    have e1 : sumQ (ordW ls) (oth (srt (ls.map (·.1))) y) g = sumQ ls (oth (ls.map (·.1)) y) g := by
      rw [sumQ_perm (oth_perm (srt_perm _) y), sumQ_congr (ks := ls) _ fun x hx => ⟨rfl, wt_ord nm.nd (oth_mem.mp hx).1⟩]
    rw [e1]
    have e2 : dueQ (.sum ls q) y g = some ((q - sumQ ls (oth (ls.map (·.1)) y) g) / ((n : Int) : Rat)) := by
      show some ((q - sumQ ls (oth (ls.map (·.1)) y) g) / (((wt ls y).getD 0 : Int) : Rat)) = _
      rw [en]
      rfl
    rw [e2] at z
    exact z
  | pro xs ys q =>
    have ll : xs.length + ys.length ≤ 4 := by rw [← List.length_append]; exact l4
    refine ⟨r, d, y, q, srt xs, srt ys, srt (xs ++ ys), srt os, g, 40, rfl, ir, (srt_mem _ _).mpr hy, srt_nd nm.nd, by rw [srt_len, List.length_append]; omega, hn' (srt_mem _), fun x hx => (srt_mem _ _).mpr (List.mem_append_left _ ((srt_mem _ _).mp hx)), fun x hx => (srt_mem _ _).mpr (List.mem_append_right _ ((srt_mem _ _).mp hx)), by rw [srt_len]; omega, by rw [srt_len]; omega,
      fun x hx => lo x (show x ∈ xs ++ ys from (srt_mem _ _).mp (oth_mem.mp hx).1), by rw [srt_len]; omega, by rw [srt_len]; omega, by decide, Low.more (show Low 100 q from sm) (by decide), ?_⟩
    rw [mulQ_perm (oth_perm (srt_perm xs) y), mulQ_perm (oth_perm (srt_perm ys) y)]
    have z' : DueP A Z H Q E (if y ∈ ys then quo (mulQ (oth xs y) g) (q * mulQ (oth ys y) g) else quo (q * mulQ (oth ys y) g) (mulQ (oth xs y) g)) := z
    have hxy : y ∈ xs ∨ y ∈ ys := List.mem_append.mp hyi
    by_cases c : y ∈ ys
    · have nx : y ∉ xs := nm.off y c
      rw [if_neg (fun h => nx ((srt_mem _ _).mp h))]
      rw [if_pos c] at z'
      exact z'.quot
    · rw [if_pos ((srt_mem _ _).mpr (hxy.resolve_right c))]
      rw [if_neg c] at z'
      exact z'.quot
section
variable {X : Cx} {A Z CT CP CL : Addr} {E : XK} {e : Expr} {i : Nat} {t : TA} {n : Nat} {gV : List V → List V → List V}
def tTrM (A CT CP CL : Addr) (i : Nat) (t : TA) : TE := fun σ H Q => ∃ (r : Addr) (td : TD) (os : List Str), σ[i]? = some (some (.ref r)) ∧ IsRule A CT CP CL H r td os ∧ t σ H fun vs H2 => spTr A CT CP CL td (.ref r :: (vs ++ [])) H2 Q E0
def tTrK (A CT CP CL : Addr) (i n : Nat) (gV : List V → List V → List V) (t : TA) : TE := fun σ H Q => ∃ (r : Addr) (td : TD) (os : List Str), σ[i]? = some (some (.ref r)) ∧ IsRule A CT CP CL H r td os ∧ t σ H fun vs H2 => vs.length = n ∧ spTr A CT CP CL td (gV [.ref r] vs) H2 Q E0
def tWoM (A Z CT CP CL : Addr) (E : XK) (i : Nat) (t : TA) : TE := fun σ H Q => ∃ (r : Addr) (td : TD) (os : List Str), σ[i]? = some (some (.ref r)) ∧ IsRule A CT CP CL H r td os ∧ isLo td = false ∧ t σ H fun vs H2 => spWo A Z CT CP td (.ref r :: (vs ++ [])) H2 Q E
def tWoK (A Z CT CP CL : Addr) (E : XK) (i n : Nat) (gV : List V → List V → List V) (t : TA) : TE := fun σ H Q => ∃ (r : Addr) (td : TD) (os : List Str), σ[i]? = some (some (.ref r)) ∧ IsRule A CT CP CL H r td os ∧ isLo td = false ∧ t σ H fun vs H2 => vs.length = n ∧ spWo A Z CT CP td (gV [.ref r] vs) H2 Q E
theorem no_it (m : Str) : m = "is_true" ∨ m = "worked_out" → (∀ pf pw, (fldL pf pw).lookup m = none) ∧ (∀ pt pf pd pw, (fldT pt pf pd pw).lookup m = none) ∧ ∀ pt pl pr pf pw, (fldP pt pl pr pf pw).lookup m = none := by
  rintro (rfl | rfl)
  · exact ⟨fun _ _ => rfl, fun _ _ _ _ => rfl, fun _ _ _ _ _ => rfl⟩
  · exact ⟨fun _ _ => rfl, fun _ _ _ _ => rfl, fun _ _ _ _ _ => rfl⟩
theorem pe_trM (pT : PE X e (tMeth CT "is_true" (spTrT A CT) [] E0 (tVar i) t)) (pP : PE X e (tMeth CP "is_true" (spTrP A CP) [] E0 (tVar i) t)) (pL : PE X e (tMeth CL "is_true" (spTrL A CL) [] E0 (tVar i) t)) : PE X e (tTrM A CT CP CL i t) := by
  obtain ⟨n1, n2, n3⟩ := no_it "is_true" (.inl rfl)
  refine ⟨fun pins s σ H Q I ⟨r, td, os, hs, ir, h⟩ => ?_⟩
  cases td with
  | loo xs => obtain ⟨dx, pf, pw, hi, _⟩ := (show IsL CL H r _ _ from ir); exact pL.run pins s σ H Q I ⟨_, hs, r, dx, _, rfl, hi, n1 _ _, h⟩
  | sum ls q => obtain ⟨dx, pt, pf, pd, pw, hi, _⟩ := (show IsT A CT H r _ _ _ _ from ir); exact pT.run pins s σ H Q I ⟨_, hs, r, dx, _, rfl, hi, n2 _ _ _ _, h⟩
  | pro xs ys q => obtain ⟨dx, pt, pl, pr, pf, pw, hi, _⟩ := (show IsP A CP H r _ _ _ _ _ from ir); exact pP.run pins s σ H Q I ⟨_, hs, r, dx, _, rfl, hi, n3 _ _ _ _ _, h⟩
theorem pe_trK (pT : PE X e (tMethK CT "is_true" n (spTrT A CT) gV E0 (tVar i) t)) (pP : PE X e (tMethK CP "is_true" n (spTrP A CP) gV E0 (tVar i) t)) (pL : PE X e (tMethK CL "is_true" n (spTrL A CL) gV E0 (tVar i) t)) : PE X e (tTrK A CT CP CL i n gV t) := by
  obtain ⟨n1, n2, n3⟩ := no_it "is_true" (.inl rfl)
  refine ⟨fun pins s σ H Q I ⟨r, td, os, hs, ir, h⟩ => ?_⟩
  cases td with
  | loo xs => obtain ⟨dx, pf, pw, hi, _⟩ := (show IsL CL H r _ _ from ir); exact pL.run pins s σ H Q I ⟨_, hs, r, dx, _, rfl, hi, n1 _ _, h⟩
  | sum ls q => obtain ⟨dx, pt, pf, pd, pw, hi, _⟩ := (show IsT A CT H r _ _ _ _ from ir); exact pT.run pins s σ H Q I ⟨_, hs, r, dx, _, rfl, hi, n2 _ _ _ _, h⟩
  | pro xs ys q => obtain ⟨dx, pt, pl, pr, pf, pw, hi, _⟩ := (show IsP A CP H r _ _ _ _ _ from ir); exact pP.run pins s σ H Q I ⟨_, hs, r, dx, _, rfl, hi, n3 _ _ _ _ _, h⟩
theorem pe_woM (pT : PE X e (tMeth CT "worked_out" (spWoT A CT) [] E (tVar i) t)) (pP : PE X e (tMeth CP "worked_out" (spWoP A CP Z) [] E (tVar i) t)) : PE X e (tWoM A Z CT CP CL E i t) := by
  obtain ⟨n1, n2, n3⟩ := no_it "worked_out" (.inr rfl)
  refine ⟨fun pins s σ H Q I ⟨r, td, os, hs, ir, nl, h⟩ => ?_⟩
  cases td with
  | loo xs => exact nomatch nl
  | sum ls q => obtain ⟨dx, pt, pf, pd, pw, hi, _⟩ := (show IsT A CT H r _ _ _ _ from ir); exact pT.run pins s σ H Q I ⟨_, hs, r, dx, _, rfl, hi, n2 _ _ _ _, h⟩
  | pro xs ys q => obtain ⟨dx, pt, pl, pr, pf, pw, hi, _⟩ := (show IsP A CP H r _ _ _ _ _ from ir); exact pP.run pins s σ H Q I ⟨_, hs, r, dx, _, rfl, hi, n3 _ _ _ _ _, h⟩
theorem pe_woK (pT : PE X e (tMethK CT "worked_out" n (spWoT A CT) gV E (tVar i) t)) (pP : PE X e (tMethK CP "worked_out" n (spWoP A CP Z) gV E (tVar i) t)) : PE X e (tWoK A Z CT CP CL E i n gV t) := by
  obtain ⟨n1, n2, n3⟩ := no_it "worked_out" (.inr rfl)
  refine ⟨fun pins s σ H Q I ⟨r, td, os, hs, ir, nl, h⟩ => ?_⟩
  cases td with
  | loo xs => exact nomatch nl
  | sum ls q => obtain ⟨dx, pt, pf, pd, pw, hi, _⟩ := (show IsT A CT H r _ _ _ _ from ir); exact pT.run pins s σ H Q I ⟨_, hs, r, dx, _, rfl, hi, n2 _ _ _ _, h⟩
  | pro xs ys q => obtain ⟨dx, pt, pl, pr, pf, pw, hi, _⟩ := (show IsP A CP H r _ _ _ _ _ from ir); exact pP.run pins s σ H Q I ⟨_, hs, r, dx, _, rfl, hi, n3 _ _ _ _ _, h⟩
end
/-- is_true and worked_out of the three classes -/
structure MtA (P : Program) (w : World) (K : W.Frag) (mg : Str → Option Value) (base : Heap) (C : Addr) (nm : Str) (CX : CXT) (ps ks : List Str) (g : List Value → List Value → List Value) (gV : List V → List V → List V) (sp : Sp) : Prop where
  cl : Cls K C
  of : ∃ f fd, Meth K C nm f ∧ FnOk P w K mg base CX 8 f fd ps sp ∧ Binds K fd ps [] ∧ KBn K fd ps 1 ks g gV
def apn {α : Type} (us ws : List α) : List α := us ++ ws
def apr {α : Type} (us ws : List α) : List α := us ++ ws.reverse
structure RM (P : Program) (w : World) (K : W.Frag) (mg : Str → Option Value) (base : Heap) (A Z CT CP CL : Addr) : Prop where
  tT : MtA P w K mg base CT "is_true" CX0 ["self", "numbers"] ["numbers"] apn apn (spTrT A CT)
  tP : MtA P w K mg base CP "is_true" CX0 ["self", "numbers"] ["numbers"] apn apn (spTrP A CP)
  tL : MtA P w K mg base CL "is_true" CX0 ["self", "numbers"] ["numbers"] apn apn (spTrL A CL)
  wT : MtA P w K mg base CT "worked_out" (L2.CX P w) ["self", "field", "numbers"] ["numbers", "field"] apr apr (spWoT A CT)
  wP : MtA P w K mg base CP "worked_out" (L2.CX P w) ["self", "field", "numbers"] ["numbers", "field"] apr apr (spWoP A CP Z)
end KD

set_option Elab.async false
set_option linter.all false
set_option maxRecDepth 100000
set_option maxHeartbeats 2000000
set_option exponentiation.threshold 20000
/-! what stands while a way is tried; reprs of what was passed; told. -/
namespace KD
open PySem PySem.Spec PyProof.Rows L2 Oo Gd Am KA SqX
/-- all that is no list and no table stands -/
def Hd (H H' : Hp) : Prop := ∀ b o, H b = some o → (∀ xs, o ≠ .lst xs) → (∀ ps, o ≠ .tbl ps) → H' b = some o
theorem Hd.trans {H H1 H2 : Hp} (a : Hd H H1) (b : Hd H1 H2) : Hd H H2 := fun c o h n m => b c o (a c o h n m) n m
theorem Hd.ext {H H' : Hp} (e : Am.Ext H H') : Hd H H' := fun b o h _ _ => e b o h
theorem Hd.xn {H H' : Hp} (e : LamX.ExtN H H') : Hd H H' := fun b o h _ m => e b o h m
theorem Hd.kt {p : Addr} {H H' : Hp} (k : KT p H H') (hp : Pot H p) : Hd H H' := fun b o h n m => k.1 b o (fun e => by
  obtain ⟨u, v, q, _⟩ := hp
  rw [e, q] at h
  exact n _ (Option.some.inj h).symm) h m
theorem IsRule.hd {A CT CP CL : Addr} {H H' : Hp} {r : Addr} {td : TD} {os : List Str} (e : Hd H H') (h : IsRule A CT CP CL H r td os) : IsRule A CT CP CL H' r td os := by
  cases td with
  | loo ys =>
    obtain ⟨dx, pf, pw, hi, hf, hw⟩ := (show IsL CL H r _ _ from h)
    exact ⟨dx, pf, pw, e _ _ hi (fun _ z => nomatch z) (fun _ z => nomatch z), e _ _ hf (fun _ z => nomatch z) (fun _ z => nomatch z), e _ _ hw (fun _ z => nomatch z) (fun _ z => nomatch z)⟩
  | sum ls q =>
    obtain ⟨dx, pt, pf, pd, pw, hi, ⟨dq, hp⟩, hf, hd, hw⟩ := (show IsT A CT H r _ _ _ _ from h)
    exact ⟨dx, pt, pf, pd, pw, e _ _ hi (fun _ z => nomatch z) (fun _ z => nomatch z), ⟨dq, e _ _ hp (fun _ z => nomatch z) (fun _ z => nomatch z)⟩, e _ _ hf (fun _ z => nomatch z) (fun _ z => nomatch z), e _ _ hd (fun _ z => nomatch z) (fun _ z => nomatch z), e _ _ hw (fun _ z => nomatch z) (fun _ z => nomatch z)⟩
  | pro ys zs q =>
    obtain ⟨dx, pt, pl, pr, pf, pw, hi, ⟨dq, hp⟩, hl, hrr, hf, hw⟩ := (show IsP A CP H r _ _ _ _ _ from h)
    exact ⟨dx, pt, pl, pr, pf, pw, e _ _ hi (fun _ z => nomatch z) (fun _ z => nomatch z), ⟨dq, e _ _ hp (fun _ z => nomatch z) (fun _ z => nomatch z)⟩, e _ _ hl (fun _ z => nomatch z) (fun _ z => nomatch z), e _ _ hrr (fun _ z => nomatch z) (fun _ z => nomatch z), e _ _ hf (fun _ z => nomatch z) (fun _ z => nomatch z), e _ _ hw (fun _ z => nomatch z) (fun _ z => nomatch z)⟩
theorem PrtD.hd {H H' : Hp} {a : Addr} {xs : List Str} {g : Str → Rat} (e : Hd H H') (h : PrtD H a xs g) : PrtD H' a xs g := by
  obtain ⟨kvs, h1, h2⟩ := h
  refine ⟨kvs, e _ _ h1 (fun _ z => nomatch z) (fun _ z => nomatch z), ?_⟩
  clear h1
  induction h2 with
  | nil => exact .nil
  | cons h1 _ ih =>
    obtain ⟨t, x1, x2⟩ := h1
    exact .cons ⟨t, x1, e _ _ x2 (fun _ z => nomatch z) (fun _ z => nomatch z)⟩ ih
theorem PasR.hd {A : Addr} {H H' : Hp} (e : Hd H H') {kvs : List (Key × V)} {ys : List (Str × Rat)} (h : PasR A H kvs ys) : PasR A H' kvs ys := pas_mono (fun b C dx fs i => e _ _ i (fun _ z => nomatch z) (fun _ z => nomatch z)) h
theorem PasD.hd {A D : Addr} {H H' : Hp} {ys : List (Str × Rat)} (e : Hd H H') (h : PasD A H D ys) : PasD A H' D ys := let ⟨kvs, a, b⟩ := h; ⟨kvs, e _ _ a (fun _ z => nomatch z) (fun _ z => nomatch z), b.hd e⟩
theorem Is.hd {C a : Addr} {H H' : Hp} {q : Rat} (e : Hd H H') (h : Is C H a q) : Is C H' a q := let ⟨dx, z⟩ := h; ⟨dx, e _ _ z (fun _ z => nomatch z) (fun _ z => nomatch z)⟩
theorem Num.hd {C : Addr} {H H' : Hp} {v : V} {q : Rat} (e : Hd H H') (h : Num C H v q) : Num C H' v q := h.imp (fun z => z) fun ⟨a, z, i⟩ => ⟨a, z, Is.hd e i⟩
theorem NumD.hd {A a : Addr} {H H' : Hp} {xs : List Str} {g : Str → Rat} (e : Hd H H') (h : NumD A H a xs g) : NumD A H' a xs g := by
  obtain ⟨kvs, h1, h2⟩ := h
  exact ⟨kvs, e _ _ h1 (fun _ z => nomatch z) (fun _ z => nomatch z), fun x hx => let ⟨v, a, b⟩ := h2 x hx; ⟨v, a, Num.hd e b⟩⟩
theorem Fr2.hd {H H' : Hp} {a : Addr} {q : Rat} (e : Hd H H') (h : Fr2 H a q) : Fr2 H' a q := e _ _ h (fun _ z => nomatch z) (fun _ z => nomatch z)
theorem Prs.hd {H H' : Hp} (e : Hd H H') : ∀ {ps : List Addr} {ls : List (Str × Int)}, Prs H ps ls → Prs H' ps ls := Prs.mono fun a xs h => e _ _ h (fun _ z => nomatch z) (fun _ z => nomatch z)
theorem strs_ne {p a : Addr} {H : Hp} {xs : List Str} (hp : Pot H p) (h : Ls H a xs) : a ≠ p := by
  obtain ⟨u, v, q, _⟩ := hp
  intro e
  have h' : H p = some (.lst (xs.map V.str)) := by rw [← e]; exact h
  rw [q] at h'
  have := Option.some.inj h'
  injection this with e2
  cases xs with
  | nil => cases e2
  | cons x r => rw [List.map_cons] at e2; injection e2 with e3; cases e3
theorem refs_ne {p a : Addr} {H : Hp} {xs : List Addr} (hp : Pot H p) (h : H a = some (.lst (xs.map V.ref))) : a ≠ p := by
  obtain ⟨u, v, q, _⟩ := hp
  intro e
  have h' : H p = some (.lst (xs.map V.ref)) := by rw [← e]; exact h
  rw [q] at h'
  have := Option.some.inj h'
  injection this with e2
  cases xs with
  | nil => cases e2
  | cons x r => rw [List.map_cons] at e2; injection e2 with e3; cases e3
theorem kt_lst {p a : Addr} {H H' : Hp} {xs : List V} (k : KT p H H') (n : a ≠ p) (h : H a = some (.lst xs)) : H' a = some (.lst xs) := k.1 _ _ n h (fun _ z => nomatch z)
theorem TieAt.kt {p t : Addr} {H H' : Hp} {td : TD} {os : List Str} (k : KT p H H') (hp : Pot H p) (h : TieAt H t td os) : TieAt H' t td os := by
  have e := Hd.kt k hp
  have tp : ∀ {a : Addr} {xs : List V}, H a = some (.tup xs) → H' a = some (.tup xs) := fun h => e _ _ h (fun _ z => nomatch z) (fun _ z => nomatch z)
  obtain ⟨po, ho, h⟩ := h
  have ho' : Ls H' po os := kt_lst k (strs_ne hp ho) ho
  cases td with
  | loo xs => obtain ⟨px, a, b⟩ := h; exact ⟨po, ho', px, kt_lst k (strs_ne hp a) a, tp b⟩
  | sum ls q => obtain ⟨pl, ps, pq, a, b, c, d⟩ := h; exact ⟨po, ho', pl, ps, pq, kt_lst k (refs_ne hp a) a, Prs.hd e b, tp c, tp d⟩
  | pro xs ys q => obtain ⟨pp, px, py, pq, a, b, c, d, f⟩ := h; exact ⟨po, ho', pp, px, py, pq, kt_lst k (strs_ne hp a) a, kt_lst k (strs_ne hp b) b, tp c, tp d, tp f⟩
theorem TG.kt {p t a : Addr} {H H' : Hp} {td : TD} {os xs : List Str} {g : Str → Rat} (k : KT p H H') (hp : Pot H p) (h : TG H t a td os xs g) : TG H' t a td os xs g := ⟨h.tie.kt k hp, h.pd.hd (Hd.kt k hp), h.ok, h.sm, h.l4, h.sub, h.low, h.nl⟩
theorem kt_over {p b : Addr} {H H' : Hp} {o : HO} (k : KT p H H') (n : b ≠ p) (h : H b = none) : KT p H (upd H' b o) := ⟨fun c u nc hc m => by
  rw [upd_ne (ne_of_none hc h)]
  exact k.1 c u nc hc m, by
  obtain ⟨x, y, q, r⟩ := k.2
  exact ⟨x, y, by rw [upd_ne (Ne.symm n)]; exact q, r⟩⟩
theorem kt_gone {p b : Addr} {H H' : Hp} (k : KT p H H') (n : b ≠ p) (h : H' b = none) (nt : ∀ ps, H b ≠ some (.tbl ps)) : H b = none := by
  cases e : H b with
  | none => rfl
  | some o =>
    have := k.1 b o n e (fun ps z => nt ps (by rw [e, z]))
    rw [h] at this
    cases this
/-! ### reprs -/
def pasT (kvs : List (Key × V)) (ys : List (Str × Rat)) : List Str := List.zipWith (fun p y => reprText y.1 ++ ": " ++ numText p.2 y.2) kvs ys
structure NmY (kvs : List (Key × V)) (ys : List (Str × Rat)) : Prop where
  nm : ∀ y ∈ ys, nameB y.1 = true ∧ Low 1900 y.2
  few : ys.length ≤ 20
theorem pas_len {A : Addr} {H : Hp} : ∀ {kvs : List (Key × V)} {ys : List (Str × Rat)}, PasR A H kvs ys → (pasT kvs ys).length = kvs.length ∧ kvs.length = ys.length
  | _, _, .nil => ⟨rfl, rfl⟩
  | _, _, .cons _ r => by
    have := pas_len r
    exact ⟨by show (_ :: pasT _ _).length = _; rw [List.length_cons, this.1, List.length_cons], by rw [List.length_cons, List.length_cons, this.2]⟩
theorem pas_piled {A : Addr} {H : Hp} : ∀ {kvs : List (Key × V)} {ys : List (Str × Rat)}, PasR A H kvs ys → (∀ y ∈ ys, nameB y.1 = true ∧ Low 1900 y.2) → piled (pasT kvs ys) ≤ 6300 * ys.length
  | _, _, .nil, _ => Nat.zero_le _
  | (k, v) :: _, y :: _, .cons ⟨_, b⟩ r, h => by
    have ih := pas_piled r fun z hz => h z (List.mem_cons_of_mem _ hz)
    obtain ⟨n1, n2⟩ := h y List.mem_cons_self
    have l1 := rep_len (name_ok n1)
    have l2 := (name_len n1).2
    have l3 : (numText v y.2).length ≤ 6100 := Am.num_len (smN_of b n2)
    have k2 : (Str.ofString ": ").length = 2 := by decide
    show piled ((reprText y.1 ++ ": " ++ numText v y.2) :: _) ≤ _
    rw [piled_cons, List.length_cons, strLen_append, strLen_append, k2]
    have ih' : piled (List.zipWith (fun (p : Key × V) (y : Str × Rat) => reprText y.1 ++ ": " ++ numText p.2 y.2) _ _) ≤ _ := ih
    omega
theorem dict_le (ps : List Str) : (dictText ps).length ≤ piled ps + 2 := by
  have e : (dictText ps).length = 1 + (Str.join ", " ps).length + 1 := by
    unfold dictText
    rw [strLen_append, strLen_append]; rfl
  by_cases h : ps = []
  · subst h
    rw [e]
    decide
  · have h2 := join_length_add ps h
    omega
section
variable {X : Cx} {pins : List (Addr × Obj)} {σ : L2.St} {A : Addr} {H : Hp}
theorem pas_rx (R : Rep X.prog X.w X.K X.mg X.base A) : ∀ {kvs : List (Key × V)} {ys : List (Str × Rat)}, PasR A H kvs ys → (∀ y ∈ ys, nameB y.1 = true ∧ Low 1900 y.2) → ∀ (i : Nat) (q : Key × V), kvs[i]? = some q → ∃ kt vt : Str, (pasT kvs ys)[i]? = some (kt ++ ": " ++ vt) ∧ Gd.KeyT q.1 kt ∧ RX.Rx X pins σ H [] 2 q.2 vt
  | _, _, .nil, _, i, q, e => by simp at e
  | (k, v) :: _, y :: _, .cons ⟨a, b⟩ r, h, 0, q, e => by
    have e' : (k, v) = q := by simpa using e
    subst e'
    obtain ⟨n1, n2⟩ := h y List.mem_cons_self
    have l1 := rep_len (name_ok n1)
    have l2 := (name_len n1).2
    have big : (1000000 : Nat) ≤ sizeLine := by decide
    have a' : k = Sum.inr y.1 := a
    refine ⟨_, _, rfl, ?_, RX.Rx.num R b (smN_of b n2)⟩
    show Gd.KeyT k _
    rw [a']
    exact .str y.1 (by omega)
  | (k, v) :: _, y :: _, .cons _ r, h, i + 1, q, e => by
    obtain ⟨kt, vt, h1, h2, h3⟩ := pas_rx R r (fun z hz => h z (List.mem_cons_of_mem _ hz)) i q (by simpa using e)
    exact ⟨kt, vt, h1, h2, h3⟩
theorem pas_shown (R : Rep X.prog X.w X.K X.mg X.base A) {D : Addr} {kvs : List (Key × V)} {ys : List (Str × Rat)} (hD : H D = some (.dK kvs)) (p : PasR A H kvs ys) (h : ∀ y ∈ ys, nameB y.1 = true ∧ Low 1900 y.2) : RX.Rx X pins σ H [D] 4 (.ref D) (dictText (pasT kvs ys)) :=
  RX.Rx.dict (as := []) hD (by simp) (pas_rx R p h) (pas_len p).1
def twoT (k1 k2 : List (Key × V)) (y1 y2 : List (Str × Rat)) : Str := listText [dictText (pasT k1 y1), dictText (pasT k2 y2)]
theorem two_shown {Q : VK} (R : Rep X.prog X.w X.K X.mg X.base A) {L D1 D2 : Addr} {k1 k2 : List (Key × V)} {y1 y2 : List (Str × Rat)} (hL : H L = some (.lst [.ref D1, .ref D2])) (h1 : H D1 = some (.dK k1)) (h2 : H D2 = some (.dK k2)) (p1 : PasR A H k1 y1) (p2 : PasR A H k2 y2)
    (n1 : ∀ y ∈ y1, nameB y.1 = true ∧ Low 1900 y.2) (n2 : ∀ y ∈ y2, nameB y.1 = true ∧ Low 1900 y.2) (f1 : y1.length ≤ 20) (f2 : y2.length ≤ 20) (z : ∀ H', Am.Ext H H' → Q (.str (twoT k1 k2 y1 y2)) H') : RX.rRx X 4 [.ref L] H Q := by
  have LD1 : L ≠ D1 := ne_of hL h1 (fun e => nomatch e)
  have LD2 : L ≠ D2 := ne_of hL h2 (fun e => nomatch e)
  refine ⟨L, .ref D1, [.ref D2], [dictText (pasT k1 y1), dictText (pasT k2 y2)], [D1, D2], rfl, hL, by simp [LD1, LD2], fun pins σ i y hy => ?_, rfl, ?_, z⟩
  · match i, hy with
    | 0, hy =>
      have e : V.ref D1 = y := by simpa using hy
      subst e
      exact ⟨_, rfl, (pas_shown R h1 p1 n1).mono (Am.Ext.refl _) (fun a ha => by simp at ha ⊢; exact .inl ha) (Nat.le_refl _)⟩
    | 1, hy =>
      have e : V.ref D2 = y := by simpa using hy
      subst e
      exact ⟨_, rfl, (pas_shown R h2 p2 n2).mono (Am.Ext.refl _) (fun a ha => by simp at ha ⊢; exact .inr ha) (Nat.le_refl _)⟩
    | i + 2, hy => simp at hy
  · have a1 := pas_piled p1 n1
    have a2 := pas_piled p2 n2
    have b1 := dict_le (pasT k1 y1)
    have b2 := dict_le (pasT k2 y2)
    have c := listText_le [dictText (pasT k1 y1), dictText (pasT k2 y2)]
    rw [piled_cons, piled_cons, piled_nil] at c
    have big : (1000000 : Nat) ≤ sizeLine := by decide
    omega
end
/-! ### told -/
def dueS : Option Rat → Str
  | none => "None"
  | some v => Am.shown v
theorem sok_due : ∀ o, PyData.strOk (dueS o) = true
  | none => sok_of _
  | some v => sok_shown v
theorem told_d {A Z : Addr} {o : Option Rat} {tl : XK → Hp → VK → Prop} {H : Hp} {Q : VK} (h : ∀ E Q', DueP A Z H Q' E o → tl E H Q') (lo : ∀ v, o = some v → Low 3000 v) (z : ∀ H', Am.Ext H H' → Q (.str (dueS o)) H') : TTt A Z tl H Q := by
  cases o with
  | none => exact .inl fun Q' => h _ Q' fun d H' e n hd => ⟨rfl, d, rfl, hd, z H' e⟩
  | some v => exact .inr fun Qc hc => h _ Qc fun r H' e n i => hc r v H' i (lo v rfl) (z H' e)
theorem NumD.put {A D : Addr} {H : Hp} {xs ys : List Str} {g : Str → Rat} {y : Str} {v : V} {q : Rat} {kvs : List (Key × V)} (h : NumD A H D xs g) (hk : H D = some (.dK kvs)) (hv : Num A H v q) (hy : ∀ x ∈ ys, x = y ∨ x ∈ xs) : NumD A (upd H D (.dK (putK kvs (Sum.inr y : Key) v))) D ys (KD.put g y q) := by
  obtain ⟨kvs', h1, h2⟩ := h
  rw [hk] at h1
  injection h1 with h1
  injection h1 with h1
  subst h1
  have up : ∀ {u : V} {p : Rat} {o : HO}, Num A H u p → Num A (upd H D o) u p := fun {u p o} n => n.imp (fun z => z) fun ⟨x, e, dx, i⟩ => ⟨x, e, dx, by rw [upd_ne (ne_of i hk (fun z => nomatch z))]; exact i⟩
  refine ⟨_, upd_same, fun x hx => ?_⟩
  rw [valV_put]
  by_cases c : x = y
  · subst c
    rw [if_pos rfl, put_same]
    exact ⟨v, rfl, up hv⟩
  · rw [if_neg (fun e => c (by injection e)), put_off c]
    obtain ⟨u, a, b⟩ := h2 x ((hy x hx).resolve_left c)
    exact ⟨u, a, up b⟩
end KD

set_option Elab.async false
set_option linter.all false
set_option maxRecDepth 100000
set_option maxHeartbeats 2000000
set_option exponentiation.threshold 20000
/-! _law_way_right. -/
namespace KD
open PySem PySem.Spec PyProof.Rows L2 Oo Gd Am KA SqX
def DueV (H : Hp) (v : V) : Option Rat → Prop
  | none => v = .non
  | some r => ∃ t : Addr, v = .ref t ∧ Fr2 H t r
theorem due_at {H : Hp} {Q : VK} {o : Option Rat} (h : ∀ v H1, Am.Ext H H1 → DueV H1 v o → Q v H1) : DueR H Q o := by
  cases o with
  | none => exact fun H' e => h _ H' e rfl
  | some r => exact fun t H' e n ht => h _ H' e ⟨t, rfl, ht⟩
theorem DueV.hd {H H' : Hp} {v : V} {o : Option Rat} (e : Hd H H') (h : DueV H v o) : DueV H' v o := by
  cases o with
  | none => exact h
  | some r => obtain ⟨t, a, b⟩ := h; exact ⟨t, a, Fr2.hd e b⟩
theorem shape_at {H : Hp} {Q : VK} {E : XK} {v : V} {o : Option Rat} (h : DueV H v o) (lo : ∀ r, o = some r → Low 768 r) (z : Q (.str (dueS o)) H) : spShape [v] H Q E := by
  cases o with
  | none => exact ⟨v, rfl, .inl ⟨h, z⟩⟩
  | some r => obtain ⟨t, a, b⟩ := h; exact ⟨v, rfl, .inr ⟨t, r, a, b, (lo r rfl).more (by decide), z⟩⟩
theorem tabs_putD {T : List (Addr × Str)} {H : Hp} {a : Addr} {l : List (Key × V)} {o : HO} (t : LamX.Tabs T H) (h : H a = some (.dK l)) : LamX.Tabs T (upd H a o) := fun p hp => by
  obtain ⟨ps, h1, h2, h3⟩ := t p hp
  refine ⟨ps, by rw [upd_ne (ne_of h1 h (fun e => nomatch e))]; exact h1, h2, fun pos cv hc => ?_⟩
  obtain ⟨c, e1, e2⟩ := h3 pos cv hc
  refine ⟨c, e1, ?_⟩
  rw [upd_ne (fun q => by
    rw [q, h] at e2
    unfold LamX.CodeO at e2
    cases e2)]
  exact e2
structure Tq1 (T : List (Addr × Str)) (p : Addr) (q : Str) : Prop where
  mem : (p, q) ∈ T
  uq : ∀ x ∈ T, x.1 = p → x.2 = q
structure Tol (K : W.Frag) (mg : Str → Option Value) : Prop where
  of : ∃ g gd, Fun K "_law_told" "_law_told" (top 70) g gd ∧ mg "_law_told" = some (.ref g) ∧ Binds K gd ["_law_call"] []
structure WR (P : Program) (w : World) (K : W.Frag) (mg : Str → Option Value) (base : Heap) (A Z ZA CT CP CL : Addr) : Prop where
  fr : Frees mg
  B : Base P w K mg base A
  R : Rep P w K mg base A
  Ad : OpI P w K mg base A (Operator.Add).info.2 6 fun q p => q + p
  DD : Dn P w K mg base CX0 4 "_law_due" ["_law_tie_here", "_law_parts", "_law_spot"] spDue
  DP : Dn P w K mg base CX0 4 "_law_passed" ["_law_pot_here", "_law_parts", "_law_gone"] (spPas A)
  DS : Dn P w K mg base CX0 1 "_law_shape" ["_law_part_here"] spShape
  DK : DnP P w K mg base
  rm : RM P w K mg base A Z CT CP CL
  tq : Tq K mg Z ZA
  tol : Tol K mg
/-- the names of the spots -/
structure Sps (xs : List Str) : Prop where
  nd : xs.Nodup
  nz : ("zz9" : Str) ∉ xs
  nm : ∀ x ∈ xs, nameB x = true
  few : xs.length ≤ 10
section
variable {P : Program} {w : World} {K : W.Frag} {mg : Str → Option Value} {base : Heap} {f c pp A C Z ZA CT CP CL : Addr} {fd : FuncData} {T : List (Addr × Str)}
def spWay (A CT CP CL : Addr) (T : List (Addr × Str)) : Sp := fun vs H Q _ => ∃ (p t r a : Addr) (y : Str) (td : TD) (os xs : List Str) (g : Str → Rat), vs = [.ref p, .ref t, .ref r, .ref a, .str y] ∧ TG H t a td os xs g ∧ IsRule A CT CP CL H r td os ∧ Pot H p ∧ y ∈ os ∧ Sps xs ∧ LamX.Tabs T H ∧
  ∀ H', KT p H H' → LamX.Tabs T H' → Q (.bl true) H'
abbrev nWay : List Str := ["_law_pot_here", "_law_tie_here", "_law_rule_here", "_law_parts", "_law_spot", "_law_due_here", "_law_some_here", "_law_shown", "_law_told_here"]
theorem scWay : FnScope nWay ["_law_pot_here", "_law_tie_here", "_law_rule_here", "_law_parts", "_law_spot"] (defScope (top 71)) := ⟨rfl, rfl, rfl, by decide +kernel, rfl, by decide +kernel, by decide +kernel⟩
theorem pasY_nm {q0 : Rat} {xs : List Str} {gone : Str} {g : Str → Rat} (s : Sps xs) (lq : Low 40 q0) (lo : ∀ x ∈ xs, Low 40 (g x)) : ∀ y ∈ pasY q0 xs gone g, nameB y.1 = true ∧ Low 1900 y.2 := by
  intro y hy
  rcases List.mem_cons.mp hy with hy | hy
  · rw [hy]
    exact ⟨by show nameB "zz9" = true; decide +kernel, lq.more (by decide)⟩
  · obtain ⟨x, hx, rfl⟩ := List.mem_map.mp hy
    have := (oth_mem.mp hx).1
    exact ⟨s.nm x this, (lo x this).more (by decide)⟩
theorem pasY_few {q0 : Rat} {xs : List Str} {gone : Str} {g : Str → Rat} (s : Sps xs) : (pasY q0 xs gone g).length ≤ 20 := by
  unfold pasY
  rw [List.length_cons, List.length_map]
  have := oth_len xs gone
  have := s.few
  omega
theorem ok_way (S : WR P w K mg base A Z ZA CT CP CL) (TB : LamX.TabB base mg c pp) (tp : Tq1 T pp "_law_way_right.<locals>.<lambda>") (F : FunC K "_law_way_right" "_law_way_right" (top 71) f c fd) : FnG P w K mg base CX0 13 f fd ["_law_pot_here", "_law_tie_here", "_law_rule_here", "_law_parts", "_law_spot"] (spWay A CT CP CL T) := by
  refine okGc F scWay (fun vs H Q E h => ?_) (fun A' outer s H vs Q E hG hr h => ?_)
  · obtain ⟨p, t, r, a, y, td, os, xs, g, rfl, _⟩ := h
    rfl
  · obtain ⟨p, t, r, a, y, td, os, xs, g, rfl, tg, ir, hp, hy, sps, hT, z⟩ := h
    have nd := scWay.nd
    have fr := S.fr
    have B := S.B
    have hu := hu_of hr
    have isk : IsK K := ⟨trivial⟩
    obtain ⟨f1, fd1, m1, F1, b1, k1⟩ := S.rm.tT.of
    obtain ⟨f2, fd2, m2, F2, b2, k2⟩ := S.rm.tP.of
    obtain ⟨f3, fd3, m3, F3, b3, k3⟩ := S.rm.tL.of
    obtain ⟨f4, fd4, m4, F4, b4, k4⟩ := S.rm.wT.of
    obtain ⟨f5, fd5, m5, F5, b5, k5⟩ := S.rm.wP.of
    have c1 := S.rm.tT.cl
    have c2 := S.rm.tP.cl
    have c3 := S.rm.tL.cl
    obtain ⟨gf, gd, RF, gm, gb⟩ := S.tol.of
    have gk := RF.kp
    obtain ⟨goc, god, gkV, gdoc, gpm, gan, gcdv, gct, gosl, rfl, glk, gcode⟩ := RF.ex
    refine ⟨_, pss_cons (ps_set (i := 5) nd rfl (.inl rfl) (pe_dn S.DD hr (by rfl) (by decide) (pa_cons (pv 1) (pa_cons (pv 3) (pa_cons (pv 4) pa_nil)))))
      (pss_cons (ps_set (i := 6) nd rfl (.inr rfl) (pe_lst (pa_cons (pe_dn S.DP hr (by rfl) (by decide) (pa_cons (pv 0) (pa_cons (pv 3) (pa_cons pe_str pa_nil)))) (pa_cons (pe_dn S.DP hr (by rfl) (by decide) (pa_cons (pv 0) (pa_cons (pv 3) (pa_cons (pv 4) pa_nil)))) pa_nil))))
      (pss_cons (ps_set (i := 7) nd rfl (.inl rfl) (pe_callB (RX.call_reprRx (d := 4) hG (hr.mono (by decide))) rfl (fr.h _ (by decide +kernel)) (by decide +kernel) (pa_cons (pv 6) pa_nil)))
      (pss_cons (ps_set (i := 8) nd rfl (.inl rfl) (pe_lst (pa_cons (LamX.pe_lamcall (k := 9) (T := T) (TT := TTt A Z) rfl gm gk glk gcode gb scTo rfl (.inl rfl) (told_gives (k := 6) S.R S.tq fr hG (hr.mono (by decide))) TB rfl tp.mem tp.uq (hr.mono (by decide)) (LamX.lamS_by (show LamX.lamSB (defScope (top 71)) _ = true by decide +kernel)) rfl (fun _ _ _ _ _ => rfl)
          (fun A outer s H E f c' hl => pe_woM (A := _) (Z := Z) (CT := CT) (CP := CP) (CL := CL) (i := 2) (pe_meth (E := E) (pv 2) S.rm.wT.cl m4 F4 (hl.mono (by decide)) b4 .nil (passes_call (takes_of rfl rfl rfl rfl) fun _ _ _ _ h => h) (pa_cons (pv 4) (pa_cons (pe_ix (ixK isk) (pv 6) pe_int (fun _ _ => rfl)) pa_nil))) (pe_meth (E := E) (pv 2) S.rm.wP.cl m5 F5 (hl.mono (by decide)) b5 .nil (passes_call (takes_of rfl rfl rfl rfl) fun _ _ _ _ h => h) (pa_cons (pv 4) (pa_cons (pe_ix (ixK isk) (pv 6) pe_int (fun _ _ => rfl)) pa_nil))))) pa_nil)))
      (pss_cons (ps_expr (pe_bm PySem.F.plainAttrs_list PySem.F.slot_list_append PySem.F.type_list_append mt_append (pv 8) (pa_cons (LamX.pe_lamcall (k := 9) (T := T) (TT := TTt A Z) rfl gm gk glk gcode gb scTo rfl (.inl rfl) (told_gives (k := 6) S.R S.tq fr hG (hr.mono (by decide))) TB rfl tp.mem tp.uq (hr.mono (by decide)) (LamX.lamS_by (show LamX.lamSB (defScope (top 71)) _ = true by decide +kernel)) rfl (fun _ _ _ _ _ => rfl)
          (fun A outer s H E f c' hl => pe_woK (A := _) (Z := Z) (CT := CT) (CP := CP) (CL := CL) (i := 2) (pe_methK (E := E) (pv 2) S.rm.wT.cl m4 F4 (hl.mono (by decide)) k4 (passes_call (takes_of rfl rfl rfl rfl) fun _ _ _ _ h => h) (pk_cons (pe_ix (ixK isk) (pv 6) pe_int (fun _ _ => rfl)) (pk_cons (pv 4) pk_nil))) (pe_methK (E := E) (pv 2) S.rm.wP.cl m5 F5 (hl.mono (by decide)) k5 (passes_call (takes_of rfl rfl rfl rfl) fun _ _ _ _ h => h) (pk_cons (pe_ix (ixK isk) (pv 6) pe_int (fun _ _ => rfl)) (pk_cons (pv 4) pk_nil))))) pa_nil)))
      (pss_cons (ps_if (PW.pt (pw_or (pt_cmpR (neK isk hr) (pv 8) (pe_op op_rep (pe_lst (pa_cons (pe_dn S.DS hr (by rfl) (by decide) (pa_cons (pv 5) pa_nil)) pa_nil)) pe_int) (by rfl)) (pw_or1 (pt_cmpR op_ne (pe_callB (RX.call_reprRx (d := 4) hG (hr.mono (by decide))) rfl (fr.h _ (by decide +kernel)) (by decide +kernel) (pa_cons (pv 6) pa_nil)) (pv 7) (nomark _))))) (pss_one (ps_ret pe_bl)) pss_nil)
      (pss_cons (ps_if (pt_cmpR op_isN (pv 5) pe_non (nomark _)) (pss_one (ps_ret pe_bl)) pss_nil)
      (pss_cons (ps_dput hu (pe_ix (ixK isk) (pv 6) pe_int (fun _ _ => rfl)) (pv 4) (pe_woM (A := A) (Z := Z) (CT := CT) (CP := CP) (CL := CL) (E := E0) (i := 2) (pe_meth (E := E0) (pv 2) S.rm.wT.cl m4 F4 (hr.mono (by decide)) b4 .nil (passes_call takes0 fun _ _ _ _ h => h) (pa_cons (pv 4) (pa_cons (pe_ix (ixK isk) (pv 6) pe_int (fun _ _ => rfl)) pa_nil))) (pe_meth (E := E0) (pv 2) S.rm.wP.cl m5 F5 (hr.mono (by decide)) b5 .nil (passes_call takes0 fun _ _ _ _ h => h) (pa_cons (pv 4) (pa_cons (pe_ix (ixK isk) (pv 6) pe_int (fun _ _ => rfl)) pa_nil)))) rfl)
      (pss_cons (ps_if (pt_cmpR op_notBl (pe_trM (A := A) (CT := CT) (CP := CP) (CL := CL) (i := 2) (pe_meth (E := E0) (pv 2) c1 m1 F1 (hr.mono (by decide)) b1 .nil pass0 (pa_cons (pe_ix (ixK isk) (pv 6) pe_int (fun _ _ => rfl)) pa_nil)) (pe_meth (E := E0) (pv 2) c2 m2 F2 (hr.mono (by decide)) b2 .nil pass0 (pa_cons (pe_ix (ixK isk) (pv 6) pe_int (fun _ _ => rfl)) pa_nil)) (pe_meth (E := E0) (pv 2) c3 m3 F3 (hr.mono (by decide)) b3 .nil pass0 (pa_cons (pe_ix (ixK isk) (pv 6) pe_int (fun _ _ => rfl)) pa_nil))) pe_bl (nomark _)) (pss_one (ps_ret pe_bl)) pss_nil)
      (pss_cons (ps_dput hu (pe_ix (ixK isk) (pv 6) pe_int (fun _ _ => rfl)) (pv 4) (pe_op (op_NN (.inl rfl) S.Ad (hr.mono (by decide))) (pe_dget hu (pe_ix (ixK isk) (pv 6) pe_int (fun _ _ => rfl)) (pv 4) (fun _ _ => rfl)) (pe_dn S.DK hr (by rfl) (by decide) (pa_cons (pv 0) (pa_cons (pe_lst (pa_cons pe_int (pa_cons (pe_un un_neg pe_int) (pa_cons (pe_mk2 B (hr.mono (by decide)) rfl (pa_cons pe_int (pa_cons (pe_op op_pow pe_int pe_int) pa_nil))) pa_nil)))) pa_nil)))) rfl)
      (pss_one (ps_ret (pe_cmpR op_isBl (pe_trK (A := A) (CT := CT) (CP := CP) (CL := CL) (i := 2) (pe_methK (E := E0) (pv 2) c1 m1 F1 (hr.mono (by decide)) k1 pass0 (pk_cons (pe_ix (ixK isk) (pv 6) pe_int (fun _ _ => rfl)) pk_nil)) (pe_methK (E := E0) (pv 2) c2 m2 F2 (hr.mono (by decide)) k2 pass0 (pk_cons (pe_ix (ixK isk) (pv 6) pe_int (fun _ _ => rfl)) pk_nil)) (pe_methK (E := E0) (pv 2) c3 m3 F3 (hr.mono (by decide)) k3 pass0 (pk_cons (pe_ix (ixK isk) (pv 6) pe_int (fun _ _ => rfl)) pk_nil))) pe_bl (nomark _))))))))))))), ?_⟩
    have ok := tg.ok
    have hyi := ok.oi y hy
    have sz1 : (1 : Nat) ≤ sizeLine := by decide
    have big : (1000000 : Nat) ≤ sizeLine := by decide
    have lowD : ∀ v, dueQ td y g = some v → Low 768 v := fun v h => due_low ok tg.sm tg.l4 (fun x hx => tg.low x (tg.sub x hx)) hyi h
    have loi : ∀ x ∈ td.ins, Low 40 (g x) := fun x hx => tg.low x (tg.sub x hx)
    have oe : oth xs "" = xs := oth_emp sps.nm
    refine ⟨_, rfl, _, rfl, _, rfl, t, a, y, td, os, xs, g, rfl, tg, hyi, due_at fun dv H1 e1 hdv => ?_⟩
    have p1 : Pot H1 p := by
      obtain ⟨u, v, q, w⟩ := hp
      exact ⟨u, v, e1 _ _ q, w⟩
    have pd1 := tg.pd.ext e1
    refine ⟨_, rfl, _, rfl, p, a, "", xs, g, rfl, p1, pd1, sps.nd, sps.nz, by have := sps.few; omega, tg.low, fun D1 H2 q1 kp2 n1 D1p lq1 pas1 => ?_⟩
    have hd2 := Hd.kt (Kp.kt kp2) p1
    refine ⟨_, rfl, _, rfl, _, rfl, p, a, y, xs, g, rfl, kp2.pot, pd1.hd hd2, sps.nd, sps.nz, by have := sps.few; omega, tg.low, fun D2 H3 q2 kp3 n2 D2p lq2 pas2 => ⟨(by show 2 ≤ sizeLine; decide), fun L hL => ?_⟩⟩
    have hd3 := Hd.kt (Kp.kt kp3) kp2.pot
    have eL := Am.Ext.new (o := .lst [V.ref D1, .ref D2]) hL
    have hLv : upd H3 L (.lst [V.ref D1, .ref D2]) L = some (.lst [.ref D1, .ref D2]) := upd_same
    have nD1 : H D1 = none := e1.gone n1
    have nD2 : H D2 = none := e1.gone (kp2.gone D2p n2)
    have D12 : D1 ≠ D2 := fun e => by
      obtain ⟨kv, h1, _⟩ := pas1
      rw [e, n2] at h1
      cases h1
    have Lp := ne_pot kp3.pot hL
    have nL : H L = none := e1.gone (kp2.gone Lp (kp3.gone Lp hL))
    have ktL : KT p H (upd H3 L (.lst [V.ref D1, .ref D2])) := KT.trans (Kp.kt (((Kp.ext hp e1).trans kp2).trans kp3)) (Kp.kt (Kp.new kp3.pot hL))
    have TL : LamX.Tabs T (upd H3 L (.lst [V.ref D1, .ref D2])) := (tabs_kp (tabs_kp (hT.ext e1) p1 kp2) kp2.pot kp3).ext eL
    have hdL : Hd H3 (upd H3 L (.lst [V.ref D1, .ref D2])) := Hd.ext eL
    have pas1L := (pas1.hd hd3).hd hdL
    have pas2L := pas2.hd hdL
    have dvL : DueV (upd H3 L (.lst [V.ref D1, .ref D2])) dv (dueQ td y g) := by
      cases e : dueQ td y g with
      | none => rw [e] at hdv; exact hdv
      | some v =>
        rw [e] at hdv
        obtain ⟨tt, a1, a2⟩ := hdv
        exact ⟨tt, a1, Fr2.hd ((hd2.trans hd3).trans hdL) a2⟩
    clear eL hdL pas1 pas2 hdv hd3 hd2
    generalize upd H3 L (.lst [V.ref D1, .ref D2]) = H4 at hLv ktL TL pas1L pas2L dvL ⊢
    obtain ⟨kv1, d1, r1⟩ := pas1L
    obtain ⟨kv2, d2, r2⟩ := pas2L
    have m1' := pasY_nm (gone := "") (g := g) sps lq1 tg.low
    have m2' := pasY_nm (gone := y) (g := g) sps lq2 tg.low
    refine ⟨_, rfl, ?_⟩
    dsimp only [L2.tNil]
    refine two_shown S.R hLv d1 d2 r1 r2 m1' m2' (pasY_few sps) (pasY_few sps) fun H5 e5 => ?_
    have k5 : KT p H H5 := ktL.trans (pot_xn ktL.2 (LamX.ExtN.of e5))
    have irG : IsRule A CT CP CL H5 r td os := ir.hd (Hd.kt k5 hp)
    have d1G := e5 _ _ d1
    have d2G := e5 _ _ d2
    have r1G : PasR A H5 kv1 (pasY q1 xs "" g) := r1.hd (Hd.ext e5)
    have r2G : PasR A H5 kv2 (pasY q2 xs y g) := r2.hd (Hd.ext e5)
    have nu1 : NumD A H5 D1 xs g := by
      have := PasD.num (A := A) (H := H5) (D := D1) sps.nz ⟨kv1, d1G, r1G⟩
      rw [oe] at this
      exact this
    have nu2 : NumD A H5 D2 (oth xs y) g := PasD.num sps.nz ⟨kv2, d2G, r2G⟩
    have LG := e5 _ _ hLv
    have T5 := TL.ext e5
    have dvG : DueV H5 dv (dueQ td y g) := by
      cases e : dueQ td y g with
      | none => rw [e] at dvL; exact dvL
      | some v =>
        rw [e] at dvL
        obtain ⟨tt, a1, a2⟩ := dvL
        exact ⟨tt, a1, e5 _ _ a2⟩
    clear e5 TL d1 d2 r1 r2 hLv dvL ktL
    have wo1 : ∀ {H6 : Hp} {E : XK} {Q' : VK}, Hd H5 H6 → DueP A Z H6 Q' E (dueQ td y g) → spWo A Z CT CP td [.ref r, .str y, .ref D1] H6 Q' E := fun hd h => wo_sp (K := K) (irG.hd hd) ok tg.sm tg.nl tg.l4 hy ((nu1.hd hd).sub fun x hx => tg.sub x (oth_mem.mp hx).1) loi h
    have wo2 : ∀ {H6 : Hp} {E : XK} {Q' : VK}, Hd H5 H6 → DueP A Z H6 Q' E (dueQ td y g) → spWo A Z CT CP td [.ref r, .str y, .ref D2] H6 Q' E := fun hd h => wo_sp (K := K) (irG.hd hd) ok tg.sm tg.nl tg.l4 hy ((nu2.hd hd).sub fun x hx => oth_mem.mpr ⟨tg.sub x (oth_mem.mp hx).1, (oth_mem.mp hx).2⟩) loi h
    have a0 : atI [V.ref D1, V.ref D2] ((0 : Nat) : Int) = some (V.ref D1) := atI_nat (j := 0) rfl
    have a1 : atI [V.ref D1, V.ref D2] ((1 : Nat) : Int) = some (V.ref D2) := atI_nat (j := 1) rfl
    have low3 : ∀ v, dueQ td y g = some v → Low 3000 v := fun v h => (lowD v h).more (by decide)
    refine ⟨T5, fun H6 n6 T6 => told_d (fun E Q' hd => ⟨r, td, os, rfl, irG.hd (Hd.xn n6), tg.nl, _, rfl, _, rfl, .inl ⟨L, _, 0, _, rfl, rfl, SqL.of (n6 _ _ LG (fun _ => HO.noConfusion)), a0, wo1 (Hd.xn n6) hd⟩⟩) low3 fun H7 e7 => ⟨sz1, fun T1 hT1 => ?_⟩⟩
    have n7 := n6.trans (LamX.ExtN.of e7)
    have nT1 : ∀ o, (∀ ps, o ≠ .tbl ps) → H5 T1 ≠ some o := fun o k hz => by
      have hz' := n7 _ _ hz k
      rw [hT1] at hz'
      cases hz'
    have n8 := n7.trans (LamX.ExtN.of (Am.Ext.new (o := .lst [V.str (dueS (dueQ td y g))]) hT1))
    have T8 := (T6.ext e7).ext (Am.Ext.new (o := .lst [V.str (dueS (dueQ td y g))]) hT1)
    have hT8 : upd H7 T1 (.lst [V.str (dueS (dueQ td y g))]) T1 = some (.lst [V.str (dueS (dueQ td y g))]) := upd_same
    generalize upd H7 T1 (.lst [V.str (dueS (dueQ td y g))]) = H8 at n8 T8 hT8 ⊢
    clear hT1 n7 e7 T6 n6
    refine ⟨_, rfl, tyL hT8, T8, fun H9 n9 T9 => told_d (fun E Q' hd => ⟨r, td, os, rfl, irG.hd (Hd.xn (n8.trans n9)), tg.nl, _, rfl, .inl ⟨L, _, 1, _, rfl, rfl, SqL.of ((n8.trans n9) _ _ LG (fun _ => HO.noConfusion)), a1, _, rfl, rfl, wo2 (Hd.xn (n8.trans n9)) hd⟩⟩) low3 fun H10 e10 => ⟨T1, _, _, rfl, rfl, e10 _ _ (n9 _ _ hT8 fun _ => HO.noConfusion), (by show 1 < sizeLine; omega), ?_⟩⟩
    have hT10 := e10 _ _ (n9 _ _ hT8 fun _ => HO.noConfusion)
    have n11 := xn_put (o := .lst ([V.str (dueS (dueQ td y g))] ++ [V.str (dueS (dueQ td y g))])) ((n8.trans n9).trans (LamX.ExtN.of e10)) nT1
    have T11 := tabs_put (o := .lst ([V.str (dueS (dueQ td y g))] ++ [V.str (dueS (dueQ td y g))])) (T9.ext e10) hT10
    have hT11 : upd H10 T1 (.lst ([V.str (dueS (dueQ td y g))] ++ [V.str (dueS (dueQ td y g))])) T1 = some (.lst [V.str (dueS (dueQ td y g)), V.str (dueS (dueQ td y g))]) := upd_same
    generalize upd H10 T1 (.lst ([V.str (dueS (dueQ td y g))] ++ [V.str (dueS (dueQ td y g))])) = H11 at n11 T11 hT11 ⊢
    clear hT10 e10 T9 n9 hT8 T8 n8
    refine ⟨_, rfl, _, rfl, ?_⟩
    dsimp only [L2.tNil]
    refine shape_at (H := H11) (v := dv) (DueV.hd (Hd.xn n11) dvG) lowD ⟨sz1, fun M hM => ⟨M, 2, _, rfl, rfl, upd_same, by decide, by decide, (by show 2 ≤ sizeLine; omega), fun N hN => .inr (ned_same (xs := [V.str (dueS (dueQ td y g)), V.str (dueS (dueQ td y g))]) (SqL.of (((Am.Ext.new hM).trans (Am.Ext.new hN)) _ _ hT11)) (SqL.of upd_same) (dp_strs [dueS (dueQ td y g), dueS (dueQ td y g)]) (shaped_strs fun x m => ?_) ⟨_, rfl, iteF ?_⟩)⟩⟩
    · simp only [List.mem_cons, List.not_mem_nil, or_false, or_self] at m
      rw [m]
      exact sok_due _
    have eN := (Am.Ext.new (o := .lst [V.str (dueS (dueQ td y g))]) hM).trans (Am.Ext.new (o := .lst (List.replicate (2 : Int).toNat [V.str (dueS (dueQ td y g))]).flatten) hN)
    have n12 := n11.trans (LamX.ExtN.of eN)
    have T12 := T11.ext eN
    generalize upd (upd H11 M (.lst [V.str (dueS (dueQ td y g))])) N (.lst (List.replicate (2 : Int).toNat [V.str (dueS (dueQ td y g))]).flatten) = H12 at n12 T12 ⊢
    clear eN hM hN n11 T11 hT11
    refine ⟨_, rfl, ?_⟩
    dsimp only [L2.tNil]
    refine two_shown S.R (n12 _ _ LG (fun _ => HO.noConfusion)) (n12 _ _ d1G (fun _ => HO.noConfusion)) (n12 _ _ d2G (fun _ => HO.noConfusion)) (r1G.hd (Hd.xn n12)) (r2G.hd (Hd.xn n12)) m1' m2' (pasY_few sps) (pasY_few sps) fun H13 e13 => ?_
    refine ⟨_, rfl, ne_str _ ⟨_, rfl, iteF ?_⟩⟩
    have n13 := n12.trans (LamX.ExtN.of e13)
    have T13 := T12.ext e13
    have k13 : KT p H H13 := k5.trans (pot_xn k5.2 n13)
    clear e13 n12 T12
    cases e : dueQ td y g with
    | none =>
      rw [e] at dvG
      have dvG' : dv = .non := dvG
      subst dvG'
      exact ⟨_, rfl, rfl, _, rfl, iteT (z H13 k13 T13)⟩
    | some v =>
      rw [e] at dvG
      obtain ⟨tt, rfl, _⟩ := dvG
      have lv := lowD v e
      refine ⟨_, rfl, rfl, _, rfl, iteF ?_⟩
      have wo2' : ∀ {H6 : Hp} {E : XK} {Q' : VK}, Hd H5 H6 → New A H6 Q' v → spWo A Z CT CP td [.ref r, .str y, .ref D2] H6 Q' E := fun hd h => wo2 hd (by rw [e]; exact h)
      refine ⟨r, td, os, rfl, irG.hd (Hd.xn n13), tg.nl, _, rfl, _, rfl, .inl ⟨L, _, 1, _, rfl, rfl, SqL.of (n13 _ _ LG (fun _ => HO.noConfusion)), a1, ?_⟩⟩
      dsimp only [L2.tNil]
      refine wo2' (Hd.xn n13) fun r0 H14 e14 n14 i14 => ?_
      have n14' := n13.trans (LamX.ExtN.of e14)
      have L14 := n14' _ _ LG (fun _ => HO.noConfusion)
      have d14 := n14' _ _ d1G (fun _ => HO.noConfusion)
      have k14 : KT p H H14 := k13.trans (pot_xn k13.2 (LamX.ExtN.of e14))
      have T14 := T13.ext e14
      have lk : kv1.length ≤ 20 := by rw [(pas_len r1G).2]; exact pasY_few sps
      refine ⟨_, rfl, .inl ⟨L, _, 0, _, rfl, rfl, SqL.of L14, a0, _, rfl, D1, _, rfl, DPut.k (k := (Sum.inr y : Key)) d14 (by omega), ?_⟩⟩
      have nu15 := NumD.put (ys := xs) (y := y) (nu1.hd (Hd.xn n14')) d14 (Num.is i14) (fun x hx => .inr hx)
      have k15 : KT p H (upd H14 D1 (.dK (putK kv1 (Sum.inr y : Key) (V.ref r0)))) := kt_over k14 D1p nD1
      have T15 := tabs_putD (o := .dK (putK kv1 (Sum.inr y : Key) (V.ref r0))) T14 d14
      have L15 : upd H14 D1 (.dK (putK kv1 (Sum.inr y : Key) (V.ref r0))) L = some (.lst [.ref D1, .ref D2]) := by rw [upd_ne (ne_of L14 d14 (fun e => nomatch e))]; exact L14
      have d15 : upd H14 D1 (.dK (putK kv1 (Sum.inr y : Key) (V.ref r0))) D1 = some (.dK (putK kv1 (Sum.inr y : Key) (V.ref r0))) := upd_same
      have v15 : valV (putK kv1 (Sum.inr y : Key) (V.ref r0)) (Sum.inr y : Key) = some (V.ref r0) := by rw [valV_put, if_pos rfl]
      have l15 : (putK kv1 (Sum.inr y : Key) (V.ref r0)).length ≤ 21 := Nat.le_trans (length_putK _ _ _) (by omega)
      have i15 : Is A (upd H14 D1 (.dK (putK kv1 (Sum.inr y : Key) (V.ref r0)))) r0 v := by
        obtain ⟨dx, i⟩ := i14
        exact ⟨dx, by rw [upd_ne (ne_of i d14 (fun z => nomatch z))]; exact i⟩
      generalize upd H14 D1 (.dK (putK kv1 (Sum.inr y : Key) (V.ref r0))) = H15 at nu15 k15 T15 L15 d15 i15 ⊢
      generalize putK kv1 (Sum.inr y : Key) (V.ref r0) = kv15 at d15 v15 l15
      have ir15 := ir.hd (Hd.kt k15 hp)
      have lput : ∀ {u : Rat}, Low 800 u → ∀ x ∈ td.ins, Low 800 (KD.put g y u x) := fun {u} lu x hx => by
        by_cases c : x = y
        · rw [c, put_same]; exact lu
        · rw [put_off c]; exact (loi x hx).more (by decide)
      have so1 : soB td (KD.put g y v) = true := by
        have := so_put ok tg.nl hyi e 0
        rw [Rat.add_zero] at this
        rw [this]
        rfl
      refine ⟨r, td, os, rfl, ir15, _, rfl, .inl ⟨L, _, 0, _, rfl, rfl, SqL.of L15, a0, ?_⟩⟩
      dsimp only [L2.tNil]
      refine tr_sp (K := K) ir15 ok tg.sm tg.l4 (nu15.sub tg.sub) (lput (lv.more (by decide))) fun H16 e16 => ⟨_, _, rfl, rfl, _, rfl, ?_⟩
      rw [so1]
      refine iteF ?_
      have L16 := e16 _ _ L15
      have d16 := e16 _ _ d15
      have g16 : DGet H16 D1 (.str y) (some (V.ref r0)) := by
        have := DGet.k (k := (Sum.inr y : Key)) d16
        rw [v15] at this
        exact this
      have k16 : KT p H H16 := k15.trans (pot_xn k15.2 (LamX.ExtN.of e16))
      have T16 := T15.ext e16
      refine ⟨_, rfl, .inl ⟨L, _, 0, _, rfl, rfl, SqL.of L16, a0, _, rfl, D1, _, rfl, g16, _, rfl, 1, rfl, 10, 9, rfl, rfl, ⟨by decide, by decide, by decide⟩, _, _, rfl, by decide, Nat.lt_trans (show (1 : Int).natAbs < 2 ^ 1 by decide) (Nat.pow_lt_pow_right (by decide) (by decide)), Nat.lt_trans (show ((10 : Int) ^ (9 : Int).toNat).natAbs < 2 ^ 40 by decide) (Nat.pow_lt_pow_right (by decide) (by decide)), fun rr H17 e17 n17 i17 => ⟨(by show 3 ≤ sizeLine; omega), fun M hM => ?_⟩⟩⟩
      have k17 : KT p H H17 := k16.trans (pot_xn k16.2 (LamX.ExtN.of e17))
      have eM := Am.Ext.new (o := .lst [V.int 1, .int (-1), .ref rr]) hM
      refine ⟨p, M, _, rfl, k17.2.new hM, ne_pot k17.2 hM, SqL.of upd_same, (fun z => by cases z), (by show 3 ≤ 1000000; decide), fun x H18 hx kp18 => ?_⟩
      have k17M : KT p H (upd H17 M (.lst [V.int 1, .int (-1), .ref rr])) := k17.trans (pot_xn k17.2 (LamX.ExtN.of eM))
      have k18 := k17M.trans (Kp.kt kp18)
      have hd18 := Hd.kt (Kp.kt kp18) k17M.2
      have e168 : Hd H16 H18 := ((Hd.ext e17).trans (Hd.ext eM)).trans hd18
      have num : ∃ δ : Rat, Num A H18 x δ ∧ δ ≠ 0 ∧ Low 31 δ := by
        simp only [List.mem_cons, List.not_mem_nil, or_false] at hx
        rcases hx with rfl | rfl | rfl
        · exact ⟨_, Num.int 1, by decide, low_int (by decide) (by decide)⟩
        · exact ⟨_, Num.int (-1), by decide, low_int (by decide) (by decide)⟩
        · exact ⟨_, Num.is (Is.hd hd18 (i17.ext eM)), by decide +kernel, ⟨by decide +kernel, by decide +kernel⟩⟩
      obtain ⟨δ, nδ, δ0, lδ⟩ := num
      have Mp := ne_pot k17.2 hM
      have L18 : H18 L = some (.lst [.ref D1, .ref D2]) := kp18.at Lp (eM _ _ (e17 _ _ L16))
      have d18 := e168 _ _ d16 (fun _ z => nomatch z) (fun _ z => nomatch z)
      have T18 := tabs_kp ((T16.ext e17).ext eM) k17M.2 kp18
      have lvd := Low.add lv lδ
      refine ⟨v, δ, Num.is (Is.hd e168 (i15.ext e16)), nδ, .inl ⟨r0, rfl⟩, low_sz (lv.more (by decide)) (Nat.le_refl 4000), low_sz (lδ.more (by decide)) (Nat.le_refl 4000), fun r1 H19 e19 n19 i19 => ?_⟩
      have L19 := e19 _ _ L18
      have d19 := e19 _ _ d18
      have k19 : KT p H H19 := k18.trans (pot_xn k18.2 (LamX.ExtN.of e19))
      have nu19 := ((nu15.ext e16).hd e168).ext e19
      refine ⟨_, rfl, .inl ⟨L, _, 0, _, rfl, rfl, SqL.of L19, a0, _, rfl, D1, _, rfl, DPut.k (k := (Sum.inr y : Key)) d19 (by omega), ?_⟩⟩
      have nu20 := NumD.put (ys := xs) (y := y) nu19 d19 (Num.is i19) (fun x hx => .inr hx)
      have k20 : KT p H (upd H19 D1 (.dK (putK kv15 (Sum.inr y : Key) (V.ref r1)))) := kt_over k19 D1p nD1
      have T20 := tabs_putD (o := .dK (putK kv15 (Sum.inr y : Key) (V.ref r1))) (T18.ext e19) d19
      have L20 : upd H19 D1 (.dK (putK kv15 (Sum.inr y : Key) (V.ref r1))) L = some (.lst [.ref D1, .ref D2]) := by rw [upd_ne (ne_of L19 d19 (fun e => nomatch e))]; exact L19
      rw [put_put] at nu20
      generalize upd H19 D1 (.dK (putK kv15 (Sum.inr y : Key) (V.ref r1))) = H20 at nu20 k20 T20 L20 ⊢
      have ir20 := ir.hd (Hd.kt k20 hp)
      have so2 : soB td (KD.put g y (v + δ)) = false := by
        rw [so_put ok tg.nl hyi e δ]
        exact decide_eq_false δ0
      refine ⟨r, td, os, rfl, ir20, _, rfl, .inl ⟨L, _, 0, _, rfl, rfl, SqL.of L20, a0, rfl, ?_⟩⟩
      refine tr_sp (K := K) ir20 ok tg.sm tg.l4 (nu20.sub tg.sub) (lput (lvd.more (by decide))) fun H21 e21 => ⟨_, _, rfl, rfl, ?_⟩
      rw [so2]
      exact z H21 (k20.trans (pot_xn k20.2 (LamX.ExtN.of e21))) (T20.ext e21)
end
end KD

set_option Elab.async false
set_option linter.all false
set_option maxRecDepth 100000
set_option maxHeartbeats 2000000
set_option exponentiation.threshold 20000
/-! _law_tie_right. -/
namespace KD
open PySem PySem.Spec PyProof.Rows L2 Oo Gd Am KA SqX
theorem merge_kv : ∀ (ls ks : List (Key × V)), (ls.map (·.1)).Nodup → (∀ p ∈ ls, p.1 ∉ ks.map (·.1)) → mergeK ks ls = ks ++ ls
  | [], ks, _, _ => by rw [List.append_nil]; rfl
  | p :: ls, ks, nd, off => by
    have nd' := List.nodup_cons.mp nd
    have e : putK ks p.1 p.2 = ks ++ [p] := by rw [putK_new _ (valV_out (off p List.mem_cons_self))]
    show mergeK (putK ks p.1 p.2) ls = _
    rw [e, merge_kv ls (ks ++ [p]) nd'.2 fun q hq hm => ?_, List.append_assoc]
    · rfl
    · rw [List.map_append, List.mem_append] at hm
      rcases hm with hm | hm
      · exact off q (List.mem_cons_of_mem _ hq) hm
      · rw [List.map_cons, List.map_nil, List.mem_singleton] at hm
        exact nd'.1 (by show p.1 ∈ _; rw [← hm]; exact List.mem_map_of_mem (f := fun x : Key × V => x.1) hq)
/-- pairs of spots and fractions -/
def PzR (H : Hp) (z : Addr × Addr × Rat) (x : Str) : Prop := H z.1 = some (.tup [.str x, .ref z.2.1]) ∧ Fr2 H z.2.1 z.2.2 ∧ Low 40 z.2.2
def kvsOf (zs : List (Addr × Addr × Rat)) (xs : List Str) : List (Key × V) := List.zipWith (fun z x => ((Sum.inr x : Key), V.ref z.2.1)) zs xs
def gOf : List (Addr × Addr × Rat) → List Str → Str → Rat
  | z :: zs, x :: xs, y => if y = x then z.2.2 else gOf zs xs y
  | _, _, _ => 0
theorem pz_mono {H H' : Hp} (f : ∀ (a : Addr) (us : List V), H a = some (.tup us) → H' a = some (.tup us)) : ∀ {zs : List (Addr × Addr × Rat)} {xs : List Str}, Paired (PzR H) zs xs → Paired (PzR H') zs xs
  | _, _, .nil => .nil
  | _, _, .cons ⟨a, b, c⟩ r => .cons ⟨f _ _ a, f _ _ b, c⟩ (pz_mono f r)
theorem pz_snoc {H : Hp} {z : Addr × Addr × Rat} {x : Str} (h : PzR H z x) : ∀ {zs : List (Addr × Addr × Rat)} {xs : List Str}, Paired (PzR H) zs xs → Paired (PzR H) (zs ++ [z]) (xs ++ [x])
  | _, _, .nil => .cons h .nil
  | _, _, .cons a r => .cons a (pz_snoc h r)
theorem kvs_keys {H : Hp} : ∀ {zs : List (Addr × Addr × Rat)} {xs : List Str}, Paired (PzR H) zs xs → (kvsOf zs xs).map (·.1) = xs.map (Sum.inr : Str → Key)
  | _, _, .nil => rfl
  | _, _, .cons _ r => by
    show (_ :: kvsOf _ _).map _ = _
    rw [List.map_cons, List.map_cons, kvs_keys r]
theorem kvs_prs {K : W.Frag} {H : Hp} : ∀ {zs : List (Addr × Addr × Rat)} {xs : List Str}, Paired (PzR H) zs xs → Paired (fun (p : Addr) (kv : Key × V) => SqT K H p [kV kv.1, kv.2]) (zs.map (·.1)) (kvsOf zs xs)
  | _, _, .nil => .nil
  | _, _, .cons ⟨a, _⟩ r => .cons (SqT.of a) (kvs_prs r)
theorem g_low {H : Hp} : ∀ {zs : List (Addr × Addr × Rat)} {xs : List Str}, Paired (PzR H) zs xs → ∀ y, Low 40 (gOf zs xs y)
  | _, _, .nil, y => ⟨by show (0 : Nat) < _; decide, by show (1 : Nat) < _; decide⟩
  | z :: zs, x :: xs, .cons ⟨_, _, c⟩ r, y => by
    show Low 40 (if y = x then z.2.2 else gOf zs xs y)
    by_cases e : y = x
    · rw [if_pos e]; exact c
    · rw [if_neg e]; exact g_low r y
theorem prt_cong {H : Hp} {g h : Str → Rat} : ∀ {kvs : List (Key × V)} {xs : List Str}, Paired (fun (p : Key × V) (x : Str) => ∃ t : Addr, p = ((Sum.inr x : Key), V.ref t) ∧ Fr2 H t (g x)) kvs xs → (∀ x ∈ xs, g x = h x) → Paired (fun (p : Key × V) (x : Str) => ∃ t : Addr, p = ((Sum.inr x : Key), V.ref t) ∧ Fr2 H t (h x)) kvs xs
  | _, _, .nil, _ => .nil
  | _, _, .cons ⟨t, a, b⟩ r, e => .cons ⟨t, a, by rw [← e _ List.mem_cons_self]; exact b⟩ (prt_cong r fun x hx => e x (List.mem_cons_of_mem _ hx))
theorem prt_of {H : Hp} : ∀ {zs : List (Addr × Addr × Rat)} {xs : List Str}, Paired (PzR H) zs xs → xs.Nodup → Paired (fun (p : Key × V) (x : Str) => ∃ t : Addr, p = ((Sum.inr x : Key), V.ref t) ∧ Fr2 H t (gOf zs xs x)) (kvsOf zs xs) xs
  | _, _, .nil, _ => .nil
  | z :: zs, x :: xs, .cons ⟨_, b, _⟩ r, nd => by
    have nd' := List.nodup_cons.mp nd
    refine .cons ⟨z.2.1, rfl, ?_⟩ ?_
    · show Fr2 H z.2.1 (if x = x then z.2.2 else gOf zs xs x)
      rw [if_pos rfl]
      exact b
    · refine prt_cong (prt_of r nd'.2) fun y hy => ?_
      show _ = (if y = x then z.2.2 else gOf zs xs y)
      rw [if_neg fun e => nd'.1 (by rw [← e]; exact hy)]
def bT (b : Bool) : Str := if b then "True" else "False"
theorem rep_bl {H : Hp} {Q : VK} (b : Bool) (z : Q (.str (bT b)) H) : rRepr [.bl b] H Q := ⟨.bl b, [], 0, _, rfl, .bl b, by decide, by cases b <;> decide, z⟩
theorem bl_len (b : Bool) : (if b then ("True" : Str) else "False").length ≤ sizeLine := by cases b <;> decide
theorem ifn_yes {a : Str} {A B : Prop} (h : B) : if (!decide (V.str a = V.str a)) = true then A else B := by
  rw [decide_eq_true rfl]
  exact h
theorem ifn_no {c : Bool} {A B : Prop} (hc : ¬ (c = true)) (h : A) : if (!c) = true then A else B := by
  rw [if_pos (by simpa using hc)]
  exact h
theorem tie_head {H : Hp} {t : Addr} {td : TD} {os : List Str} (h : TieAt H t td os) (nl : isLo td = false) : ∃ (po : Addr) (s : Str) (v1 v2 : V), Ls H po os ∧ H t = some (.tup [.str s, v1, v2, .ref po]) ∧ ¬ (decide (V.str s = V.str "loose") = true) := by
  obtain ⟨po, ho, h⟩ := h
  cases td with
  | loo xs => exact nomatch nl
  | sum ls q => obtain ⟨pl, ps, pq, a, b, c, d⟩ := h; exact ⟨po, _, _, _, ho, d, s_sl⟩
  | pro xs ys q => obtain ⟨pp, px, py, pq, a, b, c, d, f⟩ := h; exact ⟨po, _, _, _, ho, f, s_pl⟩
theorem tie_loo {H : Hp} {t : Addr} {td : TD} {os : List Str} (h : TieAt H t td os) (nl : isLo td = true) : ∃ (v1 v2 v3 : V), H t = some (.tup [.str "loose", v1, v2, v3]) := by
  obtain ⟨po, ho, h⟩ := h
  cases td with
  | loo xs => obtain ⟨px, a, b⟩ := h; exact ⟨_, _, _, b⟩
  | sum ls q => exact nomatch nl
  | pro xs ys q => exact nomatch nl
theorem all_rep (n : Nat) : (List.replicate n true).all id = true := by
  rw [List.all_eq_true]
  intro x h
  exact List.eq_of_mem_replicate h
section
variable {P : Program} {w : World} {K : W.Frag} {mg : Str → Option Value} {base : Heap} {f c pp A C Z ZA CT CP CL : Addr} {fd : FuncData} {T : List (Addr × Str)}
/-- what tie_right asks -/
structure TR (P : Program) (w : World) (K : W.Frag) (mg : Str → Option Value) (base : Heap) (A Z ZA CT CP CL : Addr) (T : List (Addr × Str)) : Prop where
  fr : Frees mg
  DR : Dn P w K mg base CX0 7 "_law_rule" ["_law_tie_here"] (spRule A CT CP CL)
  DQ : Dn P w K mg base CX0 2 "_law_part" ["_law_pot_here"] spPrt
  DP : Dn P w K mg base CX0 4 "_law_passed" ["_law_pot_here", "_law_parts", "_law_gone"] (spPas A)
  DI : Dn P w K mg base CX0 4 "_law_is_so" ["_law_tie_here", "_law_parts"] spIsSo
  rm : RM P w K mg base A Z CT CP CL
  DW : DnG P w K mg base 13 "_law_way_right" ["_law_pot_here", "_law_tie_here", "_law_rule_here", "_law_parts", "_law_spot"] (spWay A CT CP CL T)
def spTie2 (T : List (Addr × Str)) : Sp := fun vs H Q _ => ∃ (p a t : Addr) (spots : List Str) (td : TD) (os : List Str), vs = [.ref p, .ref a, .ref t] ∧ Pot H p ∧ Ls H a spots ∧ Sps spots ∧ TieAt H t td os ∧ TdOk td os ∧ Sm td ∧ (∀ x ∈ td.ins, x ∈ spots) ∧ td.ins.length ≤ 4 ∧ LamX.Tabs T H ∧
  ∀ H', KT p H H' → LamX.Tabs T H' → Q (.bl true) H'
abbrev nTie2 : List Str := ["_law_pot_here", "_law_spots", "_law_tie_here", "_law_rule_here", "_law_turn", "_law_parts", "_law_passed_here", "_law_due_here", "_law_spot"]
theorem scTie2 : FnScope nTie2 ["_law_pot_here", "_law_spots", "_law_tie_here"] (defScope (top 72)) := ⟨rfl, rfl, rfl, by decide +kernel, rfl, by decide +kernel, by decide +kernel⟩
theorem ok_tie2 (S : TR P w K mg base A Z ZA CT CP CL T) (F : Fun K "_law_tie_right" "_law_tie_right" (top 72) f fd) : FnG P w K mg base CX0 14 f fd ["_law_pot_here", "_law_spots", "_law_tie_here"] (spTie2 T) := by
  refine Gd.okG F scTie2 (fun vs H Q E h => ?_) (fun cdv A' outer s H vs Q E hG hr h => ?_)
  · obtain ⟨p, a, t, spots, td, os, rfl, _⟩ := h
    rfl
  · obtain ⟨p, a, t, spots, td, os, rfl, hp, ha, sps, ht, ok, sm, sub, l4, hT, z⟩ := h
    have nd := scTie2.nd
    have fr := S.fr
    have isk : IsK K := ⟨trivial⟩
    obtain ⟨f1, fd1, m1, F1, b1, k1⟩ := S.rm.tT.of
    obtain ⟨f2, fd2, m2, F2, b2, k2⟩ := S.rm.tP.of
    obtain ⟨f3, fd3, m3, F3, b3, k3⟩ := S.rm.tL.of
    have c1 := S.rm.tT.cl
    have c2 := S.rm.tP.cl
    have c3 := S.rm.tL.cl
    refine ⟨_, pss_cons (ps_set (i := 3) nd rfl (.inr rfl) (pe_dn S.DR hr (by rfl) (by decide) (pa_cons (pv 2) pa_nil)))
      (pss_cons (ps_for PassesOwn.never rfl (pi_range1 rfl (fr.h _ (by decide +kernel)) (pa_cons pe_int pa_nil)) (pg_name (i := 4) nd rfl (.inl rfl))
        (pss_cons (ps_set (i := 5) nd rfl (.inr rfl) (pe_callTy (call_dictP rfl) rfl (fr.h _ (by decide +kernel)) (by decide +kernel) (pa_cons (pe_lc (own := [("_law_spot", 8)]) (g := gName 8) (tt := tYes) rfl nd (pi_list (pv 1)) (blkOk_by (N := nTie2) (sc := defScope (top 72)) (by decide +kernel)) (fun _ _ _ _ _ => pg_name (i := 8) nd rfl (Or.inl rfl)) (fun _ _ _ _ _ => pts_nil)
            (fun s1 H1 C1 c1 f1 => by exact pe_tup (pa_cons (pv 8) (pa_cons (pe_dn S.DQ hr (by rfl) (by decide) (pa_cons (pv 0) pa_nil)) pa_nil)))) pa_nil)))
        (pss_cons (ps_set (i := 6) nd rfl (.inl rfl) (pe_dn S.DP hr (by rfl) (by decide) (pa_cons (pv 0) (pa_cons (pv 5) (pa_cons pe_str pa_nil)))))
        (C8.pss_cut (ps_set (i := 7) nd rfl (.inl rfl) (pe_callB (call_repr hG hr) rfl (fr.h _ (by decide +kernel)) (by decide +kernel) (pa_cons (pe_or (pe_cmpR op_eq (pe_ix (ixK isk) (pv 2) pe_int (fun _ _ => rfl)) pe_str (nomark _)) (pe_one (pe_dn S.DI hr (by rfl) (by decide) (pa_cons (pv 2) (pa_cons (pv 5) pa_nil))))) pa_nil)))
        (pss_cons (ps_if (PW.pt (pw_or (pt_cmpR op_ne (pe_callB (call_repr hG hr) rfl (fr.h _ (by decide +kernel)) (by decide +kernel) (pa_cons (pe_trM (A := A) (CT := CT) (CP := CP) (CL := CL) (i := 3) (pe_meth (E := E0) (pv 3) c1 m1 F1 (hr.mono (by decide)) b1 .nil pass0 (pa_cons (pv 6) pa_nil)) (pe_meth (E := E0) (pv 3) c2 m2 F2 (hr.mono (by decide)) b2 .nil pass0 (pa_cons (pv 6) pa_nil)) (pe_meth (E := E0) (pv 3) c3 m3 F3 (hr.mono (by decide)) b3 .nil pass0 (pa_cons (pv 6) pa_nil))) pa_nil)) (pv 7) (by rfl))
            (pw_or1 (pt_cmpR op_ne (pe_callB (call_repr hG hr) rfl (fr.h _ (by decide +kernel)) (by decide +kernel) (pa_cons (pe_trK (A := A) (CT := CT) (CP := CP) (CL := CL) (i := 3) (pe_methK (E := E0) (pv 3) c1 m1 F1 (hr.mono (by decide)) k1 pass0 (pk_cons (pv 6) pk_nil)) (pe_methK (E := E0) (pv 3) c2 m2 F2 (hr.mono (by decide)) k2 pass0 (pk_cons (pv 6) pk_nil)) (pe_methK (E := E0) (pv 3) c3 m3 F3 (hr.mono (by decide)) k3 pass0 (pk_cons (pv 6) pk_nil))) pa_nil)) (pv 7) (by rfl))))) (pss_one (ps_ret pe_bl)) pss_nil)
        (pss_one (ps_if (pt_cmpR op_ne (pe_ix (ixK isk) (pv 2) pe_int (fun _ _ => rfl)) pe_str (nomark _)) (pss_one (ps_if (pt_not (pt_val (pe_callB (allK isk rfl) rfl (fr.h _ (by decide +kernel)) (by decide +kernel) (pa_cons (pe_lc (own := [("_law_spot", 8)]) (g := gName 8) (tt := tYes) rfl nd (pi_list (pe_ix (ixK isk) (pv 2) pe_int (fun _ _ => rfl))) (blkOk_by (N := nTie2) (sc := defScope (top 72)) (by decide +kernel)) (fun _ _ _ _ _ => pg_name (i := 8) nd rfl (Or.inl rfl)) (fun _ _ _ _ _ => pts_nil)
            (fun s1 H1 C1 c1 f1 => by exact pe_dnG S.DW hG hr (by rfl) (by decide) (pa_cons (pv 0) (pa_cons (pv 2) (pa_cons (pv 3) (pa_cons (pv 5) (pa_cons (pv 8) pa_nil))))))) pa_nil)))) (pss_one (ps_ret pe_bl)) pss_nil)) pss_nil)))))))
      (pss_one (ps_ret pe_bl))), ?_⟩
    have k01 : ∀ {H1 : Hp}, Am.Ext H H1 → KT p H H1 := fun e => pot_xn hp (LamX.ExtN.of e)
    refine ⟨_, rfl, t, td, os, rfl, ht, ok, fun r H1 e1 n1 ir1 _ => ?_⟩
    have kt1 := k01 e1
    have T1 := hT.ext e1
    refine ⟨2, rfl, by decide, by decide, ?_⟩
    refine for_range (lo := 0) (n := 2) (fun i σ H' => KT p H H' ∧ LamX.Tabs T H' ∧ IsRule A CT CP CL H' r td os ∧ ∃ e4 e5 e6 e7 : Option V, σ = [some (.ref p), some (.ref a), some (.ref t), some (.ref r), e4, e5, e6, e7, none]) ?_ ?_ ?_
    · exact ⟨kt1, T1, ir1, none, none, none, none, rfl⟩
    · rintro j σ H2 hj ⟨k2, T2, ir2, e4, e5, e6, e7, rfl⟩
      have ha2 : H2 a = some (.lst (spots.map V.str)) := kt_lst k2 (strs_ne hp ha) ha
      refine ⟨_, rfl, a, rfl, ⟨_, SqL.of ha2⟩, fun D hD => ?_⟩
      have Dp := ne_pot k2.2 hD
      have big : (1000000 : Nat) ≤ sizeLine := by decide
      have few := sps.few
      refine lc_it (walk_list (xs := spots.map V.str)) (fun i H' => Kp p H2 H' ∧ ∃ zs : List (Addr × Addr × Rat), H' D = some (.lst ((zs.map (·.1)).map V.ref)) ∧ Paired (PzR H') zs (spots.take i)) ⟨Kp.new k2.2 hD, [], upd_same, .nil⟩ (fun i H' _ h => SqL.of (h.1.at (strs_ne k2.2 ha2) ha2)) ?_ ?_
      · rintro i y H3 H4 hi ⟨k3, zs, d3, pr⟩ ⟨rfl, hy⟩
        obtain ⟨x, hx, rfl⟩ := map_at hy
        refine ⟨rfl, _, rfl, _, rfl, p, rfl, k3.pot, fun tt H5 q k5 n5 ttp ft lq => ⟨(by show 2 ≤ sizeLine; omega), fun T' hT' => ?_⟩⟩
        have d5 := k5.at Dp d3
        have DT : D ≠ T' := ne_of_none d5 hT'
        have lz := Paired.length pr
        rw [List.length_take] at lz
        have ftT : tt ≠ T' := ne_of_none ft hT'
        refine ⟨(zs.map (·.1)).map V.ref, by rw [upd_ne DT]; exact d5, by rw [List.length_map, List.length_map]; omega, ((k3.trans k5).trans (Kp.new k5.pot hT')).over Dp hD, zs ++ [(T', tt, q)], ?_, ?_⟩
        · rw [upd_same, List.map_append, List.map_append]
          rfl
        · rw [take_suc hx]
          refine pz_snoc ⟨?_, ?_, lq⟩ (pz_mono (fun b us h => ?_) pr)
          · show upd _ _ _ _ = _
            rw [upd_ne (Ne.symm DT), upd_same]
          · show upd _ _ _ _ = _
            rw [upd_ne (ne_of ft d5 (fun e => nomatch e)), upd_ne ftT]
            exact ft
          · have h5 := kp_tup k5 k3.pot h
            rw [upd_ne (ne_of h5 d5 (fun e => nomatch e)), upd_ne (ne_of_none h5 hT')]
            exact h5
      rintro H3 ⟨k3, zs, d3, pr⟩
      rw [List.length_map, List.take_length] at pr
      refine ⟨D, zs.map (·.1), kvsOf zs spots, rfl, SqL.of d3, kvs_prs pr, fun Pd hPd => ?_⟩
      have kk := kvs_keys pr
      have ndk : ((kvsOf zs spots).map (·.1)).Nodup := by
        rw [kk]
        exact List.pairwise_map.mpr (sps.nd.imp fun h e => h (by injection e))
      rw [merge_kv _ [] ndk (fun _ _ q => nomatch q), List.nil_append]
      have eP := Am.Ext.new (o := .dK (kvsOf zs spots)) hPd
      have prt : PrtD (upd H3 Pd (.dK (kvsOf zs spots))) Pd spots (gOf zs spots) := ⟨_, upd_same, prt_ext eP (prt_of pr sps.nd)⟩
      have glow := g_low pr
      generalize gOf zs spots = g at prt glow
      have k4 : KT p H (upd H3 Pd (.dK (kvsOf zs spots))) := KT.trans k2 (KT.trans (Kp.kt k3) (Kp.kt (Kp.new k3.pot hPd)))
      have T4 := (tabs_kp T2 k2.2 k3).ext eP
      have ir4 : IsRule A CT CP CL (upd H3 Pd (.dK (kvsOf zs spots))) r td os := (ir2.hd (Hd.kt (Kp.kt k3) k2.2)).ext eP
      generalize upd H3 Pd (.dK (kvsOf zs spots)) = H4 at prt k4 T4 ir4 ⊢
      clear eP hPd kk ndk pr d3 k3 ir2 T2
      refine ⟨_, rfl, _, rfl, p, Pd, "", spots, g, rfl, k4.2, prt, sps.nd, sps.nz, by omega, fun x _ => glow x, fun D1 H5 q1 kp5 n5 D1p lq1 pas => ?_⟩
      have hd5 := Hd.kt (Kp.kt kp5) k4.2
      have k5 := KT.trans k4 (Kp.kt kp5)
      have T5 := tabs_kp T4 k4.2 kp5
      have ir5 := ir4.hd hd5
      have prt5 := prt.hd hd5
      have nu5 : NumD A H5 D1 spots g := by
        have := PasD.num sps.nz pas
        rw [oth_emp sps.nm] at this
        exact this
      have tie5 := ht.kt k5 hp
      clear pas hd5 prt ir4 T4 kp5
      have tg : isLo td = false → TG H5 t Pd td os spots g := fun nl => ⟨tie5, prt5, ok, sm, l4, sub, fun x _ => glow x, nl⟩
      refine ⟨fun σ H6 => Am.Ext H5 H6 ∧ σ = [some (.ref p), some (.ref a), some (.ref t), some (.ref r), some (.int (0 + (j : Int))), some (.ref Pd), some (.ref D1), some (.str (bT (soB td g))), none], ?_, ?_⟩
      · obtain ⟨po, ho, h5⟩ := tie5
        cases td with
        | loo ys =>
          obtain ⟨px, hx, htt⟩ := h5
          exact ⟨_, rfl, ix4 (i := 0) htt rfl ⟨rfl, _, rfl, if_yes ⟨.bl true, [], 0, _, rfl, .bl true, by decide, bl_len true, Am.Ext.refl _, rfl⟩⟩⟩
        | sum ls q =>
          obtain ⟨pl, ps, pq, h1, h2, h3, htt⟩ := h5
          refine ⟨_, rfl, ix4 (i := 0) htt rfl ⟨rfl, _, rfl, if_no s_sl ⟨_, rfl, _, rfl, t, Pd, _, os, spots, g, rfl, tg rfl, fun H6 e6 => ⟨.bl _, [], 0, _, rfl, .bl _, by decide, bl_len _, e6, rfl⟩⟩⟩⟩
        | pro ys zs q =>
          obtain ⟨pp, px, py, pq, h1, h2, h3, h4, htt⟩ := h5
          refine ⟨_, rfl, ix4 (i := 0) htt rfl ⟨rfl, _, rfl, if_no s_pl ⟨_, rfl, _, rfl, t, Pd, _, os, spots, g, rfl, tg rfl, fun H6 e6 => ⟨.bl _, [], 0, _, rfl, .bl _, by decide, bl_len _, e6, rfl⟩⟩⟩⟩
      rintro σ H6 ⟨e56, rfl⟩
      have lo8 : ∀ x ∈ td.ins, Low 800 (g x) := fun x _ => (glow x).more (by decide)
      refine ⟨r, td, os, rfl, ir5.ext e56, _, rfl, ?_⟩
      dsimp only [L2.tNil]
      refine tr_sp (K := K) (ir5.ext e56) ok sm l4 ((nu5.ext e56).sub sub) lo8 fun H7 e7 => ⟨.bl _, [], 0, _, rfl, .bl _, by decide, bl_len _, _, rfl, ne_str (bT (soB td g)) ⟨_, rfl, iteF ?_⟩⟩
      have e57 := e56.trans e7
      refine ⟨r, td, os, rfl, ir5.ext e57, _, rfl, rfl, ?_⟩
      refine tr_sp (K := K) (ir5.ext e57) ok sm l4 ((nu5.ext e57).sub sub) lo8 fun H8 e8 => ⟨.bl _, [], 0, _, rfl, .bl _, by decide, bl_len _, _, rfl, ne_str (bT (soB td g)) ⟨_, rfl, iteF ?_⟩⟩
      have e58 := e57.trans e8
      have k8 : KT p H H8 := KT.trans k5 (pot_xn k5.2 (LamX.ExtN.of e58))
      have T8 := T5.ext e58
      have ir8 := ir5.ext e58
      have tie8 := tie5.ext e58
      have tg8 : isLo td = false → TG H8 t Pd td os spots g := fun nl => (tg nl).ext e58
      clear tg e57 e7 e56 nu5 prt5 ir5 T5 e58 e8
      by_cases nl : isLo td = true
      · obtain ⟨v1, v2, v3, htt⟩ := tie_loo tie8 nl
        exact ⟨_, rfl, ix4 (i := 0) htt rfl ⟨rfl, _, rfl, ifn_yes ⟨k8, T8, ir8, _, _, _, _, rfl⟩⟩⟩
      · have nl' : isLo td = false := by simpa using nl
        obtain ⟨po, s0, v1, v2, ho, htt, hns⟩ := tie_head tie8 nl'
        have tg9 := tg8 nl'
        refine ⟨_, rfl, ix4 (i := 0) htt rfl ⟨rfl, _, rfl, ifn_no hns ⟨_, rfl, ix4 (i := 3) htt rfl ⟨po, rfl, ⟨_, SqL.of ho⟩, fun D2 hD2 => ?_⟩⟩⟩⟩
        have D2p := ne_pot k8.2 hD2
        have pop := strs_ne k8.2 ho
        have los := ok.of.2
        refine lc_it (walk_list (xs := os.map V.str)) (fun i H' => KT p H8 H' ∧ LamX.Tabs T H' ∧ H' D2 = some (.lst ((List.replicate i true).map V.bl))) ⟨pot_xn k8.2 (LamX.ExtN.of (Am.Ext.new hD2)), T8.ext (Am.Ext.new hD2), upd_same⟩ (fun i H' _ h => SqL.of (kt_lst h.1 pop ho)) ?_ ?_
        · rintro i y H9 H10 hi ⟨k9, T9, d9⟩ ⟨rfl, hy⟩
          obtain ⟨x, hx, rfl⟩ := map_at hy
          rw [List.length_map] at hi
          refine ⟨rfl, _, rfl, _, rfl, _, rfl, _, rfl, _, rfl, p, t, r, Pd, x, td, os, spots, g, rfl, tg9.kt k9 k8.2, ir8.hd (Hd.kt k9 k8.2), k9.2, List.mem_of_getElem? hx, sps, T9, fun H11 k11 T11 => ?_⟩
          have d11 : H11 D2 = _ := kt_lst k11 D2p d9
          refine ⟨_, d11, by rw [List.length_map, List.length_replicate]; omega, kt_over (KT.trans k9 k11) D2p hD2, tabs_put T11 d11, ?_⟩
          rw [upd_same, List.replicate_succ', List.map_append]
          rfl
        · rintro H9 ⟨k9, T9, d9⟩
          refine ⟨D2, List.replicate (os.map V.str).length true, rfl, SqL.of d9, _, rfl, ?_⟩
          rw [all_rep]
          exact iteF ⟨KT.trans k8 k9, T9, ir8.hd (Hd.kt k9 k8.2), _, _, _, _, rfl⟩
    · rintro σ H' ⟨k, T', ir', e4, e5, e6, e7, rfl⟩
      exact z H' k T'
end
end KD

set_option Elab.async false
set_option linter.all false
set_option maxRecDepth 100000
set_option maxHeartbeats 2000000
set_option exponentiation.threshold 20000
/-! _law_zero_right. -/
namespace KD
open PySem PySem.Spec PyProof.Rows L2 Oo Gd Am KA SqX
theorem mulQ_zero {xs : List Str} {g : Str → Rat} {x : Str} (hx : x ∈ xs) (h : ∀ y, g y = 0) : mulQ xs g = 0 := by
  have : ∀ xs : List Str, xs ≠ [] → mulQ xs g = 0 := snoc_ind (p := fun xs => xs ≠ [] → mulQ xs g = 0) (fun h => absurd rfl h) (fun xs x _ _ => by rw [mulQ_snoc, h, Rat.mul_zero])
  exact this xs (fun e => by rw [e] at hx; cases hx)
theorem shown0 : Am.shown 0 = "Amount(0, 1)" := by decide +kernel
theorem told_s {A Z : Addr} {o : Option Rat} {S : Str} {tl : XK → Hp → VK → Prop} {H : Hp} {Q : VK} (e : dueS o = S) (h : ∀ E Q', DueP A Z H Q' E o → tl E H Q') (lo : ∀ v, o = some v → Low 3000 v) (z : ∀ H', Am.Ext H H' → Q (.str S) H') : TTt A Z tl H Q := told_d h lo (by rw [e]; exact z)
section
variable {P : Program} {w : World} {K : W.Frag} {mg : Str → Option Value} {base : Heap} {f c pp A C Z ZA CT CP CL : Addr} {fd : FuncData} {T : List (Addr × Str)}
structure ZR (P : Program) (w : World) (K : W.Frag) (mg : Str → Option Value) (base : Heap) (A Z ZA CT CP CL : Addr) : Prop where
  fr : Frees mg
  B : Base P w K mg base A
  R : Rep P w K mg base A
  DR : Dn P w K mg base CX0 7 "_law_rule" ["_law_tie_here"] (spRule A CT CP CL)
  rm : RM P w K mg base A Z CT CP CL
  tq : Tq K mg Z ZA
  tol : Tol K mg
def spZero (T : List (Addr × Str)) : Sp := fun vs H Q _ => ∃ (a : Addr) (s0 s1 s2 : Str) (rest : List Str), vs = [.ref a] ∧ Ls H a (s0 :: s1 :: s2 :: rest) ∧ Sps (s0 :: s1 :: s2 :: rest) ∧ LamX.Tabs T H ∧ ∀ H', LamX.ExtN H H' → LamX.Tabs T H' → Q (.bl true) H'
abbrev nZero : List Str := ["_law_spots", "_law_sides", "_law_rule_here", "_law_zero", "_law_some_here", "_law_told_here"]
theorem scZero : FnScope nZero ["_law_spots"] (defScope (top 73)) := ⟨rfl, rfl, rfl, by decide +kernel, rfl, by decide +kernel, by decide +kernel⟩
theorem ok_zero (S : ZR P w K mg base A Z ZA CT CP CL) (TB : LamX.TabB base mg c pp) (tp : Tq1 T pp "_law_zero_right.<locals>.<lambda>") (F : FunC K "_law_zero_right" "_law_zero_right" (top 73) f c fd) : FnG P w K mg base CX0 13 f fd ["_law_spots"] (spZero T) := by
  refine okGc F scZero (fun vs H Q E h => ?_) (fun A' outer s H vs Q E hG hr h => ?_)
  · obtain ⟨a, s0, s1, s2, rest, rfl, _⟩ := h
    rfl
  · obtain ⟨a, s0, s1, s2, rest, rfl, ha, sps, hT, z⟩ := h
    have nd := scZero.nd
    have fr := S.fr
    have B := S.B
    have hu := hu_of hr
    have isk : IsK K := ⟨trivial⟩
    obtain ⟨f1, fd1, m1, F1, b1, k1⟩ := S.rm.tT.of
    obtain ⟨f2, fd2, m2, F2, b2, k2⟩ := S.rm.tP.of
    obtain ⟨f3, fd3, m3, F3, b3, k3⟩ := S.rm.tL.of
    obtain ⟨f4, fd4, m4, F4, b4, k4⟩ := S.rm.wT.of
    obtain ⟨f5, fd5, m5, F5, b5, k5⟩ := S.rm.wP.of
    have c1 := S.rm.tT.cl
    have c2 := S.rm.tP.cl
    have c3 := S.rm.tL.cl
    obtain ⟨gf, gd, RF, gm, gb⟩ := S.tol.of
    have gk := RF.kp
    obtain ⟨goc, god, gkV, gdoc, gpm, gan, gcdv, gct, gosl, rfl, glk, gcode⟩ := RF.ex
    refine ⟨_, pss_cons (ps_set (i := 1) nd rfl (.inl rfl) (pe_tup (pa_cons pe_str (pa_cons (pe_tup (pa_cons (pe_lst (pa_cons (pe_ix (ixK isk) (pv 0) pe_int (fun _ _ => rfl)) (pa_cons (pe_ix (ixK isk) (pv 0) pe_int (fun _ _ => rfl)) pa_nil))) (pa_cons (pe_lst (pa_cons (pe_ix (ixK isk) (pv 0) pe_int (fun _ _ => rfl)) pa_nil)) pa_nil))) (pa_cons (pe_tup (pa_cons pe_int (pa_cons pe_int pa_nil))) (pa_cons (pe_slice sl_list (pv 0) po_none (po_some pe_int)) pa_nil))))))
      (pss_cons (ps_asg (pe_tup (pa_cons (pe_dn S.DR hr (by rfl) (by decide) (pa_cons (pv 1) pa_nil)) (pa_cons (pe_mk1 B (hr.mono (by decide)) rfl (pa_cons pe_int pa_nil)) pa_nil))) (pg_tup rfl (pgs_cons (pg_name (i := 2) nd rfl (.inr rfl)) (pgs_cons (pg_name (i := 3) nd rfl (.inl rfl)) pgs_nil))))
      (pss_cons (ps_set (i := 4) nd rfl (.inr rfl) (pe_disp (pps_cons (pe_ix (ixK isk) (pv 0) pe_int (fun _ _ => rfl)) (pv 3) (pps_cons (pe_ix (ixK isk) (pv 0) pe_int (fun _ _ => rfl)) pe_int (pps_cons (pe_ix (ixK isk) (pv 0) pe_int (fun _ _ => rfl)) pe_int pps_nil))) rfl rfl (fun z => by cases z) (by decide)))
      (pss_cons (ps_set (i := 5) nd rfl (.inl rfl) (pe_lst (pa_cons (LamX.pe_lamcall (k := 9) (T := T) (TT := TTt A Z) rfl gm gk glk gcode gb scTo rfl (.inl rfl) (told_gives (k := 6) S.R S.tq fr hG (hr.mono (by decide))) TB rfl tp.mem tp.uq (hr.mono (by decide)) (LamX.lamS_by (show LamX.lamSB (defScope (top 73)) _ = true by decide +kernel)) rfl (fun _ _ _ _ _ => rfl)
          (fun A outer s H E f c' hl => pe_woM (A := _) (Z := Z) (CT := CT) (CP := CP) (CL := CL) (i := 2) (pe_meth (E := E) (pv 2) S.rm.wT.cl m4 F4 (hl.mono (by decide)) b4 .nil (passes_call (takes_of rfl rfl rfl rfl) fun _ _ _ _ h => h) (pa_cons (pe_ix (ixK isk) (pv 0) pe_int (fun _ _ => rfl)) (pa_cons (pv 4) pa_nil))) (pe_meth (E := E) (pv 2) S.rm.wP.cl m5 F5 (hl.mono (by decide)) b5 .nil (passes_call (takes_of rfl rfl rfl rfl) fun _ _ _ _ h => h) (pa_cons (pe_ix (ixK isk) (pv 0) pe_int (fun _ _ => rfl)) (pa_cons (pv 4) pa_nil))))) pa_nil)))
      (pss_cons (ps_expr (pe_bm PySem.F.plainAttrs_list PySem.F.slot_list_append PySem.F.type_list_append mt_append (pv 5) (pa_cons (LamX.pe_lamcall (k := 9) (T := T) (TT := TTt A Z) rfl gm gk glk gcode gb scTo rfl (.inl rfl) (told_gives (k := 6) S.R S.tq fr hG (hr.mono (by decide))) TB rfl tp.mem tp.uq (hr.mono (by decide)) (LamX.lamS_by (show LamX.lamSB (defScope (top 73)) _ = true by decide +kernel)) rfl (fun _ _ _ _ _ => rfl)
          (fun A outer s H E f c' hl => pe_woM (A := _) (Z := Z) (CT := CT) (CP := CP) (CL := CL) (i := 2) (pe_meth (E := E) (pv 2) S.rm.wT.cl m4 F4 (hl.mono (by decide)) b4 .nil (passes_call (takes_of rfl rfl rfl rfl) fun _ _ _ _ h => h) (pa_cons (pe_ix (ixK isk) (pv 0) pe_int (fun _ _ => rfl)) (pa_cons (pv 4) pa_nil))) (pe_meth (E := E) (pv 2) S.rm.wP.cl m5 F5 (hl.mono (by decide)) b5 .nil (passes_call (takes_of rfl rfl rfl rfl) fun _ _ _ _ h => h) (pa_cons (pe_ix (ixK isk) (pv 0) pe_int (fun _ _ => rfl)) (pa_cons (pv 4) pa_nil))))) pa_nil)))
      (pss_one (ps_ret (pe_and (pe_cmpR (eqK isk hr) (pv 5) (pe_lst (pa_cons pe_str (pa_cons pe_str pa_nil))) (by rfl)) (pe_one (pe_cmpR op_isBl (pe_trM (A := A) (CT := CT) (CP := CP) (CL := CL) (i := 2) (pe_meth (E := E0) (pv 2) c1 m1 F1 (hr.mono (by decide)) b1 .nil pass0 (pa_cons (pv 4) pa_nil)) (pe_meth (E := E0) (pv 2) c2 m2 F2 (hr.mono (by decide)) b2 .nil pass0 (pa_cons (pv 4) pa_nil)) (pe_meth (E := E0) (pv 2) c3 m3 F3 (hr.mono (by decide)) b3 .nil pass0 (pa_cons (pv 4) pa_nil))) pe_bl (nomark _)))))))))), ?_⟩
    have big : (1000000 : Nat) ≤ sizeLine := by decide
    have a0 : atI ((s0 :: s1 :: s2 :: rest).map V.str) ((0 : Nat) : Int) = some (V.str s0) := atI_nat (j := 0) rfl
    have a1 : atI ((s0 :: s1 :: s2 :: rest).map V.str) ((1 : Nat) : Int) = some (V.str s1) := atI_nat (j := 1) rfl
    have a2 : atI ((s0 :: s1 :: s2 :: rest).map V.str) ((2 : Nat) : Int) = some (V.str s2) := atI_nat (j := 2) rfl
    have n0 := List.nodup_cons.mp sps.nd
    have n1 := List.nodup_cons.mp n0.2
    have d01 : s0 ≠ s1 := fun e => n0.1 (by rw [e]; exact List.mem_cons_self)
    have d02 : s0 ≠ s2 := fun e => n0.1 (by rw [e]; exact List.mem_cons_of_mem _ List.mem_cons_self)
    have d12 : s1 ≠ s2 := fun e => n1.1 (by rw [e]; exact List.mem_cons_self)
    have nm : Nms ([s0, s1] ++ [s2]) := ⟨fun x hx => sps.nm x (by
      simp at hx ⊢
      rcases hx with h | h | h
      · exact .inl h
      · exact .inr (.inl h)
      · exact .inr (.inr (.inl h))), by simp [d01, d02, d12], by show 3 < 64; decide⟩
    have ok : TdOk (.pro [s0, s1] [s2] 2) [s0, s1, s2] := ⟨nm, (by show [s0, s1] ++ [s2] ≠ []; simp), nm.nd, fun o ho => ho, by simp, by decide, ⟨by decide, by decide⟩⟩
    have sm : Sm (.pro [s0, s1] [s2] 2) := (⟨by decide, by decide⟩ : Low 100 (2 : Rat))
    have l4 : (TD.pro [s0, s1] [s2] 2).ins.length ≤ 4 := by show 3 ≤ 4; decide
    have two : Fr2 = Fr2 := rfl
    refine ⟨_, rfl, .inl ⟨a, _, 0, _, rfl, rfl, SqL.of ha, a0, _, rfl, .inl ⟨a, _, 1, _, rfl, rfl, SqL.of ha, a1, (by show 2 ≤ sizeLine; omega), fun X1 h1 => ?_⟩⟩⟩
    have x1 := Am.Ext.new (o := .lst [V.str s0, .str s1]) h1
    refine ⟨_, rfl, .inl ⟨a, _, 2, _, rfl, rfl, SqL.of (x1 _ _ ha), a2, (by show 1 ≤ sizeLine; omega), fun X2 h2 => ⟨(by show 2 ≤ sizeLine; omega), fun T1 h3 => ⟨(by show 2 ≤ sizeLine; omega), fun T2 h4 => ?_⟩⟩⟩⟩
    have x2 := Am.Ext.new (o := .lst [V.str s2]) h2
    have x3 := Am.Ext.new (o := .tup [V.ref X1, .ref X2]) h3
    have x4 := Am.Ext.new (o := .tup [V.int 2, .int 1]) h4
    have x14 := ((x1.trans x2).trans x3).trans x4
    refine ⟨_, rfl, 3, rfl, a, _, rfl, SqL.of (x14 _ _ ha), fun X3 h5 => ?_⟩
    have ecut : cutV ((s0 :: s1 :: s2 :: rest).map V.str) none (some 3) = [V.str s0, .str s1, .str s2] := by
      have := cut_to ((s0 :: s1 :: s2 :: rest).map V.str) 3 (by simp)
      rw [show ((3 : Nat) : Int) = 3 from rfl] at this
      rw [this]
      rfl
    rw [ecut]
    refine ⟨(by show 4 ≤ sizeLine; omega), fun T3 h6 => ?_⟩
    have x5 := Am.Ext.new (o := .lst [V.str s0, .str s1, .str s2]) h5
    have x6 := Am.Ext.new (o := .tup [V.str "product", .ref T1, .ref T2, .ref X3]) h6
    have x16 := (x14.trans x5).trans x6
    have tie : TieAt (upd (upd (upd (upd (upd (upd H X1 (.lst [V.str s0, .str s1])) X2 (.lst [V.str s2])) T1 (.tup [V.ref X1, .ref X2])) T2 (.tup [V.int 2, .int 1])) X3 (.lst [V.str s0, .str s1, .str s2])) T3 (.tup [V.str "product", .ref T1, .ref T2, .ref X3])) T3 (.pro [s0, s1] [s2] 2) [s0, s1, s2] :=
      ⟨X3, x6 _ _ upd_same, T1, X1, X2, T2, x6 _ _ (x5 _ _ (x4 _ _ (x3 _ _ (x2 _ _ upd_same)))), x6 _ _ (x5 _ _ (x4 _ _ (x3 _ _ upd_same))), x6 _ _ (x5 _ _ (x4 _ _ upd_same)), x6 _ _ (x5 _ _ upd_same), upd_same⟩
    have e1 := x16
    clear x1 x2 x3 x4 x14 x5 x6 x16
    generalize upd (upd (upd (upd (upd (upd H X1 (.lst [V.str s0, .str s1])) X2 (.lst [V.str s2])) T1 (.tup [V.ref X1, .ref X2])) T2 (.tup [V.int 2, .int 1])) X3 (.lst [V.str s0, .str s1, .str s2])) T3 (.tup [V.str "product", .ref T1, .ref T2, .ref X3]) = G1 at tie e1 ⊢
    refine ⟨_, rfl, T3, _, _, rfl, tie, ok, fun r G2 e2 n2 ir _ => ⟨0, rfl, by decide, fun b G3 e3 n3 i3 => ⟨(by show 2 ≤ sizeLine; omega), fun tt htt => ⟨tt, _, rfl, SqT.of upd_same, rfl, _, _, rfl, _, _, rfl, rfl, ?_⟩⟩⟩⟩
    have x4 := Am.Ext.new (o := .tup [V.ref r, .ref b]) htt
    have e04 := ((e1.trans e2).trans e3).trans x4
    have ir4 := (ir.ext e3).ext x4
    have i4 : Is A (upd G3 tt (.tup [V.ref r, .ref b])) b (0 : Rat) := (show Is A G3 b (0 : Rat) from i3).ext x4
    generalize upd G3 tt (.tup [V.ref r, .ref b]) = G4 at e04 ir4 i4 ⊢
    clear x4 i3 ir tie e1 e2 e3 htt n2 n3
    have ha4 := e04 _ _ ha
    intro D hD
    have x5 := Am.Ext.new (o := .dK []) hD
    have ha5 := x5 _ _ ha4
    refine ⟨_, rfl, .inl ⟨a, _, 0, _, rfl, rfl, SqL.of ha5, a0, _, rfl, _, rfl, .inl ⟨a, _, 1, _, rfl, rfl, SqL.of ha5, a1, _, rfl, .inl ⟨a, _, 2, _, rfl, rfl, SqL.of ha5, a2, upd_same, [((Sum.inr s0 : Key), V.ref b), ((Sum.inr s1 : Key), V.int 0), ((Sum.inr s2 : Key), V.int 0)], rfl, (by show 3 ≤ 15; decide), ?_⟩⟩⟩⟩
    rw [merge_kv _ [] (by simp [d01, d02, d12]) (fun _ _ q => nomatch q), List.nil_append, upd_upd]
    have x6 := Am.Ext.new (o := .dK [((Sum.inr s0 : Key), V.ref b), ((Sum.inr s1 : Key), V.int 0), ((Sum.inr s2 : Key), V.int 0)]) hD
    have nu : NumD A (upd G4 D (.dK [((Sum.inr s0 : Key), V.ref b), ((Sum.inr s1 : Key), V.int 0), ((Sum.inr s2 : Key), V.int 0)])) D [s0, s1, s2] (fun _ => 0) := by
      refine ⟨_, upd_same, fun x hx => ?_⟩
      simp only [List.mem_cons, List.not_mem_nil, or_false] at hx
      rcases hx with rfl | rfl | rfl
      · exact ⟨_, valV_pos rfl, Num.is (i4.ext x6)⟩
      · exact ⟨_, by rw [valV_neg (fun e => d01 (by injection e)), valV_pos rfl], .inl ⟨0, rfl, rfl⟩⟩
      · exact ⟨_, by rw [valV_neg (fun e => d02 (by injection e)), valV_neg (fun e => d12 (by injection e)), valV_pos rfl], .inl ⟨0, rfl, rfl⟩⟩
    have e06 := e04.trans x6
    have ir6 := ir4.ext x6
    generalize upd G4 D (.dK [((Sum.inr s0 : Key), V.ref b), ((Sum.inr s1 : Key), V.int 0), ((Sum.inr s2 : Key), V.int 0)]) = G at nu e06 ir6 ⊢
    clear x6 x5 ha5 ha4 i4 ir4 e04 hD
    have haG := e06 _ _ ha
    have TG' := hT.ext e06
    have due0 : dueQ (.pro [s0, s1] [s2] 2) s0 (fun _ => 0) = none := by
      show (if s0 ∈ [s2] then quo _ _ else quo (2 * mulQ (oth [s2] s0) fun _ => 0) (mulQ (oth [s0, s1] s0) fun _ => 0)) = none
      have e := mulQ_zero (xs := oth [s0, s1] s0) (g := fun _ => (0 : Rat)) (x := s1) (oth_mem.mpr ⟨by simp, Ne.symm d01⟩) (fun _ => rfl)
      rw [if_neg (by simp [d02]), e]
      exact if_pos rfl
    have due2 : dueQ (.pro [s0, s1] [s2] 2) s2 (fun _ => 0) = some 0 := by
      show (if s2 ∈ [s2] then quo (mulQ (oth [s0, s1] s2) fun _ => 0) (2 * mulQ (oth [s2] s2) fun _ => 0) else _) = some 0
      have e := mulQ_zero (xs := oth [s0, s1] s2) (g := fun _ => (0 : Rat)) (x := s0) (oth_mem.mpr ⟨by simp, d02⟩) (fun _ => rfl)
      have o2 : oth [s2] s2 = [] := by unfold oth; simp
      have m2 : mulQ [] (fun _ => (0 : Rat)) = 1 := rfl
      rw [if_pos (by simp), e, o2, m2]
      have q2 : ¬ ((2 : Rat) * 1 = 0) := by decide +kernel
      exact (if_neg q2).trans (by rw [Rat.div_def, Rat.zero_mul])
    have so : soB (.pro [s0, s1] [s2] 2) (fun _ => 0) = true := by
      show decide (mulQ [s0, s1] (fun _ => 0) = 2 * mulQ [s2] fun _ => 0) = true
      rw [mulQ_zero (x := s0) (by simp) (fun _ => rfl), mulQ_zero (x := s2) (by simp) (fun _ => rfl), Rat.mul_zero]
      exact decide_eq_true rfl
    have lo0 : ∀ (n : Nat), 0 < n → Low n (0 : Rat) := fun n hn => ⟨by show 0 < 2 ^ n; exact Nat.two_pow_pos n, by show 1 < 2 ^ n; exact Nat.one_lt_two_pow (by omega)⟩
    have wo0 : ∀ {H6 : Hp} {E : XK} {Q' : VK}, Hd G H6 → DueP A Z H6 Q' E (dueQ (.pro [s0, s1] [s2] 2) s0 (fun _ => 0)) → spWo A Z CT CP (.pro [s0, s1] [s2] 2) [.ref r, .str s0, .ref D] H6 Q' E := fun hd h => wo_sp (K := K) (ir6.hd hd) ok sm rfl l4 (by simp) ((nu.hd hd).sub fun x hx => (oth_mem.mp hx).1) (fun _ _ => lo0 _ (by decide)) h
    have wo2 : ∀ {H6 : Hp} {E : XK} {Q' : VK}, Hd G H6 → DueP A Z H6 Q' E (dueQ (.pro [s0, s1] [s2] 2) s2 (fun _ => 0)) → spWo A Z CT CP (.pro [s0, s1] [s2] 2) [.ref r, .str s2, .ref D] H6 Q' E := fun hd h => wo_sp (K := K) (ir6.hd hd) ok sm rfl l4 (by simp) ((nu.hd hd).sub fun x hx => (oth_mem.mp hx).1) (fun _ _ => lo0 _ (by decide)) h
    refine ⟨TG', fun H6 n6 T6 => told_s (S := "None") (o := dueQ (.pro [s0, s1] [s2] 2) s0 (fun _ => 0)) (by rw [due0]; rfl) (fun E Q' hd => ⟨r, _, _, rfl, ir6.hd (Hd.xn n6), rfl, _, rfl, .inl ⟨a, _, 0, _, rfl, rfl, SqL.of (n6 _ _ haG (fun _ => HO.noConfusion)), a0, _, rfl, wo0 (Hd.xn n6) hd⟩⟩) (fun v h => by rw [due0] at h; cases h) fun H7 e7 => ⟨(by show 1 ≤ sizeLine; omega), fun L hL => ?_⟩⟩
    have n7 := n6.trans (LamX.ExtN.of e7)
    have nL : ∀ o, (∀ ps, o ≠ .tbl ps) → G L ≠ some o := fun o k hz => by
      have hz' := n7 _ _ hz k
      rw [hL] at hz'
      cases hz'
    have n8 := n7.trans (LamX.ExtN.of (Am.Ext.new (o := .lst [V.str "None"]) hL))
    have T8 := (T6.ext e7).ext (Am.Ext.new (o := .lst [V.str "None"]) hL)
    have hL8 : upd H7 L (.lst [V.str "None"]) L = some (.lst [V.str "None"]) := upd_same
    generalize upd H7 L (.lst [V.str "None"]) = H8 at n8 T8 hL8 ⊢
    clear hL n7 e7 T6 n6
    refine ⟨_, rfl, tyL hL8, T8, fun H9 n9 T9 => told_s (S := "Amount(0, 1)") (o := dueQ (.pro [s0, s1] [s2] 2) s2 (fun _ => 0)) (by rw [due2]; exact shown0) (fun E Q' hd => ⟨r, _, _, rfl, ir6.hd (Hd.xn (n8.trans n9)), rfl, _, rfl, .inl ⟨a, _, 2, _, rfl, rfl, SqL.of ((n8.trans n9) _ _ haG (fun _ => HO.noConfusion)), a2, _, rfl, wo2 (Hd.xn (n8.trans n9)) hd⟩⟩) (fun v h => by rw [due2] at h; rw [← Option.some.inj h]; exact lo0 _ (by decide)) fun H10 e10 => ⟨L, _, _, rfl, rfl, e10 _ _ (n9 _ _ hL8 fun _ => HO.noConfusion), (by show 1 < sizeLine; omega), ?_⟩⟩
    have hL10 := e10 _ _ (n9 _ _ hL8 fun _ => HO.noConfusion)
    have n11 := xn_put (o := .lst ([V.str "None"] ++ [V.str "Amount(0, 1)"])) ((n8.trans n9).trans (LamX.ExtN.of e10)) nL
    have T11 := tabs_put (o := .lst ([V.str "None"] ++ [V.str "Amount(0, 1)"])) (T9.ext e10) hL10
    have hL11 : upd H10 L (.lst ([V.str "None"] ++ [V.str "Amount(0, 1)"])) L = some (.lst [V.str "None", .str "Amount(0, 1)"]) := upd_same
    generalize upd H10 L (.lst ([V.str "None"] ++ [V.str "Amount(0, 1)"])) = H11 at n11 T11 hL11 ⊢
    clear hL10 e10 T9 n9 hL8 T8 n8
    refine ⟨_, rfl, (by show 2 ≤ sizeLine; omega), fun M hM => .inr (eqd_same (xs := [V.str "None", .str "Amount(0, 1)"]) (SqL.of ((Am.Ext.new hM) _ _ hL11)) (SqL.of upd_same) (dp_strs ["None", "Amount(0, 1)"]) (shaped_strs fun x m => ?_) ⟨true, rfl, iteT ?_⟩)⟩
    · simp only [List.mem_cons, List.not_mem_nil, or_false] at m
      rcases m with rfl | rfl <;> exact sok_of _
    have eM := Am.Ext.new (o := .lst [V.str "None", .str "Amount(0, 1)"]) hM
    have n12 := n11.trans (LamX.ExtN.of eM)
    have T12 := T11.ext eM
    generalize upd H11 M (.lst [V.str "None", .str "Amount(0, 1)"]) = H12 at n12 T12 ⊢
    refine ⟨r, _, _, rfl, ir6.hd (Hd.xn n12), _, rfl, ?_⟩
    dsimp only [L2.tNil]
    refine tr_sp (K := K) (ir6.hd (Hd.xn n12)) ok sm l4 (nu.hd (Hd.xn n12)) (fun _ _ => lo0 _ (by decide)) fun H13 e13 => ⟨_, _, rfl, rfl, ?_⟩
    rw [so]
    exact z H13 ((LamX.ExtN.of e06).trans (n12.trans (LamX.ExtN.of e13))) (T12.ext e13)
end
end KD

set_option Elab.async false
set_option linter.all false
set_option maxRecDepth 100000
set_option maxHeartbeats 2000000
set_option exponentiation.threshold 20000
/-! _law_right, law. -/
namespace KD
open PySem PySem.Spec PyProof.Rows L2 Oo Gd Am KA SqX
theorem TieIn.kt {S : Addr → Prop} {p t : Addr} {H H' : Hp} {td : TD} {os : List Str} (k : KT p H H') (hp : Pot H p) (h : TieIn S H t td os) : TieIn S H' t td os := by
  have e := Hd.kt k hp
  have tp : ∀ {a : Addr} {xs : List V}, H a = some (.tup xs) → H' a = some (.tup xs) := fun h => e _ _ h (fun _ z => nomatch z) (fun _ z => nomatch z)
  obtain ⟨po, s, ho, h⟩ := h
  have ho' : Ls H' po os := kt_lst k (strs_ne hp ho) ho
  cases td with
  | loo xs => obtain ⟨px, s1, a, b⟩ := h; exact ⟨po, s, ho', px, s1, kt_lst k (strs_ne hp a) a, tp b⟩
  | sum ls q => obtain ⟨pl, ps, pq, s1, a, b, c, d⟩ := h; exact ⟨po, s, ho', pl, ps, pq, s1, kt_lst k (refs_ne hp a) a, Prs.hd e b, tp c, tp d⟩
  | pro xs ys q => obtain ⟨pp, px, py, pq, s1, a, b, c, d, f⟩ := h; exact ⟨po, s, ho', pp, px, py, pq, s1, kt_lst k (strs_ne hp a) a, kt_lst k (strs_ne hp b) b, tp c, tp d, tp f⟩
theorem ref_at {ts : List Addr} {i : Nat} {y : V} (h : (ts.map V.ref)[i]? = some y) : ∃ t, y = .ref t ∧ ts[i]? = some t := by
  rw [List.getElem?_map] at h
  cases e : ts[i]? with
  | none => rw [e] at h; cases h
  | some t => rw [e] at h; exact ⟨t, (Option.some.inj h).symm, rfl⟩
section
variable {P : Program} {w : World} {K : W.Frag} {mg : Str → Option Value} {base : Heap} {f : Addr} {fd : FuncData} {T : List (Addr × Str)}
def spRight (T : List (Addr × Str)) : Sp := fun vs H Q _ => ∃ p : Addr, vs = [.ref p] ∧ Pot H p ∧ LamX.Tabs T H ∧ ∀ H', KT p H H' → LamX.Tabs T H' → Q (.bl true) H'
abbrev nRight : List Str := ["_law_pot_here", "_law_spots", "_law_ties", "_law_turn", "_law_tie_here"]
theorem scRight : FnScope nRight ["_law_pot_here"] (defScope (top 74)) := ⟨rfl, rfl, rfl, by decide +kernel, rfl, by decide +kernel, by decide +kernel⟩
theorem ok_right (fr : Frees mg) (DN : Dn P w K mg base CX0 3 "_law_named" ["_law_pot_here", "_law_size", "_law_taken"] (spNamed K)) (DT : Dn P w K mg base CX0 4 "_law_tie" ["_law_pot_here", "_law_spots"] spTie)
    (DR : DnG P w K mg base 14 "_law_tie_right" ["_law_pot_here", "_law_spots", "_law_tie_here"] (spTie2 T)) (DZ : DnG P w K mg base 13 "_law_zero_right" ["_law_spots"] (spZero T)) (F : Fun K "_law_right" "_law_right" (top 74) f fd) : FnG P w K mg base CX0 15 f fd ["_law_pot_here"] (spRight T) := by
  refine Gd.okG F scRight (fun vs H Q E h => ?_) (fun cdv A' outer s H vs Q E hG hr h => ?_)
  · obtain ⟨p, rfl, _⟩ := h
    rfl
  · obtain ⟨p, rfl, hp, hT, z⟩ := h
    have nd := scRight.nd
    have isk : IsK K := ⟨trivial⟩
    have big : (1000000 : Nat) ≤ sizeLine := by decide
    refine ⟨_, pss_cons (ps_set (i := 1) nd rfl (.inr rfl) (pe_dn DN hr (by rfl) (by decide) (pa_cons (pv 0) (pa_cons pe_int (pa_cons (pe_lst (pa_cons pe_str pa_nil)) pa_nil)))))
      (pss_cons (ps_setLc (i := 2) (own := [("_law_turn", 3)]) (g := gName 3) (tt := tYes) rfl nd rfl rfl (by exact sw_true rfl rfl rfl (by decide +kernel)) (pi_range1 rfl (fr.h _ (by decide +kernel)) (pa_cons pe_int pa_nil)) (blkOk_by (N := nRight) (sc := defScope (top 74)) (by decide +kernel)) (fun _ _ _ _ _ => pg_name (i := 3) nd rfl (Or.inl rfl)) (fun _ _ _ _ _ => pts_nil)
          (fun s1 H1 C1 c1 f1 => by exact pe_dn DT hr (by rfl) (by decide) (pa_cons (pv 0) (pa_cons (pv 1) pa_nil))))
      (pss_one (ps_ret (pe_and (pe_callB (allK isk rfl) rfl (fr.h _ (by decide +kernel)) (by decide +kernel) (pa_cons (pe_lc (own := [("_law_tie_here", 4)]) (g := gName 4) (tt := tYes) rfl nd (pi_list (pv 2)) (blkOk_by (N := nRight) (sc := defScope (top 74)) (by decide +kernel)) (fun _ _ _ _ _ => pg_name (i := 4) nd rfl (Or.inl rfl)) (fun _ _ _ _ _ => pts_nil)
          (fun s1 H1 C1 c1 f1 => by exact pe_dnG DR hG hr (by rfl) (by decide) (pa_cons (pv 0) (pa_cons (pv 1) (pa_cons (pv 4) pa_nil))))) pa_nil)) (pe_one (pe_dnG DZ hG hr (by rfl) (by decide) (pa_cons (pv 1) pa_nil))))))), ?_⟩
    refine ⟨_, rfl, (by show 1 ≤ sizeLine; omega), fun tk htk => ?_⟩
    refine ⟨p, 6, tk, ["zz9"], rfl, hp.new htk, (by decide), (by decide), upd_same, (by decide), fun a H1 spots k1' nD ap ha nm lx off => ?_⟩
    have k1 := (Kp.new hp htk).trans k1'
    have T1 := tabs_kp (hT.ext (Am.Ext.new htk)) (hp.new htk) k1'
    have l6 : spots.length = 6 := by omega
    have sne : spots ≠ [] := fun e => by rw [e] at l6; cases l6
    have sps : Sps spots := ⟨nm.nd, fun h => off _ h List.mem_cons_self, nm.ok, by omega⟩
    clear nD k1'
    refine ⟨4, rfl, (by decide), (by decide), fun D hD => ?_⟩
    have Dp := ne_pot k1.pot hD
    refine lc_range (lo := 0) (n := 4) (fun i H' => Kp p H1 H' ∧ LamX.Tabs T H' ∧ ∃ ts : List Addr, H' D = some (.lst (ts.map V.ref)) ∧ ts.length = i ∧ ∀ t ∈ ts, ∃ td os, TieIn (· ≠ D) H' t td os ∧ TdOk td os ∧ Sm td ∧ (∀ x ∈ td.ins, x ∈ spots) ∧ td.ins.length ≤ 4) ⟨Kp.new k1.pot hD, T1.ext (Am.Ext.new hD), [], upd_same, rfl, fun _ q => nomatch q⟩ ?_ ?_
    · rintro i H' hi ⟨k2, T2, ts, d2, lt, al⟩
      refine ⟨rfl, _, rfl, _, rfl, p, a, spots, rfl, k2.pot, k2.at ap ha, nm, sne, fun Tt H2 td os k3 nT Tp tin ok sm sub l4 => ?_⟩
      have d3 := k3.at Dp d2
      refine ⟨ts.map V.ref, d3, by rw [List.length_map]; omega, (k2.trans k3).over Dp hD, tabs_put (tabs_kp T2 k2.pot k3) d3, ts ++ [Tt], by rw [upd_same, List.map_append]; rfl, by rw [List.length_append, lt]; rfl, fun t ht => ?_⟩
      rcases List.mem_append.mp ht with ht | ht
      · obtain ⟨td', os', t1, o1⟩ := al t ht
        exact ⟨td', os', (t1.kt (Kp.kt k3) k2.pot).upd d3, o1⟩
      · rw [List.mem_singleton] at ht
        rw [ht]
        refine ⟨td, os, TieIn.upd (tin.imp fun b hb e => ?_) d3, ok, sm, sub, l4⟩
        rw [e, d2] at hb
        cases hb
    rintro H2 ⟨k2, T2, ts, d2, lt, al⟩
    have k02 := k1.trans k2
    have ha2 := k2.at ap ha
    refine ⟨_, rfl, D, rfl, ⟨_, SqL.of d2⟩, fun D2 hD2 => ?_⟩
    have D2p := ne_pot k2.pot hD2
    refine lc_it (walk_list (xs := ts.map V.ref)) (fun i H' => KT p H2 H' ∧ LamX.Tabs T H' ∧ H' D2 = some (.lst ((List.replicate i true).map V.bl))) ⟨pot_xn k2.pot (LamX.ExtN.of (Am.Ext.new hD2)), T2.ext (Am.Ext.new hD2), upd_same⟩ (fun i H' _ h => SqL.of (kt_lst h.1 Dp d2)) ?_ ?_
    · rintro i y H3 H4 hi ⟨k3, T3, d3⟩ ⟨rfl, hy⟩
      obtain ⟨t, rfl, ht⟩ := ref_at hy
      rw [List.length_map] at hi
      obtain ⟨td, os, t1, ok, sm, sub, l4⟩ := al t (List.mem_of_getElem? ht)
      refine ⟨rfl, _, rfl, _, rfl, _, rfl, p, a, t, spots, td, os, rfl, k3.2, kt_lst k3 ap ha2, sps, t1.at.kt k3 k2.pot, ok, sm, sub, l4, T3, fun H5 k5 T5 => ?_⟩
      have d5 : H5 D2 = _ := kt_lst k5 D2p d3
      refine ⟨_, d5, by rw [List.length_map, List.length_replicate]; omega, kt_over (KT.trans k3 k5) D2p hD2, tabs_put T5 d5, ?_⟩
      rw [upd_same, List.replicate_succ', List.map_append]
      rfl
    · rintro H3 ⟨k3, T3, d3⟩
      refine ⟨D2, List.replicate (ts.map V.ref).length true, rfl, SqL.of d3, _, rfl, ?_⟩
      rw [all_rep]
      refine iteT ?_
      have ha3 := kt_lst k3 ap ha2
      match spots, ha3, sps, l6 with
      | s0 :: s1 :: s2 :: rest, ha3, sps, _ =>
        exact ⟨_, rfl, a, s0, s1, s2, rest, rfl, ha3, sps, T3, fun H4 n4 T4 => z H4 (KT.trans (Kp.kt k02) (KT.trans k3 (pot_xn k3.2 n4))) T4⟩
abbrev nLaw : List Str := ["_law_script", "_law_k"]
theorem scLaw : FnScope nLaw ["_law_script"] (defScope (top 75)) := ⟨rfl, rfl, rfl, by decide +kernel, rfl, by decide +kernel, by decide +kernel⟩
def spLaw (K : W.Frag) (T : List (Addr × Str)) : Sp := fun vs H Q _ => ∃ (a : Addr) (ns : List Int), vs = [.ref a] ∧ ns.length ≤ 63 ∧ SqL K H a (ns.map V.int) ∧ LamX.Tabs T H ∧ ∀ H', Q (.bl true) H'
theorem ok_law (fr : Frees mg) (D0 : Dn P w K mg base CX0 1 "_law_pot" ["_law_script", "_law_k"] (spPot K)) (D1 : DnG P w K mg base 15 "_law_right" ["_law_pot_here"] (spRight T))
    (F : Fun K "law" "law" (top 75) f fd) : FnG P w K mg base CX0 16 f fd ["_law_script"] (spLaw K T) := by
  refine Gd.okG F scLaw (fun vs H Q E h => ?_) (fun cdv A outer s H vs Q E hG hr h => ?_)
  · obtain ⟨a, ns, rfl, _⟩ := h
    rfl
  · obtain ⟨a, ns, rfl, ln, sq, hT, q⟩ := h
    have nd := scLaw.nd
    have isk : IsK K := ⟨trivial⟩
    refine ⟨_, pss_one (ps_ret (pe_callB (allK isk rfl) rfl (fr.h _ (by decide +kernel)) (by decide +kernel) (pa_cons (pe_lc (own := [("_law_k", 1)]) (g := gName 1) (tt := tYes) rfl nd (pi_range1 rfl (fr.h _ (by decide +kernel)) (pa_cons (pe_callB (call_max2 rfl) rfl (fr.h _ (by decide +kernel)) (by decide +kernel) (pa_cons pe_int (pa_cons (pe_callB (call_min2 rfl) rfl (fr.h _ (by decide +kernel)) (by decide +kernel) (pa_cons (pe_callB (lenK isk) rfl (fr.h _ (by decide +kernel)) (by decide +kernel) (pa_cons (pv 0) pa_nil)) (pa_cons pe_int pa_nil))) pa_nil))) pa_nil)) (blkOk_by (N := nLaw) (sc := defScope (top 75)) (by decide +kernel))
          (fun _ _ _ _ _ => pg_name (i := 1) nd rfl (Or.inl rfl)) (fun _ _ _ _ _ => pts_nil) (fun _ _ _ _ _ => pe_dnG D1 hG hr (by rfl) (by decide) (pa_cons (pe_dn D0 hr (by rfl) (by decide) (pa_cons (pv 0) (pa_cons (pv 1) pa_nil))) pa_nil))) pa_nil))), ?_⟩
    have gs : ∃ G : Hp → Prop, G H ∧ (∀ H', G H' → SqL K H' a (ns.map V.int)) ∧ ∀ H1 H2, G H1 → (∀ o, (∀ ps, o ≠ .tbl ps) → H1 a = some o → H2 a = some o) → G H2 := by
      rcases sq with (h | ⟨o, h⟩) | h
      · exact ⟨fun H' => H' a = some (.lst (ns.map V.int)), h, fun H' h => .inl (.inl h), fun H1 H2 g k => k _ (fun _ z => nomatch z) g⟩
      · exact ⟨fun H' => H' a = some (.frz o (.lst (ns.map V.int))), h, fun H' h => .inl (.inr ⟨o, h⟩), fun H1 H2 g k => k _ (fun _ z => nomatch z) g⟩
      · exact ⟨fun _ => True, trivial, fun H' _ => .inr h, fun _ _ _ _ => trivial⟩
    obtain ⟨G, g0, g1, g2⟩ := gs
    obtain ⟨m, em, m0, m6⟩ : ∃ m : Int, (if (if (8 : Int) < ((ns.map V.int).length : Int) then (8 : Int) else ((ns.map V.int).length : Int)) > 1 then (if (8 : Int) < ((ns.map V.int).length : Int) then (8 : Int) else ((ns.map V.int).length : Int)) else (1 : Int)) = m ∧ 0 ≤ m ∧ m ≤ 8 :=
      ⟨_, rfl, by split <;> split <;> omega, by split <;> split <;> omega⟩
    refine ⟨_, rfl, .inl ⟨a, _, rfl, .inl sq, _, 8, rfl, 1, _, rfl, m, congrArg (fun z => [V.int z]) em, by omega, by omega, fun D hD => ?_⟩⟩
    refine lc_range (lo := 0) (n := m.toNat) (fun j H' => H' D = some (.lst ((List.replicate j true).map V.bl)) ∧ LamX.Tabs T H' ∧ ∀ o, (∀ ps, o ≠ .tbl ps) → H a = some o → H' a = some o) ⟨upd_same, hT.ext (Am.Ext.new hD), fun o _ h => Am.Ext.new hD _ _ h⟩ ?_ ?_
    · rintro j H3 hj ⟨d3, T3, a3⟩
      have big : (10000 : Nat) < sizeLine := by decide
      refine ⟨rfl, _, rfl, _, rfl, a, ns, (0 : Int) + (j : Int), rfl, g1 _ (g2 _ _ g0 a3), by omega, by omega, fun p H2 np sm pt => ?_⟩
      have nDp : D ≠ p := ne_of_none d3 np
      refine ⟨p, rfl, pt, T3.ext sm, fun H4 k4 T4 => ?_⟩
      have d4 := kt_lst k4 nDp (sm _ _ d3)
      refine ⟨_, d4, ?_, ?_, tabs_put T4 d4, fun o nt h => ?_⟩
      · simp only [List.length_map, List.length_replicate]
        omega
      · rw [upd_same, List.replicate_succ', List.map_append]
        rfl
      · rw [upd_ne (ne_of_none h hD)]
        exact k4.1 _ _ (ne_of_none (a3 o nt h) np) (sm _ _ (a3 o nt h)) nt
    · rintro H3 ⟨d3, T3, a3⟩
      refine ⟨D, List.replicate m.toNat true, rfl, SqL.of d3, ?_⟩
      rw [all_rep]
      exact q _
end
end KD

set_option Elab.async false
set_option linter.all false
set_option maxRecDepth 100000
set_option maxHeartbeats 1000000
/-! How the rules' makers bind what they are called with. -/
namespace KB
open PySem PySem.Spec PyProof.Rows L2 Oo Gd Am KA SqX KD
section
variable {K : W.Frag} {f tp : Addr} {fd : FuncData}
theorem vals_rev : ∀ {vs : List V} {us : List Value}, Vals vs us → Vals vs.reverse us.reverse
  | _, _, .nil => .nil
  | _, _, .cons h r => by
    rw [List.reverse_cons, List.reverse_cons]
    exact (vals_rev r).append (.cons h .nil)
theorem vals_pm4 {vs zs : List V} {us ws : List Value} (a : Vals vs us) (b : Vals zs ws) : Vals (pm4 vs zs) (pm4 us ws) := by
  cases b with
  | nil => exact a.append .nil
  | cons b1 b => cases b with
    | nil => exact a.append (.cons b1 .nil)
    | cons b2 b => cases b with
      | nil => exact a.append (.cons b1 (.cons b2 .nil))
      | cons b3 b => cases b with
        | nil => exact a.append (.cons b1 (.cons b2 (.cons b3 .nil)))
        | cons b4 b => cases b with
          | nil => exact a.append (.cons b4 (.cons b2 (.cons b1 (.cons b3 .nil))))
          | cons b5 b => exact a.append (.cons b1 (.cons b2 (.cons b3 (.cons b4 (.cons b5 b)))))
/-- Total(w, t, ways = ..), Total(ways = .., total = .., weights = ..), Total(w) -/
theorem tot_binds (F : FunIT K f fd) : KBn K fd ["self", "weights", "total", "ways"] 3 [("ways" : Str)] (fun us ws => us ++ ws) (fun us ws => us ++ ws) ∧ KBn K fd ["self", "weights", "total", "ways"] 1 [("ways" : Str), "total", "weights"] (fun us ws => us ++ ws.reverse) (fun us ws => us ++ ws.reverse) ∧
    ∃ ds, Vals [V.int 0, V.non] ds ∧ Binds K fd ["self", "weights", "total", "ways"] ds := by
  refine ⟨?_, ?_, ?_⟩
  · obtain ⟨its, k⟩ := F.kbindsD (ps := ["self", "weights", "total", "ways"]) 3 [("ways" : Str)] (fun us _ ws => us ++ ws) (by decide) (fun a _ b => a.append b) (fun T kV doc pm an cdv ct us its ws l1 l2 l3 => by
      match us, l1, its, l2, ws, l3 with
      | [a, b, c], _, [d], _, [e], _ => exact ⟨_, rfl, rfl⟩)
    exact k
  · obtain ⟨its, k⟩ := F.kbindsD (ps := ["self", "weights", "total", "ways"]) 1 [("ways" : Str), "total", "weights"] (fun us _ ws => us ++ ws.reverse) (by decide) (fun a _ b => a.append (vals_rev b)) (fun T kV doc pm an cdv ct us its ws l1 l2 l3 => by
      match us, l1, its, l2, ws, l3 with
      | [a], _, [d], _, [e1, e2, e3], _ => exact ⟨_, rfl, rfl⟩)
    exact k
  · exact F.binds (ps := ["self", "weights", "total", "ways"]) 2 0 (by decide) (by decide) (fun T D doc pm an cdv ct us its ks l1 l2 l3 => by
      match us, l1, its, l2, ks, l3 with
      | [a, b], _, [c], _, [d], _ => exact ⟨_, rfl, ⟨_, _, _, _, _, _, rfl, rfl, rfl⟩⟩) (by decide)
theorem pro_binds (F : FunIP K tp f fd) : KBn K fd nInP 4 [("ways" : Str)] (fun us ws => us ++ ws) (fun us ws => us ++ ws) ∧ KBn K fd nInP 1 [("factor" : Str), "right", "ways", "left"] pm4 pm4 ∧ (∃ ds, Vals [V.ref tp, V.int 1, V.non] ds ∧ Binds K fd nInP ds) ∧ ∃ ds, Vals [V.int 1, V.non] ds ∧ Binds K fd nInP ds := by
  refine ⟨?_, ?_, ?_, ?_⟩
  · obtain ⟨its, k⟩ := F.kbindsD (ps := nInP) 4 [("ways" : Str)] (fun us _ ws => us ++ ws) (by simp) (fun a _ b => a.append b) (fun T kV doc pm an cdv ct us its ws l1 l2 l3 => by
      match us, l1, its, l2, ws, l3 with
      | [a, b, c, d], _, [d1, d2], _, [e], _ => exact ⟨_, rfl, rfl⟩)
    exact k
  · obtain ⟨its, k⟩ := F.kbindsD (ps := nInP) 1 [("factor" : Str), "right", "ways", "left"] (fun us _ ws => pm4 us ws) (by simp) (fun a _ b => vals_pm4 a b) (fun T kV doc pm an cdv ct us its ws l1 l2 l3 => by
      match us, l1, its, l2, ws, l3 with
      | [a], _, [d1, d2], _, [e1, e2, e3, e4], _ => exact ⟨_, rfl, rfl⟩)
    exact k
  · exact F.binds (ps := nInP) 2 0 (by simp) rfl (fun T D doc pm an cdv ct us its ks l1 l2 l3 => by
      match us, l1, its, l2, ks, l3 with
      | [a, b], _, [c, c2], _, [d], _ => exact ⟨_, rfl, ⟨_, _, _, _, _, _, rfl, rfl, rfl⟩⟩) (by decide)
  · exact F.binds (ps := nInP) 3 1 (by simp) rfl (fun T D doc pm an cdv ct us its ks l1 l2 l3 => by
      match us, l1, its, l2, ks, l3 with
      | [a, b, b2], _, [c, c2], _, [d], _ => exact ⟨_, rfl, ⟨_, _, _, _, _, _, rfl, rfl, rfl⟩⟩) (by decide)
theorem lo_binds (F : FunIL K f fd) : KBn K fd ["self", "fields", "ways"] 2 [("ways" : Str)] (fun us ws => us ++ ws) (fun us ws => us ++ ws) ∧ KBn K fd ["self", "fields", "ways"] 1 [("ways" : Str), "fields"] (fun us ws => us ++ ws.reverse) (fun us ws => us ++ ws.reverse) ∧
    ∃ ds, Vals [V.non] ds ∧ Binds K fd ["self", "fields", "ways"] ds := by
  refine ⟨?_, ?_, ?_⟩
  · obtain ⟨mv, k⟩ := F.kbinds0 (ps := ["self", "fields", "ways"]) 2 [("ways" : Str)] [] (fun us _ ws => us ++ ws) (by decide) (fun q h => nomatch h) (fun a _ b => a.append b) (fun D doc pm an cdv ct us mv ws l1 l2 l3 => by
      match us, l1, mv, l2, ws, l3 with
      | [a, b], _, [], _, [e], _ => exact rfl)
    exact k
  · obtain ⟨mv, k⟩ := F.kbinds0 (ps := ["self", "fields", "ways"]) 1 [("ways" : Str), "fields"] [] (fun us _ ws => us ++ ws.reverse) (by decide) (fun q h => nomatch h) (fun a _ b => a.append (vals_rev b)) (fun D doc pm an cdv ct us mv ws l1 l2 l3 => by
      match us, l1, mv, l2, ws, l3 with
      | [a], _, [], _, [e1, e2], _ => exact rfl)
    exact k
  · exact F.binds0 (ps := ["self", "fields", "ways"]) 2 (by decide) (by decide) (fun D doc pm an cdv ct us ks l1 l2 => by
      match us, l1, ks, l2 with
      | [a, b], _, [d], _ => exact ⟨_, _, _, _, _, _, rfl, rfl, rfl⟩)
end
end KB

set_option Elab.async false
set_option linter.all false
set_option maxRecDepth 100000
set_option maxHeartbeats 2000000
/-! The end of a law of ours that makes code objects: several tables, no repr under way, no limit of digits. -/
namespace Gd
open PySem PySem.Spec PyProof.Rows L2
/-- where the module of the built-ins stands -/
def Bltn (mg : Str → Option Value) (h : Heap) : Prop := ∃ (m : Addr) (u : Obj), mg "__builtins__" = some (.ref m) ∧ m ≠ builtinsNs ∧ h.get? m = some u ∧ u.cls = .type "module" ∧ u.dict = some builtinsNs ∧ u.data = .plain
abbrev noTab : Obj := { cls := .none, data := .fields #[] }
theorem lawGTs {P : Program} {w : World} {K : PySem.W.Frag} {mg mb : Str → Option Value} {k : Nat} {fa a : Addr} {cf : Addr → Addr} {T : List (Addr × Str)} {fd : FuncData} {x : Str} {sp : Sp} {s₁ : Shared} {vs : List Value} {ns : List Int}
    (inK : K.In s₁.heap) (hmg : s₁.heap.Ns mainGlobals mg) (hmb : s₁.heap.Ns builtinsNs mb) (hbt : ∀ y : Str, y ≠ "__name__" → mb y = bootBuiltins y) (lim : s₁.heap.NoLimit) (dig : s₁.heap.NoDigits) (hbm : Bltn mg s₁.heap) (hgen : s₁.gens = #[])
    (tab : ∀ p ∈ T.map (·.1), s₁.heap.get? p = some noTab) (out : ∀ p ∈ T.map (·.1), K.lookup p = none) (head : ∀ p ∈ T.map (·.1), PySem.W.CodeHd s₁.heap (cf p) p)
    (hobj : s₁.heap.get? a = some { cls := .type "list", data := .seq vs.toArray }) (hints : IntsAre vs ns) (hlen : ns.length ≤ sizeLine) (room : Room k callerA)
    (F : ∀ base : Heap, K.In base → base.Ns mainGlobals mg → base.NoDigits → (∀ p ∈ T.map (·.1), LamX.TabB base mg (cf p) p) → FnG P w K mg base CX0 k fa fd [x] sp) (hbd : ∀ (s : Shared) (u : Value), BindsTo s fd ⟨[u], []⟩ [(x, u)])
    (hsp : ∀ H : Hp, LamX.Tabs T H → SqL K H a (ns.map V.int) → sp [.ref a] H (fun v _ => v = .bl true) fun _ _ _ => False) :
    codeAny (model P w) callerA (.call (.ref fa) ⟨[.ref a], []⟩) (fun r s' => r = .ok (.ret (.bool true)) ∧ OldK s₁.heap s'.heap ∧ s'.os = s₁.os ∧ AllBare s'.gens) s₁ := by
  have rv := vals_ints hints
  have nvs := hints.length
  have nap : a ∉ T.map (·.1) := fun e => by
    rw [tab a e] at hobj
    have z : Data.fields #[] = Data.seq vs.toArray _ := congrArg Obj.data (Option.some.inj hobj)
    cases z
  have core : ∀ H : Hp, (∀ p ∈ T.map (·.1), H p = some (.tbl #[])) → (∀ b, b ∉ T.map (·.1) → H b = none ∨ ∃ ob xs, H b = some (.frz ob (.lst xs))) → SqL K H a (ns.map V.int) → HOk P w H s₁.heap → (∀ b, H b ≠ none → b = a ∨ b ∈ T.map (·.1)) → (H a ≠ none → K.lookup a = none) →
      codeAny (model P w) callerA (.call (.ref fa) ⟨[.ref a], []⟩) (fun r s' => r = .ok (.ret (.bool true)) ∧ OldK s₁.heap s'.heap ∧ s'.os = s₁.os ∧ AllBare s'.gens) s₁ := by
    intro H tp only sq hok onlyA notK
    have free_of : ∀ {b : Addr} {o : Obj}, s₁.heap.get? b = some o → (∀ us m, o.data ≠ .seq us m) → o.data ≠ .fields #[] → H b = none := by
      intro b o e no1 no2
      cases z : H b with
      | none => rfl
      | some u =>
        rcases onlyA b (by rw [z]; simp) with eb | eb
        · rw [eb, hobj] at e
          cases e
          exact absurd rfl (no1 _ _)
        · rw [tab b eb] at e
          cases e
          exact absurd rfl no2
    have dict_of : ∀ {b : Addr} {o : Obj} {es : Array DictEntry} {ep : Nat}, s₁.heap.get? b = some o → o.data = .dict es ep → H b = none := fun {b o es ep} e d =>
      free_of e (fun us m z => by rw [d] at z; cases z) (fun z => by rw [d] at z; cases z)
    have ns_of : ∀ {b : Addr} {m : Str → Option Value}, s₁.heap.Ns b m → (hidT s₁.heap H).Ns b m := by
      rintro b m ⟨o, es, ep, e, d, r⟩
      exact ⟨o, es, ep, hidT_get e (dict_of e d), d, r⟩
    have inB : K.In (hidT s₁.heap H) := by
      intro b o e
      refine hidT_get (inK b o e) ?_
      cases z : H b with
      | none => rfl
      | some u =>
        rcases onlyA b (by rw [z]; simp) with eb | eb
        · subst eb
          rw [notK (by rw [z]; simp)] at e
          cases e
        · rw [out b eb] at e
          cases e
    obtain ⟨mc, l1, l2⟩ := lim
    obtain ⟨md', d1, d2⟩ := dig
    have md : Mod K mg (hidT s₁.heap H) := ⟨inB, ns_of hmg, ⟨mb, ns_of hmb, hbt⟩, ⟨mc, ns_of l1, l2⟩⟩
    have nil : ∀ b : Addr, b ∉ ([] : List Addr) := fun b z => nomatch z
    have e0 : Env0 P w K mg (hidT s₁.heap H) callerA [] s₁ H :=
      ⟨rfl, md, fun b o e => of_hidT e, Nat.le_of_eq (hidT_size _ _), trivial, fun b hb => absurd (show b ∈ ([] : List Addr) from hb) (nil b), hok, .of_eq hgen⟩
    have gp : ∀ p ∈ T.map (·.1), mainGlobals ≠ p := fun p hp e => by
      obtain ⟨o, es, ep, e1, d, _⟩ := hmg
      rw [e, tab p hp] at e1
      cases e1
      cases d
    have tb : ∀ p ∈ T.map (·.1), LamX.TabB (hidT s₁.heap H) mg (cf p) p := by
      intro p hp
      refine ⟨?_, ?_, gp p hp⟩
      · obtain ⟨o, us, fi, tf, fl, tg, iF, tx, tt, e, r1, r2, r3, r⟩ := head p hp
        refine ⟨o, us, fi, tf, fl, tg, iF, tx, tt, hidT_get e (free_of e (fun us' m z => ?_) fun z => ?_), r1, r2, r3, r⟩
        · rw [r2] at z
          cases z
        · rw [r2] at z
          injection z with z
          rw [z] at r3
          cases r3
      · obtain ⟨m, u, b1, b2, b3, b4, b5, b6⟩ := hbm
        have n1 : m ≠ mainGlobals := fun e => by
          obtain ⟨o, es, ep, e1, d, _⟩ := hmg
          rw [e, e1] at b3
          cases b3
          rw [b6] at d
          cases d
        have n2 : m ≠ p := fun e => by
          rw [e, tab p hp] at b3
          cases b3
          cases b6
        exact ⟨m, u, b1, b2, n1, n2, hidT_get b3 (free_of b3 (fun us' m' z => by rw [b6] at z; cases z) fun z => by rw [b6] at z; cases z), b4, b5, b6⟩
    have tT : LamX.Tabs T H := fun r hr => LamX.TabS.nil (tp r.1 (List.mem_map_of_mem hr))
    refine codeAny_mono ((F _ inB (ns_of hmg) ⟨md', ns_of d1, d2⟩ tb).go callerA [] s₁ H ⟨[.ref a], []⟩ [.ref a] [.ref a] _ _ rfl room e0 (hbd s₁ (.ref a)) (.cons rfl .nil) (hsp H tT sq)) (fun r s2 z => ?_)
    cases r with
    | error er => exact z.elim
    | ok fl =>
      cases fl with
      | next => exact z.elim
      | brk => exact z.elim
      | cont => exact z.elim
      | ret u =>
        obtain ⟨v, H2, os, bare, un, hok2, rr, qq⟩ := z
        have ev : v = .bl true := qq
        subst ev
        obtain rfl : u = Value.bool true := rr
        have kept : ∀ b o, b ∉ T.map (·.1) → s₁.heap.get? b = some o → s2.heap.get? b = some o := fun b o nb e => by
          cases q2 : H b with
          | none => exact un.keep b o e q2 (nil b) (nil b)
          | some u =>
            cases only b nb with
            | inl z => rw [q2] at z; cases z
            | inr z =>
              obtain ⟨ob, xs, z⟩ := z
              obtain ⟨e1, _⟩ := hok b _ z
              obtain ⟨e2, _⟩ := hok2 b _ (un.frzs b ob _ z)
              rw [e] at e1
              cases e1
              exact e2
        refine ⟨rfl, ⟨fun b o e => ?_, fun b o e => ?_⟩, os, bare⟩
        · by_cases eb : b ∈ T.map (·.1)
          · obtain ⟨new, hn⟩ := un.tbls b #[] (tp b eb)
            have at2 := hok2 b _ hn
            rw [tab b eb] at e
            cases e
            refine .inr (.inl ⟨((head b eb).tab (tab b eb)).isCodeTable, rfl, #[], new, rfl, ?_⟩)
            rw [Array.empty_append] at at2 ⊢
            exact at2
          · exact .inl (kept b o eb e)
        · by_cases eb : b ∈ T.map (·.1)
          · obtain ⟨new, hn⟩ := un.tbls b #[] (tp b eb)
            exact ⟨_, hok2 b _ hn⟩
          · exact ⟨o, kept b o eb e⟩
  cases hk : K.lookup a with
  | some o =>
    have e := inK a o hk
    rw [hobj] at e
    cases e
    refine core (fun b => if b ∈ T.map (·.1) then some (.tbl #[]) else none) (fun p hp => if_pos hp) (fun b nb => .inl (if_neg nb)) (.inr ⟨_, vs.toArray, _, hk, rfl, rfl, rfl, by rw [List.size_toArray, nvs]; exact hlen, by simpa using rv⟩) (fun b u z => ?_) (fun b z => ?_) (fun z => absurd (if_neg nap) z)
    · by_cases eb : b ∈ T.map (·.1)
      · have z2 := (if_pos eb).symm.trans z
        cases z2
        exact tab b eb
      · have z2 := (if_neg eb).symm.trans z
        cases z2
    · by_cases eb : b ∈ T.map (·.1)
      · exact .inr eb
      · exact absurd (if_neg eb) z
  | none =>
    refine core (fun b => if b ∈ T.map (·.1) then some (.tbl #[]) else if b = a then some (.frz { cls := .type "list", data := .seq vs.toArray } (.lst (ns.map V.int))) else none) (fun p hp => if_pos hp) (fun b nb => ?_) (.inl (.inr ⟨_, (if_neg nap).trans (if_pos rfl)⟩)) (fun b u z => ?_) (fun b z => ?_) (fun _ => hk)
    · by_cases hb : b = a
      · exact .inr ⟨_, _, (if_neg nb).trans (if_pos hb)⟩
      · exact .inl ((if_neg nb).trans (if_neg hb))
    · by_cases eb : b ∈ T.map (·.1)
      · have z2 := (if_pos eb).symm.trans z
        cases z2
        exact tab b eb
      · have z1 := (if_neg eb).symm.trans z
        by_cases hb : b = a
        · have z2 := (if_pos hb).symm.trans z1
          cases z2
          subst hb
          exact ⟨hobj, by rw [List.length_map]; exact hlen, vs, _, rv, hobj⟩
        · have z2 := (if_neg hb).symm.trans z1
          cases z2
    · by_cases eb : b ∈ T.map (·.1)
      · exact .inr eb
      · by_cases hb : b = a
        · exact .inl hb
        · exact absurd ((if_neg eb).trans (if_neg hb)) z
/-- a law over a head by facts, a table told -/
theorem walkGTs {l : PySem.W.OpenLaw} {n k : Nat} {q : Program} {loose : List Str} {XP : (Str → Option Value) → Heap → Prop} {YP : World → Heap → Prop} {d : DefRec} {x : Str}
    (hn : l.most = some n) (hn2 : n ≤ sizeLine) (hdf : d.params.defaults = []) (room : Room k callerA)
    (F : ∀ (w : World) (mg : Str → Option Value) (fa : Addr) (h : Heap), YP w h → h.Ns mainGlobals mg → mg d.name = some (.ref fa) →
      ∃ (K : PySem.W.Frag) (fd : FuncData) (sp : Sp) (cf : Addr → Addr) (T : List (Addr × Str)), K.In h ∧ (∀ p ∈ T.map (·.1), h.get? p = some noTab) ∧ (∀ p ∈ T.map (·.1), K.lookup p = none) ∧ (∀ p ∈ T.map (·.1), PySem.W.CodeHd h (cf p) p) ∧ (∀ (s : Shared) (u : Value), BindsTo s fd ⟨[u], []⟩ [(x, u)]) ∧
        (∀ (H : Hp) (a : Addr) (ns : List Int), ns.length ≤ n → LamX.Tabs T H → SqL K H a (ns.map V.int) → sp [.ref a] H (fun v _ => v = .bl true) fun _ _ _ => False) ∧
        ∀ base : Heap, K.In base → base.Ns mainGlobals mg → base.NoDigits → (∀ p ∈ T.map (·.1), LamX.TabB base mg (cf p) p) → FnG l.prog w K mg base CX0 k fa fd [x] sp) :
    PySem.W.WalkO q loose XP YP l.row.toRowW d [] (fun f vs => PySem.call f vs) := by
  refine Att.attach_call hn hdf (fun w s₀ s₁ mg mb fa o pm cd doc a vs ns G Y ho hd hcd hmg hobj hints hlen hg => ?_)
  obtain ⟨K, fd, sp, cf, T, inK, tab, out, head, hbd, hsp, hF⟩ := F w mg fa _ Y G.T.g hmg
  exact lawGTs (T := T) inK G.T.g G.T.b G.T.builtins G.T.nolimit G.T.nodigits G.T.bmain hg tab out head hobj hints (Nat.le_trans hlen hn2) room hF hbd (fun H tT sq => hsp H a ns hlen tT sq)
end Gd

set_option Elab.async false
set_option linter.all false
set_option maxRecDepth 100000
set_option maxHeartbeats 1000000
namespace KB
open PySem PySem.Spec PyProof.Rows L2 Oo Gd Am KA
section
variable {K : W.Frag} {C Z ZA : Addr} {h : Heap} {mg : Str → Option Value}
theorem una_ok {m : Str} (e : unaB K C m = true) : W.findIn K (.ref C) m = some (some (.ref (He.ma K C m))) ∧ W.isFn K (.ref (He.ma K C m)) = true := let ⟨a, b⟩ := He.ba e; ⟨He.eqO_ok a, b⟩
theorem some_of {α : Type} {o : Option α} (h : o.isSome = true) : ∃ x, o = some x := Option.isSome_iff_exists.mp h
theorem bin_ok {nm : String} (e : binB K C nm true = true) : OwnBin K C nm (He.ma K C (PySem.dunder nm)) (some (He.ma K C (dunderR nm))) := by
  obtain ⟨a1, e⟩ := He.ba e
  obtain ⟨a2, e⟩ := He.ba e
  obtain ⟨a3, e⟩ := He.ba e
  obtain ⟨a4, e⟩ := He.ba e
  obtain ⟨a5, e⟩ := He.ba e
  obtain ⟨a6, a7⟩ := He.ba e
  obtain ⟨b1, b2⟩ := una_ok a2
  obtain ⟨c1, c2⟩ := una_ok (show unaB K C (dunderR nm) = true from a3)
  exact ⟨a1, b1, b2, c1, fun a h => by cases h; exact c2, some_of a4, some_of a5, of_decide_eq_true a6, of_decide_eq_true a7⟩
theorem bin_no {nm : String} (e : binB K C nm false = true) : OwnBin K C nm (He.ma K C (PySem.dunder nm)) none := by
  obtain ⟨a1, e⟩ := He.ba e
  obtain ⟨a2, e⟩ := He.ba e
  obtain ⟨a3, e⟩ := He.ba e
  obtain ⟨a4, e⟩ := He.ba e
  obtain ⟨a5, e⟩ := He.ba e
  obtain ⟨a6, a7⟩ := He.ba e
  obtain ⟨b1, b2⟩ := una_ok a2
  exact ⟨a1, b1, b2, He.eqO_ok a3, fun a h => (by cases h), some_of a4, some_of a5, of_decide_eq_true a6, of_decide_eq_true a7⟩
theorem mro_ok {bm : List Value} (e : mroB K C bm = true) : ∃ cd, W.clsIn K C = some cd ∧ cd.mro = .ref C :: bm := by
  unfold mroB at e
  cases z : W.clsIn K C with
  | none => rw [z] at e; cases e
  | some cd =>
    rw [z] at e
    exact ⟨cd, rfl, of_decide_eq_true e⟩
theorem no_ok {nm : String} (m : mroB K C [.type "object"] = true) (e : noB K C nm = true) : NoIn K C nm := by
  obtain ⟨a1, e⟩ := He.ba e
  obtain ⟨a2, a3⟩ := He.ba e
  exact ⟨mro_ok m, He.eqO_ok a1, He.eqO_ok a2, He.eqO_ok a3⟩
theorem prop_ok {m : Str} (e : propB K C m = true) : PropOf K C m (He.ma K C m) (He5.wf K C "property" m) := by
  obtain ⟨a1, e⟩ := He.ba e
  obtain ⟨a2, e⟩ := He.ba e
  obtain ⟨a3, a4⟩ := He.ba e
  refine ⟨He.eqO_ok a1, He.eqO_ok a2, of_decide_eq_true a3, ?_⟩
  unfold He5.wf
  split at a4
  · rename_i f r z
    exact ⟨r, by rw [z]⟩
  · cases a4
theorem stat_ok {m : Str} (e : statB K C m = true) : ClX.CRead K C (.type "type") ∧ (W.findCls K (.ref C) (.type "type") m = some (.get (.builtin "staticmethod.__get__") (.ref (He.ma K C m)) .none (.ref C)) ∧ W.typeIn K (.ref C) = some (.type "type") ∧ (∃ rest, W.recIn K (He.ma K C m) "staticmethod" = some (.ref (He5.wf K C "staticmethod" m) :: rest)) ∧ W.keepIn K (.ref (He5.wf K C "staticmethod" m)) = true) := by
  obtain ⟨a1, e⟩ := He.ba e
  obtain ⟨a2, e⟩ := He.ba e
  obtain ⟨a3, e⟩ := He.ba e
  obtain ⟨a4, a5⟩ := He.ba e
  obtain ⟨b1, b2⟩ := He5.wrapB_ok a1
  exact ⟨⟨a4, He.eqO_ok a5⟩, b1, of_decide_eq_true a2, b2, a3⟩
theorem smet_ok {m : Str} (e : statB K C m = true) : SMet K C (.type "type") m (He.ma K C m) (He5.wf K C "staticmethod" m) := let ⟨_, b1, b2, b3, b4⟩ := stat_ok e; ⟨b1, b2, b3, b4⟩
theorem ns_ok {N : Addr} {es : Array DictEntry} {n : Str} {v : Value} (hf : ∃ oc od ep sl, K.lookup N = some ⟨oc, od, .dict es ep, sl⟩) (e : W.nsIn K N n = some (some v)) : nsFind es n = some v := by
  obtain ⟨oc, od, ep, sl, q⟩ := hf
  unfold W.nsIn at e
  rw [q] at e
  dsimp only at e
  split at e
  · rename_i en he
    cases e
    unfold nsFind findBy
    rw [← Array.find?_toList, he]
    rfl
  · split at e <;> cases e
theorem ns_no {N : Addr} {es : Array DictEntry} {n : Str} (hf : ∃ oc od ep sl, K.lookup N = some ⟨oc, od, .dict es ep, sl⟩) (e : W.nsIn K N n = some none) : nsFind es n = none := by
  obtain ⟨oc, od, ep, sl, q⟩ := hf
  unfold W.nsIn at e
  rw [q] at e
  dsimp only at e
  split at e
  · cases e
  · rename_i he
    unfold nsFind findBy
    rw [← Array.find?_toList, he]
    rfl
theorem slots_of {sl : Array (Option Value)} (h : (match sl.toList with
      | [_, _, _, _, some (.builtin _), _] => true
      | _ => false) = true) : ∃ k0 k1 k2 k3 k5 n, sl = #[k0, k1, k2, k3, some (.builtin n), k5] := by
  split at h
  · rename_i k0 k1 k2 k3 n k5 z
    refine ⟨k0, k1, k2, k3, k5, n, ?_⟩
    have y := congrArg List.toArray z
    rwa [Array.toArray_toList] at y
  · cases h
theorem eqc_ok (e : eqcB K C = true) (fn : W.isFn K (.ref (He.ma K C "__eq__")) = true) (h : Heap) (x dx : Addr) (X : K.In h) (hx : h.get? x = some (W.instObj C dx)) : h.OwnEqNoNe x C (He.ma K C "__eq__") "object" [.type "object"] := by
  unfold eqcB at e
  split at e
  · rename_i t dd cd sl hC
    obtain ⟨a1, e⟩ := He.ba e
    obtain ⟨a2, e⟩ := He.ba e
    obtain ⟨a3, e⟩ := He.ba e
    obtain ⟨a4, e⟩ := He.ba e
    obtain ⟨a5, e⟩ := He.ba e
    obtain ⟨a6, a7⟩ := He.ba e
    split at a7
    · rename_i oc od es ep osl hN
      have hN' : ∃ oc od ep sl, K.lookup cd.ns = some ⟨oc, od, .dict es ep, sl⟩ := ⟨_, _, _, _, hN⟩
      obtain ⟨k0, k1, k2, k3, k5, n, rfl⟩ := slots_of a4
      obtain ⟨nm, bs, mro, ns, qn, hdct, sn, sub, ab, col, hd⟩ := cd
      have m1 : mro = [.ref C, .type "object"] := of_decide_eq_true a2
      subst m1
      have m2 : hd = false := by simpa using a3
      subst m2
      have t1 : t = "type" := of_decide_eq_true a1
      subst t1
      have f1 : ((K.lookup (He.ma K C "__eq__")).map (·.cls) == some (Value.type "function")) = true := fn
      cases q : K.lookup (He.ma K C "__eq__") with
      | none => rw [q] at f1; cases f1
      | some of =>
        rw [q] at f1
        have f2 : of.cls = .type "function" := by
          have : (some of.cls == some (Value.type "function")) = true := f1
          simpa using this
        refine ⟨_, of, nm, qn, ns, bs, hdct, sn, sub, ab, col, dd, k0, k1, k2, k3, k5, n, nsFind es, _, hx, rfl, X _ _ hC, ⟨_, es, ep, X _ _ hN, rfl, ?_, fun _ => rfl⟩, ns_ok hN' (He.eqO_ok a5), X _ _ q, f2, PySem.F.cmp_object.mro, rfl, ns_no hN' (He.eqO_ok a6)⟩
        intro en hen
        have k := List.all_eq_true.mp a7 en (Array.mem_toList_iff.mpr hen)
        split at k
        · rename_i s tk z
          exact ⟨s, tk, z⟩
        · cases k
    · cases a7
  · cases e
end
end KB

set_option Elab.async false
set_option linter.all false
set_option maxRecDepth 100000
set_option maxHeartbeats 1000000
namespace KB
open PySem PySem.Spec PyProof.Rows L2 Oo Gd Am KA SqX KD
section
variable {K : W.Frag} {C Z ZA : Addr} {h : Heap} {mg : Str → Option Value}
structure ErF (K : W.Frag) (Z : Addr) (E nw ini : String) (bm : List Value) (fld : Str) : Prop where
  ec : Ge.EC K Z (He.ma K Z "__init__") E nw ini bm [fld]
  ty : W.typeIn K (.ref Z) = some (.type "type")
  ga : W.findIn K (.ref Z) "__getattribute__" = some (some (.builtin "BaseException.__getattribute__"))
  gg : W.findIn K (.ref Z) "__getattr__" = some none
  cl : W.findIn K (.ref Z) "__class__" = some (some (.builtin "object.__class__"))
  no : W.findIn K (.ref Z) fld = some none
  sb : W.subIn K (.ref Z) (.type "BaseException") = some true
  ob : W.mroIn K Z (.type "object") = some true
abbrev ErA (K : W.Frag) (Z : Addr) : Prop := ErF K Z "ArithmeticError" "ArithmeticError.__new__" "ArithmeticError.__init__" bmZ "rule"
theorem err_okA {U : Addr} (e : errB K Z U bmZ "ArithmeticError.__new__" "rule" = true) : ErA K Z := by
  obtain ⟨a1, e⟩ := He.ba e
  obtain ⟨a2, e⟩ := He.ba e
  obtain ⟨a3, e⟩ := He.ba e
  obtain ⟨a4, e⟩ := He.ba e
  obtain ⟨a5, e⟩ := He.ba e
  obtain ⟨a6, e⟩ := He.ba e
  obtain ⟨a7, e⟩ := He.ba e
  obtain ⟨a8, e⟩ := He.ba e
  obtain ⟨a9, e⟩ := He.ba e
  obtain ⟨a10, e⟩ := He.ba e
  obtain ⟨a11, e⟩ := He.ba e
  obtain ⟨a12, e⟩ := He.ba e
  obtain ⟨a13, e⟩ := He.ba e
  obtain ⟨a14, e⟩ := He.ba e
  obtain ⟨a15, a16⟩ := He.ba e
  refine ⟨⟨PySem.F.excBase_ArithmeticError, PySem.F.store_ArithmeticError, a2, a3, a4, He.eqO_ok a7, of_decide_eq_true a8, He.eqO_ok a9, a5, fun f hf => ?_⟩, of_decide_eq_true a6, He.eqO_ok a10, He.eqO_ok a11, He.eqO_ok a12, He.eqO_ok a14, of_decide_eq_true a15, of_decide_eq_true a16⟩
  obtain rfl := List.mem_singleton.mp hf
  exact He.eqO_ok a13
theorem e1Z (z : ErA K Z) (F : ∃ fd, FunD K "__init__" "DividedByZero.__init__" (defArgs (zz 0)) (defBody (zz 0)) (defScope (zz 0)) [] [] (He.ma K Z "__init__") fd) : Ge.E1 K Z "rule" := by
  obtain ⟨fd, F⟩ := F
  obtain ⟨oc, od, dV, kV, doc, pm, an, cdv, ct, osl, rfl, lk, code, dfl, _⟩ := F.ex
  have hb : ∃ q1 q2 q3 q4, defBody (zz 0) = Ge.iBody1 "rule" q1 q2 q3 q4 := ⟨_, _, _, _, rfl⟩
  have hs : defScope (zz 0) = Ge.iScope ["self", "rule"] := rfl
  obtain ⟨q1, q2, q3, q4, hb⟩ := hb
  have e : dV = .none := by
    rcases dfl with ⟨_, e⟩ | ⟨e, _⟩
    · exact e
    · exact absurd rfl e
  subst e
  rw [hb, hs] at lk
  exact Ge.e1_of z.ec (List.mem_singleton.mpr rfl) code lk (fun x v => rfl) (fun x v => rfl)
theorem zr_of (z : ErA K Z) (e1 : Ge.E1 K Z "rule") (mgZ : mg "DividedByZero" = some (.ref Z)) : KA.Zr K mg Z := ⟨e1, mgZ, fun {X} h => raises_own (by rw [h]; exact z.sb) (by rw [h]; exact z.ty)⟩
structure ClsF (K : W.Frag) (C : Addr) : Prop where
  ha : W.findIn K (.ref C) "__class__" = some (some (.builtin "object.__class__"))
  hn : W.specialIn K (.builtin "object.__class__") "__get__" = some (some (.builtin "getset_descriptor.__get__"))
  tk : W.takesIn K (.builtin "object.__class__") = some true
  ob : W.mroIn K C (.type "object") = some true
  me : W.kitOne K (.ref C) (.ref C) = some true
  kI : W.kitOne K (.type "int") (.ref C) = some false
theorem cls_ok (e : clsB K C = true) : ClsF K C := by
  obtain ⟨a1, e⟩ := He.ba e
  obtain ⟨a2, e⟩ := He.ba e
  obtain ⟨a3, e⟩ := He.ba e
  obtain ⟨a4, e⟩ := He.ba e
  obtain ⟨a5, a6⟩ := He.ba e
  exact ⟨He.eqO_ok a1, He.eqO_ok a2, of_decide_eq_true a3, of_decide_eq_true a4, of_decide_eq_true a5, of_decide_eq_true a6⟩
theorem er_of {E nw ini : String} {bm : List Value} {fld : Str} (z : ErF K Z E nw ini bm fld) (c : ClsF K C) : KD.Er K Z fld := ⟨⟨z.ga, z.gg, z.sb, z.ec.hd⟩, z.no, ⟨z.ga, z.gg, z.sb, z.ec.hd, z.cl, z.ob, c.hn, c.tk⟩⟩
theorem tq_of (t1 : decide (W.exmOne K (.ref Z) (.ref ZA) = some true) = true) (t2 : decide (W.kitOne K (.ref Z) (.ref Z) = some true) = true) (c : ClsF K C) (z : ErA K Z) (mZ : mg "DividedByZero" = some (.ref Z)) (mZA : mg "AmountError" = some (.ref ZA)) : KD.Tq K mg Z ZA := ⟨mZ, mZA, er_of z c, of_decide_eq_true t1, of_decide_eq_true t2⟩
theorem cl2_of (cl : Cls K C) (c : ClsF K C) : Cl2 K C := ⟨⟨cl, c.ha, c.hn, c.tk, c.ob, c.me⟩, c.kI⟩
end
/-! ### how a def binds what it is called with, by keywords too -/
section
variable {K : W.Frag} {x qual : Str} {st : Stmt} {f : Addr} {fd : FuncData}
theorem kbn_of {n : Nat} {ps ks : List Str} {g : List Value → List Value → List Value} {gV : List V → List V → List V} (F : FunD K x qual (defArgs st) (defBody st) (defScope st) [] [] f fd)
    (h : ∀ (kV doc pm : Value) (an : Option Addr) (cdv ct : Value) (us ws : List Value), us.length = n → ws.length = ks.length → bindArgs (W.fnOf x qual (defArgs st) (defBody st) (defScope st) .none kV doc pm an cdv ct) ⟨us, ks.zip ws⟩ = pure (ps.zip (g us ws)))
    (hr : ∀ {vs : List V} {us : List Value} {zs : List V} {ws : List Value}, Vals vs us → Vals zs ws → Vals (gV vs zs) (g us ws)) : KBn K fd ps n ks g gV := by
  obtain ⟨oc, od, dV, kV, doc, pm, an, cdv, ct, osl, rfl, lk, hcd, hD, hK⟩ := F.ex
  rcases hD with ⟨_, rfl⟩ | ⟨e, _⟩
  · exact ⟨fun s us ws _ l1 l2 => .of_eq (h kV doc pm an cdv ct us ws l1 l2), hr⟩
  · exact absurd rfl e
theorem fun_of'' (F : FunD K x qual (defArgs st) (defBody st) (defScope st) [] [] f fd) : Fun K x qual st f fd := He5.fun_of F
theorem kbT (F : FunD K "is_true" "Total.is_true" (defArgs (tot 5)) (defBody (tot 5)) (defScope (tot 5)) [] [] f fd) : KBn K fd ["self", "numbers"] 1 ["numbers"] apn apn :=
  kbn_of F (fun kV doc pm an cdv ct us ws l1 l2 => by
    match us, l1, ws, l2 with
    | [a], _, [b], _ => rfl) fun a b => a.append b
theorem kbP (F : FunD K "is_true" "Product.is_true" (defArgs (pro 6)) (defBody (pro 6)) (defScope (pro 6)) [] [] f fd) : KBn K fd ["self", "numbers"] 1 ["numbers"] apn apn :=
  kbn_of F (fun kV doc pm an cdv ct us ws l1 l2 => by
    match us, l1, ws, l2 with
    | [a], _, [b], _ => rfl) fun a b => a.append b
theorem kbL (F : FunD K "is_true" "Loose.is_true" (defArgs (lo 3)) (defBody (lo 3)) (defScope (lo 3)) [] [] f fd) : KBn K fd ["self", "numbers"] 1 ["numbers"] apn apn :=
  kbn_of F (fun kV doc pm an cdv ct us ws l1 l2 => by
    match us, l1, ws, l2 with
    | [a], _, [b], _ => rfl) fun a b => a.append b
theorem kwT (F : FunD K "worked_out" "Total.worked_out" (defArgs (tot 6)) (defBody (tot 6)) (defScope (tot 6)) [] [] f fd) : KBn K fd ["self", "field", "numbers"] 1 ["numbers", "field"] apr apr :=
  kbn_of F (fun kV doc pm an cdv ct us ws l1 l2 => by
    match us, l1, ws, l2 with
    | [a], _, [b, c], _ => rfl) fun a b => a.append (vals_rev b)
theorem kwP (F : FunD K "worked_out" "Product.worked_out" (defArgs (pro 7)) (defBody (pro 7)) (defScope (pro 7)) [] [] f fd) : KBn K fd ["self", "field", "numbers"] 1 ["numbers", "field"] apr apr :=
  kbn_of F (fun kV doc pm an cdv ct us ws l1 l2 => by
    match us, l1, ws, l2 with
    | [a], _, [b, c], _ => rfl) fun a b => a.append (vals_rev b)
/-- Amount(n, d) | Amount(n) | Amount(bottom = d, top = n) -/
theorem init_binds (F : FunI K f fd) : Binds K fd ["self", "top", "bottom"] [] ∧ (∃ ds, Vals [V.int 1] ds ∧ Binds K fd ["self", "top", "bottom"] ds) := by
  refine ⟨?_, ?_⟩
  · obtain ⟨ds, v, b⟩ := F.binds1 (ps := ["self", "top", "bottom"]) 3 1 (by decide) (by decide) (fun T kV doc pm an cdv ct us its l1 l2 => by
      match us, l1, its, l2 with
      | [a, b, c], _, [d], _ => exact ⟨_, rfl, rfl⟩)
    cases v
    exact b
  · exact F.binds1 (ps := ["self", "top", "bottom"]) 2 0 (by decide) (by decide) (fun T kV doc pm an cdv ct us its l1 l2 => by
      match us, l1, its, l2 with
      | [a, b], _, [c], _ => exact ⟨_, rfl, rfl⟩)
end
end KB

set_option Elab.async false
set_option linter.all false
set_option maxRecDepth 100000
set_option maxHeartbeats 4000000
namespace KB
open PySem PySem.Spec PyProof.Rows L2 Oo Gd Am KA SqX KD
theorem factM {K : W.Frag} (c : He5.SaysA fa fn K) {f : He.Fa} (h : f ∈ fa) : f.ok K = true := by
  have c1 := (He.ba (show ((fa.all fun f => f.ok K) && fn.all fun d => d.ok K) = true from congrArg (fun z : He.AlD => z.1) c)).1
  exact List.all_eq_true.mp c1 f h
theorem nd_find {K : W.Frag} : ∀ {l : List (He.Defn × Str)}, (l.map fun r => (He.cT K r.1).2).Nodup → ∀ r ∈ l, l.find? (fun x => decide ((He.cT K x.1).2 = (He.cT K r.1).2)) = some r
  | [], _, r, h => by cases h
  | a :: l, nd, r, h => by
    rw [List.map_cons, List.nodup_cons] at nd
    rw [List.find?_cons]
    rcases List.mem_cons.mp h with rfl | h
    · rw [decide_eq_true rfl]
    · have ne : ¬ (He.cT K a.1).2 = (He.cT K r.1).2 := fun e => nd.1 (e ▸ List.mem_map_of_mem (f := fun r => (He.cT K r.1).2) h)
      rw [decide_eq_false ne]
      exact nd_find nd.2 r h
theorem cf_eq {K : W.Frag} (di : diB K = true) {r : He.Defn × Str} (h : r ∈ tl5) : cf K (He.cT K r.1).2 = (He.cT K r.1).1 := by
  unfold cf
  rw [nd_find (of_decide_eq_true di) r h]
  rfl
theorem tq1_of {K : W.Frag} (di : diB K = true) {r : He.Defn × Str} (h : r ∈ tl5) : KD.Tq1 (TT5 K) (He.cT K r.1).2 r.2 := by
  refine ⟨List.mem_map_of_mem (f := fun r => ((He.cT K r.1).2, r.2)) h, fun x hx e => ?_⟩
  obtain ⟨y, hy, rfl⟩ := List.mem_map.mp hx
  have e1 := nd_find (K := K) (of_decide_eq_true di) r h
  have e2 := nd_find (K := K) (of_decide_eq_true di) y hy
  rw [show (He.cT K y.1).2 = (He.cT K r.1).2 from e, e1] at e2
  rw [Option.some.inj e2]
theorem tab_of {K : W.Frag} {M : Addr → Addr → Prop} (di : diB K = true) (H : ∀ p ∈ (TT5 K).map (·.1), M (cf K p) p) {r : He.Defn × Str} (h : r ∈ tl5) : M (He.cT K r.1).1 (He.cT K r.1).2 := by
  have := H (He.cT K r.1).2 (List.mem_map_of_mem (f := (·.1)) (List.mem_map_of_mem (f := fun r => ((He.cT K r.1).2, r.2)) h))
  rwa [cf_eq di h] at this
theorem facts {P : Program} {w : World} {K : W.Frag} {h : Heap} {mg : Str → Option Value} (X : K.In h) (G : h.Ns mainGlobals mg) (S : SayK h K) :
    mg ("law" : Str) = some (.ref (He.ga K "law")) ∧ ∃ fd : FuncData, (∀ (s : Shared) (v : Value), BindsTo s fd ⟨[v], []⟩ [("_law_script", v)]) ∧
      ∀ base : Heap, K.In base → base.Ns mainGlobals mg → base.NoDigits → (∀ p ∈ (TT5 K).map (·.1), LamX.TabB base mg (cf K p) p) → FnG P w K mg base CX0 16 (He.ga K "law") fd ["_law_script"] (KD.spLaw K (TT5 K)) := by
  have fr : Frees mg := ⟨fun x hx => He.free_ok X G (factM S.a (f := .free x) (List.mem_append_right _ (List.mem_append_left _ (List.mem_map_of_mem (List.contains_iff_mem.mp hx)))))⟩
  have gw : ∀ x, (ownNames ++ lawNames ++ [("law" : Str)]).contains x = true → mg x = some (.ref (He.ga K x)) := fun x hx => He.glo_ok X G (factM S.a (f := .glo x) (List.mem_append_left _ (List.mem_map_of_mem (List.contains_iff_mem.mp hx))))
  have rest : ∀ f : He.Fa, f ∈ ([.int "LONGEST_NAME" 8, .str "LETTERS" "abcdefghijklmnopqrstuvwxyz", .str "NAME_SIGNS" "abcdefghijklmnopqrstuvwxyz0123456789", .cls "Amount", .noat "Amount" "_top", .noat "Amount" "_bottom", .mkr "Amount", .meth "Amount" "over", .cls "Total", .cls "Product", .cls "Loose", .mkr "Total", .mkr "Product", .mkr "Loose", .meth "Total" "is_true", .meth "Total" "worked_out", .meth "Total" "_sum", .meth "Product" "is_true", .meth "Product" "worked_out", .meth "Loose" "is_true"] : List He.Fa) → f.ok K = true := fun f hf => factM S.a (List.mem_append_right _ (List.mem_append_right _ (List.mem_append_left _ hf)))
  have noT : ∀ x ∈ (["_fields", "_ways", "_weights", "_total", "_factor", "_left", "_right"] : List Str), NoAttr K (kT K) x := fun x hx => He.noat_ok (factM S.a (f := .noat "Total" x) (List.mem_append_right _ (List.mem_append_right _ (List.mem_append_right _ (List.mem_append_left _ (List.mem_map_of_mem hx))))))
  have noP : ∀ x ∈ (["_fields", "_ways", "_weights", "_total", "_factor", "_left", "_right"] : List Str), NoAttr K (kP K) x := fun x hx => He.noat_ok (factM S.a (f := .noat "Product" x) (List.mem_append_right _ (List.mem_append_right _ (List.mem_append_right _ (List.mem_append_right _ (List.mem_append_left _ (List.mem_map_of_mem hx)))))))
  have noL : ∀ x ∈ (["_fields", "_ways", "_weights", "_total", "_factor", "_left", "_right"] : List Str), NoAttr K (kL K) x := fun x hx => He.noat_ok (factM S.a (f := .noat "Loose" x) (List.mem_append_right _ (List.mem_append_right _ (List.mem_append_right _ (List.mem_append_right _ (List.mem_append_right _ (List.mem_map_of_mem hx)))))))
  obtain ⟨tk1, m8⟩ := He.int_ok X G (rest (.int "LONGEST_NAME" 8) (by simp))
  obtain ⟨tk2, mLet⟩ := He.str_ok X G (rest (.str "LETTERS" "abcdefghijklmnopqrstuvwxyz") (by simp))
  obtain ⟨tk3, mSig⟩ := He.str_ok X G (rest (.str "NAME_SIGNS" "abcdefghijklmnopqrstuvwxyz0123456789") (by simp))
  have cls := He.cls_ok (rest (.cls "Amount") (by simp))
  have T : Cl K (kC K) := ⟨cls, He.noat_ok (rest (.noat "Amount" "_top") (by simp)), He.noat_ok (rest (.noat "Amount" "_bottom") (by simp))⟩
  have mMk := He.mkr_ok (rest (.mkr "Amount") (by simp))
  have mOver := He.meth_ok (rest (.meth "Amount" "over") (by simp))
  have clT := He.cls_ok (rest (.cls "Total") (by simp))
  have clP := He.cls_ok (rest (.cls "Product") (by simp))
  have clL := He.cls_ok (rest (.cls "Loose") (by simp))
  have mkT := He.mkr_ok (rest (.mkr "Total") (by simp))
  have mkP := He.mkr_ok (rest (.mkr "Product") (by simp))
  have mkL := He.mkr_ok (rest (.mkr "Loose") (by simp))
  have mtT := He.meth_ok (rest (.meth "Total" "is_true") (by simp))
  have mtP := He.meth_ok (rest (.meth "Product" "is_true") (by simp))
  have mtL := He.meth_ok (rest (.meth "Loose" "is_true") (by simp))
  have mwT := He.meth_ok (rest (.meth "Total" "worked_out") (by simp))
  have mwP := He.meth_ok (rest (.meth "Product" "worked_out") (by simp))
  have msT := He.meth_ok (rest (.meth "Total" "_sum") (by simp))
  have crT : ClR K (kT K) := ⟨clT, noT⟩
  have crP : ClR K (kP K) := ⟨clP, noP⟩
  have crL : ClR K (kL K) := ⟨clL, noL⟩
  obtain ⟨x1, ex⟩ := He.ba S.ex
  obtain ⟨x2, ex⟩ := He.ba ex
  obtain ⟨x3, ex⟩ := He.ba ex
  obtain ⟨x4, ex⟩ := He.ba ex
  obtain ⟨x5, ex⟩ := He.ba ex
  obtain ⟨x6, ex⟩ := He.ba ex
  obtain ⟨x7, ex⟩ := He.ba ex
  obtain ⟨x8, ex⟩ := He.ba ex
  obtain ⟨x9, ex⟩ := He.ba ex
  obtain ⟨x10, ex⟩ := He.ba ex
  obtain ⟨x11, x12⟩ := He.ba ex
  have mG : mg "gcd" = some (.builtin "math.gcd") := W.mg_of X G (He.eqO_ok x12)
  have bin : ∀ nm, nm ∈ (["add", "mul"] : List String) → OwnBin K (kC K) nm (He.ma K (kC K) (PySem.dunder nm)) (some (He.ma K (kC K) (dunderR nm))) ∧ NoIn K (kC K) nm := fun nm hn => let ⟨a, b⟩ := He.ba (List.all_eq_true.mp x1 nm hn); ⟨bin_ok a, no_ok x3 b⟩
  have BSub := bin_ok x2
  obtain ⟨BAdd, NAdd⟩ := bin "add" (by decide)
  obtain ⟨BMul, NMul⟩ := bin "mul" (by decide)
  have una : ∀ m, m ∈ (["__neg__", "__eq__", "__repr__"] : List String) → W.findIn K (.ref (kC K)) (Str.ofString m) = some (some (.ref (He.ma K (kC K) (Str.ofString m)))) ∧ W.isFn K (.ref (He.ma K (kC K) (Str.ofString m))) = true := fun m hm => una_ok (List.all_eq_true.mp x4 m hm)
  have prp : ∀ m, m ∈ (["top", "bottom", "sign"] : List String) → PropOf K (kC K) (Str.ofString m) (He.ma K (kC K) (Str.ofString m)) (He5.wf K (kC K) "property" (Str.ofString m)) := fun m hm => prop_ok (List.all_eq_true.mp x5 m hm)
  have sm := smet_ok x6
  have cr := (stat_ok x6).1
  have cF := cls_ok x8
  have T2 : Cl2 K (kC K) := cl2_of cls cF
  have zF := err_okA x9
  have gA := gw "Amount" (by decide +kernel)
  have gT := gw "Total" (by decide +kernel)
  have gP := gw "Product" (by decide +kernel)
  have gL := gw "Loose" (by decide +kernel)
  have gZ := gw "DividedByZero" (by decide +kernel)
  have gZA := gw "AmountError" (by decide +kernel)
  have zr : KA.Zr K mg (kZ K) := zr_of zF (e1Z zF (S.a.def_ 63 (d := ⟨fun K => He.ma K (kZ K) "__init__", "__init__", "DividedByZero.__init__", defArgs (zz 0), defBody (zz 0), defScope (zz 0), [], []⟩) rfl)) gZ
  have tq : KD.Tq K mg (kZ K) (kZA K) := tq_of x10 x11 cF zF gZ gZA
  obtain ⟨d_is_whole, E_is_whole⟩ := S.a.def_ 0 (d := ⟨fun K => He.ga K "is_whole", "is_whole", "is_whole", defArgs (top 18), defBody (top 18), defScope (top 18), [], []⟩) rfl
  have E_is_whole : FunD K "is_whole" "is_whole" (defArgs (top 18)) (defBody (top 18)) (defScope (top 18)) [] [] (He.ga K "is_whole") d_is_whole := E_is_whole
  have F_is_whole : Fun K "is_whole" "is_whole" (top 18) (He.ga K "is_whole") d_is_whole := He5.fun_of E_is_whole
  have b_is_whole : Binds K d_is_whole ["value"] [] := E_is_whole.bindsN (ps := ["value"]) (fun kV doc pm an cdv ct us l => by
    match us, l with
    | [a], _ => rfl)
  obtain ⟨d_is_name, E_is_name⟩ := S.a.def_ 1 (d := ⟨fun K => He.ga K "is_name", "is_name", "is_name", defArgs (top 20), defBody (top 20), defScope (top 20), [], []⟩) rfl
  have E_is_name : FunD K "is_name" "is_name" (defArgs (top 20)) (defBody (top 20)) (defScope (top 20)) [] [] (He.ga K "is_name") d_is_name := E_is_name
  have F_is_name : Fun K "is_name" "is_name" (top 20) (He.ga K "is_name") d_is_name := He5.fun_of E_is_name
  have b_is_name : Binds K d_is_name ["value"] [] := E_is_name.bindsN (ps := ["value"]) (fun kV doc pm an cdv ct us l => by
    match us, l with
    | [a], _ => rfl)
  obtain ⟨d_is_list, E_is_list⟩ := S.a.def_ 2 (d := ⟨fun K => He.ga K "is_list", "is_list", "is_list", defArgs (top 21), defBody (top 21), defScope (top 21), [], []⟩) rfl
  have E_is_list : FunD K "is_list" "is_list" (defArgs (top 21)) (defBody (top 21)) (defScope (top 21)) [] [] (He.ga K "is_list") d_is_list := E_is_list
  have F_is_list : Fun K "is_list" "is_list" (top 21) (He.ga K "is_list") d_is_list := He5.fun_of E_is_list
  have b_is_list : Binds K d_is_list ["value"] [] := E_is_list.bindsN (ps := ["value"]) (fun kV doc pm an cdv ct us l => by
    match us, l with
    | [a], _ => rfl)
  obtain ⟨d_wrong_name_at, E_wrong_name_at⟩ := S.a.def_ 3 (d := ⟨fun K => He.ga K "wrong_name_at", "wrong_name_at", "wrong_name_at", defArgs (top 22), defBody (top 22), defScope (top 22), [], []⟩) rfl
  have E_wrong_name_at : FunD K "wrong_name_at" "wrong_name_at" (defArgs (top 22)) (defBody (top 22)) (defScope (top 22)) [] [] (He.ga K "wrong_name_at") d_wrong_name_at := E_wrong_name_at
  have F_wrong_name_at : Fun K "wrong_name_at" "wrong_name_at" (top 22) (He.ga K "wrong_name_at") d_wrong_name_at := He5.fun_of E_wrong_name_at
  have b_wrong_name_at : Binds K d_wrong_name_at ["values", "earlier"] [] := E_wrong_name_at.bindsN (ps := ["values", "earlier"]) (fun kV doc pm an cdv ct us l => by
    match us, l with
    | [a, b], _ => rfl)
  obtain ⟨d_wrong_choice_at, E_wrong_choice_at⟩ := S.a.def_ 4 (d := ⟨fun K => He.ga K "wrong_choice_at", "wrong_choice_at", "wrong_choice_at", defArgs (top 23), defBody (top 23), defScope (top 23), [], []⟩) rfl
  have E_wrong_choice_at : FunD K "wrong_choice_at" "wrong_choice_at" (defArgs (top 23)) (defBody (top 23)) (defScope (top 23)) [] [] (He.ga K "wrong_choice_at") d_wrong_choice_at := E_wrong_choice_at
  have F_wrong_choice_at : Fun K "wrong_choice_at" "wrong_choice_at" (top 23) (He.ga K "wrong_choice_at") d_wrong_choice_at := He5.fun_of E_wrong_choice_at
  have b_wrong_choice_at : Binds K d_wrong_choice_at ["values", "choices"] [] := E_wrong_choice_at.bindsN (ps := ["values", "choices"]) (fun kV doc pm an cdv ct us l => by
    match us, l with
    | [a, b], _ => rfl)
  obtain ⟨d_sorted_names, E_sorted_names⟩ := S.a.def_ 5 (d := ⟨fun K => He.ga K "sorted_names", "sorted_names", "sorted_names", defArgs (top 24), defBody (top 24), defScope (top 24), [], []⟩) rfl
  have E_sorted_names : FunD K "sorted_names" "sorted_names" (defArgs (top 24)) (defBody (top 24)) (defScope (top 24)) [] [] (He.ga K "sorted_names") d_sorted_names := E_sorted_names
  have F_sorted_names : Fun K "sorted_names" "sorted_names" (top 24) (He.ga K "sorted_names") d_sorted_names := He5.fun_of E_sorted_names
  have b_sorted_names : Binds K d_sorted_names ["names"] [] := E_sorted_names.bindsN (ps := ["names"]) (fun kV doc pm an cdv ct us l => by
    match us, l with
    | [a], _ => rfl)
  obtain ⟨d_is_number, E_is_number⟩ := S.a.def_ 6 (d := ⟨fun K => He.ga K "is_number", "is_number", "is_number", defArgs (top 30), defBody (top 30), defScope (top 30), [], []⟩) rfl
  have E_is_number : FunD K "is_number" "is_number" (defArgs (top 30)) (defBody (top 30)) (defScope (top 30)) [] [] (He.ga K "is_number") d_is_number := E_is_number
  have F_is_number : Fun K "is_number" "is_number" (top 30) (He.ga K "is_number") d_is_number := He5.fun_of E_is_number
  have b_is_number : Binds K d_is_number ["value"] [] := E_is_number.bindsN (ps := ["value"]) (fun kV doc pm an cdv ct us l => by
    match us, l with
    | [a], _ => rfl)
  obtain ⟨d_check_weights, E_check_weights⟩ := S.a.def_ 7 (d := ⟨fun K => He.ga K "_check_weights", "_check_weights", "_check_weights", defArgs (top 37), defBody (top 37), defScope (top 37), [], []⟩) rfl
  have E_check_weights : FunD K "_check_weights" "_check_weights" (defArgs (top 37)) (defBody (top 37)) (defScope (top 37)) [] [] (He.ga K "_check_weights") d_check_weights := E_check_weights
  have F_check_weights : Fun K "_check_weights" "_check_weights" (top 37) (He.ga K "_check_weights") d_check_weights := He5.fun_of E_check_weights
  have b_check_weights : Binds K d_check_weights ["weights"] [] := E_check_weights.bindsN (ps := ["weights"]) (fun kV doc pm an cdv ct us l => by
    match us, l with
    | [a], _ => rfl)
  obtain ⟨d_check_side, E_check_side⟩ := S.a.def_ 8 (d := ⟨fun K => He.ga K "_check_side", "_check_side", "_check_side", defArgs (top 38), defBody (top 38), defScope (top 38), [], []⟩) rfl
  have E_check_side : FunD K "_check_side" "_check_side" (defArgs (top 38)) (defBody (top 38)) (defScope (top 38)) [] [] (He.ga K "_check_side") d_check_side := E_check_side
  have F_check_side : Fun K "_check_side" "_check_side" (top 38) (He.ga K "_check_side") d_check_side := He5.fun_of E_check_side
  have b_check_side : Binds K d_check_side ["side", "names", "earlier"] [] := E_check_side.bindsN (ps := ["side", "names", "earlier"]) (fun kV doc pm an cdv ct us l => by
    match us, l with
    | [a, b, c], _ => rfl)
  obtain ⟨d_checked_ways, E_checked_ways⟩ := S.a.def_ 9 (d := ⟨fun K => He.ga K "_checked_ways", "_checked_ways", "_checked_ways", defArgs (top 39), defBody (top 39), defScope (top 39), [], []⟩) rfl
  have E_checked_ways : FunD K "_checked_ways" "_checked_ways" (defArgs (top 39)) (defBody (top 39)) (defScope (top 39)) [] [] (He.ga K "_checked_ways") d_checked_ways := E_checked_ways
  have F_checked_ways : Fun K "_checked_ways" "_checked_ways" (top 39) (He.ga K "_checked_ways") d_checked_ways := He5.fun_of E_checked_ways
  have b_checked_ways : Binds K d_checked_ways ["fields", "ways"] [] := E_checked_ways.bindsN (ps := ["fields", "ways"]) (fun kV doc pm an cdv ct us l => by
    match us, l with
    | [a, b], _ => rfl)
  obtain ⟨d_check_way, E_check_way⟩ := S.a.def_ 10 (d := ⟨fun K => He.ga K "_check_way", "_check_way", "_check_way", defArgs (top 40), defBody (top 40), defScope (top 40), [], []⟩) rfl
  have E_check_way : FunD K "_check_way" "_check_way" (defArgs (top 40)) (defBody (top 40)) (defScope (top 40)) [] [] (He.ga K "_check_way") d_check_way := E_check_way
  have F_check_way : Fun K "_check_way" "_check_way" (top 40) (He.ga K "_check_way") d_check_way := He5.fun_of E_check_way
  have b_check_way : Binds K d_check_way ["ways", "field"] [] := E_check_way.bindsN (ps := ["ways", "field"]) (fun kV doc pm an cdv ct us l => by
    match us, l with
    | [a, b], _ => rfl)
  obtain ⟨d_amounts, E_amounts⟩ := S.a.def_ 11 (d := ⟨fun K => He.ga K "_amounts", "_amounts", "_amounts", defArgs (top 41), defBody (top 41), defScope (top 41), [], []⟩) rfl
  have E_amounts : FunD K "_amounts" "_amounts" (defArgs (top 41)) (defBody (top 41)) (defScope (top 41)) [] [] (He.ga K "_amounts") d_amounts := E_amounts
  have F_amounts : Fun K "_amounts" "_amounts" (top 41) (He.ga K "_amounts") d_amounts := He5.fun_of E_amounts
  have b_amounts : Binds K d_amounts ["fields", "numbers"] [] := E_amounts.bindsN (ps := ["fields", "numbers"]) (fun kV doc pm an cdv ct us l => by
    match us, l with
    | [a, b], _ => rfl)
  obtain ⟨d_others, E_others⟩ := S.a.def_ 12 (d := ⟨fun K => He.ga K "_others", "_others", "_others", defArgs (top 42), defBody (top 42), defScope (top 42), [], []⟩) rfl
  have E_others : FunD K "_others" "_others" (defArgs (top 42)) (defBody (top 42)) (defScope (top 42)) [] [] (He.ga K "_others") d_others := E_others
  have F_others : Fun K "_others" "_others" (top 42) (He.ga K "_others") d_others := He5.fun_of E_others
  have b_others : Binds K d_others ["fields", "field"] [] := E_others.bindsN (ps := ["fields", "field"]) (fun kV doc pm an cdv ct us l => by
    match us, l with
    | [a, b], _ => rfl)
  obtain ⟨d_multiplied, E_multiplied⟩ := S.a.def_ 13 (d := ⟨fun K => He.ga K "_multiplied", "_multiplied", "_multiplied", defArgs (top 43), defBody (top 43), defScope (top 43), [], []⟩) rfl
  have E_multiplied : FunD K "_multiplied" "_multiplied" (defArgs (top 43)) (defBody (top 43)) (defScope (top 43)) [] [] (He.ga K "_multiplied") d_multiplied := E_multiplied
  have F_multiplied : Fun K "_multiplied" "_multiplied" (top 43) (He.ga K "_multiplied") d_multiplied := He5.fun_of E_multiplied
  have b_multiplied : Binds K d_multiplied ["fields", "amounts"] [] := E_multiplied.bindsN (ps := ["fields", "amounts"]) (fun kV doc pm an cdv ct us l => by
    match us, l with
    | [a, b], _ => rfl)
  obtain ⟨d_law_pot, E_law_pot⟩ := S.a.def_ 14 (d := ⟨fun K => He.ga K "_law_pot", "_law_pot", "_law_pot", defArgs (top 50), defBody (top 50), defScope (top 50), [], []⟩) rfl
  have E_law_pot : FunD K "_law_pot" "_law_pot" (defArgs (top 50)) (defBody (top 50)) (defScope (top 50)) [] [] (He.ga K "_law_pot") d_law_pot := E_law_pot
  have F_law_pot : Fun K "_law_pot" "_law_pot" (top 50) (He.ga K "_law_pot") d_law_pot := He5.fun_of E_law_pot
  have b_law_pot : Binds K d_law_pot ["_law_script", "_law_k"] [] := E_law_pot.bindsN (ps := ["_law_script", "_law_k"]) (fun kV doc pm an cdv ct us l => by
    match us, l with
    | [a, b], _ => rfl)
  obtain ⟨d_law_draw, E_law_draw⟩ := S.a.def_ 15 (d := ⟨fun K => He.ga K "_law_draw", "_law_draw", "_law_draw", defArgs (top 51), defBody (top 51), defScope (top 51), [], []⟩) rfl
  have E_law_draw : FunD K "_law_draw" "_law_draw" (defArgs (top 51)) (defBody (top 51)) (defScope (top 51)) [] [] (He.ga K "_law_draw") d_law_draw := E_law_draw
  have F_law_draw : Fun K "_law_draw" "_law_draw" (top 51) (He.ga K "_law_draw") d_law_draw := He5.fun_of E_law_draw
  have b_law_draw : Binds K d_law_draw ["_law_pot_here", "_law_sides"] [] := E_law_draw.bindsN (ps := ["_law_pot_here", "_law_sides"]) (fun kV doc pm an cdv ct us l => by
    match us, l with
    | [a, b], _ => rfl)
  obtain ⟨d_law_pick, E_law_pick⟩ := S.a.def_ 16 (d := ⟨fun K => He.ga K "_law_pick", "_law_pick", "_law_pick", defArgs (top 52), defBody (top 52), defScope (top 52), [], []⟩) rfl
  have E_law_pick : FunD K "_law_pick" "_law_pick" (defArgs (top 52)) (defBody (top 52)) (defScope (top 52)) [] [] (He.ga K "_law_pick") d_law_pick := E_law_pick
  have F_law_pick : Fun K "_law_pick" "_law_pick" (top 52) (He.ga K "_law_pick") d_law_pick := He5.fun_of E_law_pick
  have b_law_pick : Binds K d_law_pick ["_law_pot_here", "_law_some_here"] [] := E_law_pick.bindsN (ps := ["_law_pot_here", "_law_some_here"]) (fun kV doc pm an cdv ct us l => by
    match us, l with
    | [a, b], _ => rfl)
  obtain ⟨d_law_named, E_law_named⟩ := S.a.def_ 17 (d := ⟨fun K => He.ga K "_law_named", "_law_named", "_law_named", defArgs (top 53), defBody (top 53), defScope (top 53), [], []⟩) rfl
  have E_law_named : FunD K "_law_named" "_law_named" (defArgs (top 53)) (defBody (top 53)) (defScope (top 53)) [] [] (He.ga K "_law_named") d_law_named := E_law_named
  have F_law_named : Fun K "_law_named" "_law_named" (top 53) (He.ga K "_law_named") d_law_named := He5.fun_of E_law_named
  have b_law_named : Binds K d_law_named ["_law_pot_here", "_law_size", "_law_taken"] [] := E_law_named.bindsN (ps := ["_law_pot_here", "_law_size", "_law_taken"]) (fun kV doc pm an cdv ct us l => by
    match us, l with
    | [a, b, c], _ => rfl)
  obtain ⟨d_law_some, E_law_some⟩ := S.a.def_ 18 (d := ⟨fun K => He.ga K "_law_some", "_law_some", "_law_some", defArgs (top 54), defBody (top 54), defScope (top 54), [], []⟩) rfl
  have E_law_some : FunD K "_law_some" "_law_some" (defArgs (top 54)) (defBody (top 54)) (defScope (top 54)) [] [] (He.ga K "_law_some") d_law_some := E_law_some
  have F_law_some : Fun K "_law_some" "_law_some" (top 54) (He.ga K "_law_some") d_law_some := He5.fun_of E_law_some
  have b_law_some : Binds K d_law_some ["_law_pot_here", "_law_things", "_law_most"] [] := E_law_some.bindsN (ps := ["_law_pot_here", "_law_things", "_law_most"]) (fun kV doc pm an cdv ct us l => by
    match us, l with
    | [a, b, c], _ => rfl)
  obtain ⟨d_law_lowest, E_law_lowest⟩ := S.a.def_ 19 (d := ⟨fun K => He.ga K "_law_lowest", "_law_lowest", "_law_lowest", defArgs (top 55), defBody (top 55), defScope (top 55), [], []⟩) rfl
  have E_law_lowest : FunD K "_law_lowest" "_law_lowest" (defArgs (top 55)) (defBody (top 55)) (defScope (top 55)) [] [] (He.ga K "_law_lowest") d_law_lowest := E_law_lowest
  have F_law_lowest : Fun K "_law_lowest" "_law_lowest" (top 55) (He.ga K "_law_lowest") d_law_lowest := He5.fun_of E_law_lowest
  have b_law_lowest : Binds K d_law_lowest ["_law_high", "_law_low"] [] := E_law_lowest.bindsN (ps := ["_law_high", "_law_low"]) (fun kV doc pm an cdv ct us l => by
    match us, l with
    | [a, b], _ => rfl)
  obtain ⟨d_law_weight, E_law_weight⟩ := S.a.def_ 20 (d := ⟨fun K => He.ga K "_law_weight", "_law_weight", "_law_weight", defArgs (top 56), defBody (top 56), defScope (top 56), [], []⟩) rfl
  have E_law_weight : FunD K "_law_weight" "_law_weight" (defArgs (top 56)) (defBody (top 56)) (defScope (top 56)) [] [] (He.ga K "_law_weight") d_law_weight := E_law_weight
  have F_law_weight : Fun K "_law_weight" "_law_weight" (top 56) (He.ga K "_law_weight") d_law_weight := He5.fun_of E_law_weight
  have b_law_weight : Binds K d_law_weight ["_law_pot_here"] [] := E_law_weight.bindsN (ps := ["_law_pot_here"]) (fun kV doc pm an cdv ct us l => by
    match us, l with
    | [a], _ => rfl)
  obtain ⟨d_law_fraction, E_law_fraction⟩ := S.a.def_ 21 (d := ⟨fun K => He.ga K "_law_fraction", "_law_fraction", "_law_fraction", defArgs (top 57), defBody (top 57), defScope (top 57), [], []⟩) rfl
  have E_law_fraction : FunD K "_law_fraction" "_law_fraction" (defArgs (top 57)) (defBody (top 57)) (defScope (top 57)) [] [] (He.ga K "_law_fraction") d_law_fraction := E_law_fraction
  have F_law_fraction : Fun K "_law_fraction" "_law_fraction" (top 57) (He.ga K "_law_fraction") d_law_fraction := He5.fun_of E_law_fraction
  have b_law_fraction : Binds K d_law_fraction ["_law_pot_here"] [] := E_law_fraction.bindsN (ps := ["_law_pot_here"]) (fun kV doc pm an cdv ct us l => by
    match us, l with
    | [a], _ => rfl)
  obtain ⟨d_law_tie, E_law_tie⟩ := S.a.def_ 22 (d := ⟨fun K => He.ga K "_law_tie", "_law_tie", "_law_tie", defArgs (top 58), defBody (top 58), defScope (top 58), [], []⟩) rfl
  have E_law_tie : FunD K "_law_tie" "_law_tie" (defArgs (top 58)) (defBody (top 58)) (defScope (top 58)) [] [] (He.ga K "_law_tie") d_law_tie := E_law_tie
  have F_law_tie : Fun K "_law_tie" "_law_tie" (top 58) (He.ga K "_law_tie") d_law_tie := He5.fun_of E_law_tie
  have b_law_tie : Binds K d_law_tie ["_law_pot_here", "_law_spots"] [] := E_law_tie.bindsN (ps := ["_law_pot_here", "_law_spots"]) (fun kV doc pm an cdv ct us l => by
    match us, l with
    | [a, b], _ => rfl)
  obtain ⟨d_law_rule, E_law_rule⟩ := S.a.def_ 23 (d := ⟨fun K => He.ga K "_law_rule", "_law_rule", "_law_rule", defArgs (top 59), defBody (top 59), defScope (top 59), [], []⟩) rfl
  have E_law_rule : FunD K "_law_rule" "_law_rule" (defArgs (top 59)) (defBody (top 59)) (defScope (top 59)) [] [] (He.ga K "_law_rule") d_law_rule := E_law_rule
  have F_law_rule : Fun K "_law_rule" "_law_rule" (top 59) (He.ga K "_law_rule") d_law_rule := He5.fun_of E_law_rule
  have b_law_rule : Binds K d_law_rule ["_law_tie_here"] [] := E_law_rule.bindsN (ps := ["_law_tie_here"]) (fun kV doc pm an cdv ct us l => by
    match us, l with
    | [a], _ => rfl)
  obtain ⟨d_law_part, E_law_part⟩ := S.a.def_ 24 (d := ⟨fun K => He.ga K "_law_part", "_law_part", "_law_part", defArgs (top 60), defBody (top 60), defScope (top 60), [], []⟩) rfl
  have E_law_part : FunD K "_law_part" "_law_part" (defArgs (top 60)) (defBody (top 60)) (defScope (top 60)) [] [] (He.ga K "_law_part") d_law_part := E_law_part
  have F_law_part : Fun K "_law_part" "_law_part" (top 60) (He.ga K "_law_part") d_law_part := He5.fun_of E_law_part
  have b_law_part : Binds K d_law_part ["_law_pot_here"] [] := E_law_part.bindsN (ps := ["_law_pot_here"]) (fun kV doc pm an cdv ct us l => by
    match us, l with
    | [a], _ => rfl)
  obtain ⟨d_law_times, E_law_times⟩ := S.a.def_ 25 (d := ⟨fun K => He.ga K "_law_times", "_law_times", "_law_times", defArgs (top 61), defBody (top 61), defScope (top 61), [], []⟩) rfl
  have E_law_times : FunD K "_law_times" "_law_times" (defArgs (top 61)) (defBody (top 61)) (defScope (top 61)) [] [] (He.ga K "_law_times") d_law_times := E_law_times
  have F_law_times : Fun K "_law_times" "_law_times" (top 61) (He.ga K "_law_times") d_law_times := He5.fun_of E_law_times
  have b_law_times : Binds K d_law_times ["_law_near", "_law_far"] [] := E_law_times.bindsN (ps := ["_law_near", "_law_far"]) (fun kV doc pm an cdv ct us l => by
    match us, l with
    | [a, b], _ => rfl)
  obtain ⟨d_law_plus, E_law_plus⟩ := S.a.def_ 26 (d := ⟨fun K => He.ga K "_law_plus", "_law_plus", "_law_plus", defArgs (top 62), defBody (top 62), defScope (top 62), [], []⟩) rfl
  have E_law_plus : FunD K "_law_plus" "_law_plus" (defArgs (top 62)) (defBody (top 62)) (defScope (top 62)) [] [] (He.ga K "_law_plus") d_law_plus := E_law_plus
  have F_law_plus : Fun K "_law_plus" "_law_plus" (top 62) (He.ga K "_law_plus") d_law_plus := He5.fun_of E_law_plus
  have b_law_plus : Binds K d_law_plus ["_law_near", "_law_far"] [] := E_law_plus.bindsN (ps := ["_law_near", "_law_far"]) (fun kV doc pm an cdv ct us l => by
    match us, l with
    | [a, b], _ => rfl)
  obtain ⟨d_law_over, E_law_over⟩ := S.a.def_ 27 (d := ⟨fun K => He.ga K "_law_over", "_law_over", "_law_over", defArgs (top 63), defBody (top 63), defScope (top 63), [], []⟩) rfl
  have E_law_over : FunD K "_law_over" "_law_over" (defArgs (top 63)) (defBody (top 63)) (defScope (top 63)) [] [] (He.ga K "_law_over") d_law_over := E_law_over
  have F_law_over : Fun K "_law_over" "_law_over" (top 63) (He.ga K "_law_over") d_law_over := He5.fun_of E_law_over
  have b_law_over : Binds K d_law_over ["_law_near", "_law_far"] [] := E_law_over.bindsN (ps := ["_law_near", "_law_far"]) (fun kV doc pm an cdv ct us l => by
    match us, l with
    | [a, b], _ => rfl)
  obtain ⟨d_law_product, E_law_product⟩ := S.a.def_ 28 (d := ⟨fun K => He.ga K "_law_product", "_law_product", "_law_product", defArgs (top 64), defBody (top 64), defScope (top 64), [], []⟩) rfl
  have E_law_product : FunD K "_law_product" "_law_product" (defArgs (top 64)) (defBody (top 64)) (defScope (top 64)) [] [] (He.ga K "_law_product") d_law_product := E_law_product
  have F_law_product : Fun K "_law_product" "_law_product" (top 64) (He.ga K "_law_product") d_law_product := He5.fun_of E_law_product
  have b_law_product : Binds K d_law_product ["_law_parts", "_law_some_here", "_law_spot"] [] := E_law_product.bindsN (ps := ["_law_parts", "_law_some_here", "_law_spot"]) (fun kV doc pm an cdv ct us l => by
    match us, l with
    | [a, b, c], _ => rfl)
  obtain ⟨d_law_sum, E_law_sum⟩ := S.a.def_ 29 (d := ⟨fun K => He.ga K "_law_sum", "_law_sum", "_law_sum", defArgs (top 65), defBody (top 65), defScope (top 65), [], []⟩) rfl
  have E_law_sum : FunD K "_law_sum" "_law_sum" (defArgs (top 65)) (defBody (top 65)) (defScope (top 65)) [] [] (He.ga K "_law_sum") d_law_sum := E_law_sum
  have F_law_sum : Fun K "_law_sum" "_law_sum" (top 65) (He.ga K "_law_sum") d_law_sum := He5.fun_of E_law_sum
  have b_law_sum : Binds K d_law_sum ["_law_tie_here", "_law_parts", "_law_spot"] [] := E_law_sum.bindsN (ps := ["_law_tie_here", "_law_parts", "_law_spot"]) (fun kV doc pm an cdv ct us l => by
    match us, l with
    | [a, b, c], _ => rfl)
  obtain ⟨d_law_is_so, E_law_is_so⟩ := S.a.def_ 30 (d := ⟨fun K => He.ga K "_law_is_so", "_law_is_so", "_law_is_so", defArgs (top 66), defBody (top 66), defScope (top 66), [], []⟩) rfl
  have E_law_is_so : FunD K "_law_is_so" "_law_is_so" (defArgs (top 66)) (defBody (top 66)) (defScope (top 66)) [] [] (He.ga K "_law_is_so") d_law_is_so := E_law_is_so
  have F_law_is_so : Fun K "_law_is_so" "_law_is_so" (top 66) (He.ga K "_law_is_so") d_law_is_so := He5.fun_of E_law_is_so
  have b_law_is_so : Binds K d_law_is_so ["_law_tie_here", "_law_parts"] [] := E_law_is_so.bindsN (ps := ["_law_tie_here", "_law_parts"]) (fun kV doc pm an cdv ct us l => by
    match us, l with
    | [a, b], _ => rfl)
  obtain ⟨d_law_due, E_law_due⟩ := S.a.def_ 31 (d := ⟨fun K => He.ga K "_law_due", "_law_due", "_law_due", defArgs (top 67), defBody (top 67), defScope (top 67), [], []⟩) rfl
  have E_law_due : FunD K "_law_due" "_law_due" (defArgs (top 67)) (defBody (top 67)) (defScope (top 67)) [] [] (He.ga K "_law_due") d_law_due := E_law_due
  have F_law_due : Fun K "_law_due" "_law_due" (top 67) (He.ga K "_law_due") d_law_due := He5.fun_of E_law_due
  have b_law_due : Binds K d_law_due ["_law_tie_here", "_law_parts", "_law_spot"] [] := E_law_due.bindsN (ps := ["_law_tie_here", "_law_parts", "_law_spot"]) (fun kV doc pm an cdv ct us l => by
    match us, l with
    | [a, b, c], _ => rfl)
  obtain ⟨d_law_shape, E_law_shape⟩ := S.a.def_ 32 (d := ⟨fun K => He.ga K "_law_shape", "_law_shape", "_law_shape", defArgs (top 68), defBody (top 68), defScope (top 68), [], []⟩) rfl
  have E_law_shape : FunD K "_law_shape" "_law_shape" (defArgs (top 68)) (defBody (top 68)) (defScope (top 68)) [] [] (He.ga K "_law_shape") d_law_shape := E_law_shape
  have F_law_shape : Fun K "_law_shape" "_law_shape" (top 68) (He.ga K "_law_shape") d_law_shape := He5.fun_of E_law_shape
  have b_law_shape : Binds K d_law_shape ["_law_part_here"] [] := E_law_shape.bindsN (ps := ["_law_part_here"]) (fun kV doc pm an cdv ct us l => by
    match us, l with
    | [a], _ => rfl)
  obtain ⟨d_law_passed, E_law_passed⟩ := S.a.def_ 33 (d := ⟨fun K => He.ga K "_law_passed", "_law_passed", "_law_passed", defArgs (top 69), defBody (top 69), defScope (top 69), [], []⟩) rfl
  have E_law_passed : FunD K "_law_passed" "_law_passed" (defArgs (top 69)) (defBody (top 69)) (defScope (top 69)) [] [] (He.ga K "_law_passed") d_law_passed := E_law_passed
  have F_law_passed : Fun K "_law_passed" "_law_passed" (top 69) (He.ga K "_law_passed") d_law_passed := He5.fun_of E_law_passed
  have b_law_passed : Binds K d_law_passed ["_law_pot_here", "_law_parts", "_law_gone"] [] := E_law_passed.bindsN (ps := ["_law_pot_here", "_law_parts", "_law_gone"]) (fun kV doc pm an cdv ct us l => by
    match us, l with
    | [a, b, c], _ => rfl)
  obtain ⟨d_law_told, E_law_told⟩ := S.a.def_ 34 (d := ⟨fun K => He.ga K "_law_told", "_law_told", "_law_told", defArgs (top 70), defBody (top 70), defScope (top 70), [], []⟩) rfl
  have E_law_told : FunD K "_law_told" "_law_told" (defArgs (top 70)) (defBody (top 70)) (defScope (top 70)) [] [] (He.ga K "_law_told") d_law_told := E_law_told
  have F_law_told : Fun K "_law_told" "_law_told" (top 70) (He.ga K "_law_told") d_law_told := He5.fun_of E_law_told
  have b_law_told : Binds K d_law_told ["_law_call"] [] := E_law_told.bindsN (ps := ["_law_call"]) (fun kV doc pm an cdv ct us l => by
    match us, l with
    | [a], _ => rfl)
  obtain ⟨d_law_way_right, E_law_way_right⟩ := S.a.def_ 35 (d := ⟨fun K => He.ga K "_law_way_right", "_law_way_right", "_law_way_right", defArgs (top 71), defBody (top 71), defScope (top 71), [], []⟩) rfl
  have E_law_way_right : FunD K "_law_way_right" "_law_way_right" (defArgs (top 71)) (defBody (top 71)) (defScope (top 71)) [] [] (He.ga K "_law_way_right") d_law_way_right := E_law_way_right
  have F_law_way_right : Fun K "_law_way_right" "_law_way_right" (top 71) (He.ga K "_law_way_right") d_law_way_right := He5.fun_of E_law_way_right
  have b_law_way_right : Binds K d_law_way_right ["_law_pot_here", "_law_tie_here", "_law_rule_here", "_law_parts", "_law_spot"] [] := E_law_way_right.bindsN (ps := ["_law_pot_here", "_law_tie_here", "_law_rule_here", "_law_parts", "_law_spot"]) (fun kV doc pm an cdv ct us l => by
    match us, l with
    | [a, b, c, d, e], _ => rfl)
  obtain ⟨d_law_tie_right, E_law_tie_right⟩ := S.a.def_ 36 (d := ⟨fun K => He.ga K "_law_tie_right", "_law_tie_right", "_law_tie_right", defArgs (top 72), defBody (top 72), defScope (top 72), [], []⟩) rfl
  have E_law_tie_right : FunD K "_law_tie_right" "_law_tie_right" (defArgs (top 72)) (defBody (top 72)) (defScope (top 72)) [] [] (He.ga K "_law_tie_right") d_law_tie_right := E_law_tie_right
  have F_law_tie_right : Fun K "_law_tie_right" "_law_tie_right" (top 72) (He.ga K "_law_tie_right") d_law_tie_right := He5.fun_of E_law_tie_right
  have b_law_tie_right : Binds K d_law_tie_right ["_law_pot_here", "_law_spots", "_law_tie_here"] [] := E_law_tie_right.bindsN (ps := ["_law_pot_here", "_law_spots", "_law_tie_here"]) (fun kV doc pm an cdv ct us l => by
    match us, l with
    | [a, b, c], _ => rfl)
  obtain ⟨d_law_zero_right, E_law_zero_right⟩ := S.a.def_ 37 (d := ⟨fun K => He.ga K "_law_zero_right", "_law_zero_right", "_law_zero_right", defArgs (top 73), defBody (top 73), defScope (top 73), [], []⟩) rfl
  have E_law_zero_right : FunD K "_law_zero_right" "_law_zero_right" (defArgs (top 73)) (defBody (top 73)) (defScope (top 73)) [] [] (He.ga K "_law_zero_right") d_law_zero_right := E_law_zero_right
  have F_law_zero_right : Fun K "_law_zero_right" "_law_zero_right" (top 73) (He.ga K "_law_zero_right") d_law_zero_right := He5.fun_of E_law_zero_right
  have b_law_zero_right : Binds K d_law_zero_right ["_law_spots"] [] := E_law_zero_right.bindsN (ps := ["_law_spots"]) (fun kV doc pm an cdv ct us l => by
    match us, l with
    | [a], _ => rfl)
  obtain ⟨d_law_right, E_law_right⟩ := S.a.def_ 38 (d := ⟨fun K => He.ga K "_law_right", "_law_right", "_law_right", defArgs (top 74), defBody (top 74), defScope (top 74), [], []⟩) rfl
  have E_law_right : FunD K "_law_right" "_law_right" (defArgs (top 74)) (defBody (top 74)) (defScope (top 74)) [] [] (He.ga K "_law_right") d_law_right := E_law_right
  have F_law_right : Fun K "_law_right" "_law_right" (top 74) (He.ga K "_law_right") d_law_right := He5.fun_of E_law_right
  have b_law_right : Binds K d_law_right ["_law_pot_here"] [] := E_law_right.bindsN (ps := ["_law_pot_here"]) (fun kV doc pm an cdv ct us l => by
    match us, l with
    | [a], _ => rfl)
  obtain ⟨d_law, E_law⟩ := S.a.def_ 39 (d := ⟨fun K => He.ga K "law", "law", "law", defArgs (top 75), defBody (top 75), defScope (top 75), [], []⟩) rfl
  have E_law : FunD K "law" "law" (defArgs (top 75)) (defBody (top 75)) (defScope (top 75)) [] [] (He.ga K "law") d_law := E_law
  have F_law : Fun K "law" "law" (top 75) (He.ga K "law") d_law := He5.fun_of E_law
  have b_law : Binds K d_law ["_law_script"] [] := E_law.bindsN (ps := ["_law_script"]) (fun kV doc pm an cdv ct us l => by
    match us, l with
    | [a], _ => rfl)
  obtain ⟨d_Ai, E_Ai⟩ := S.a.def_ 40 (d := ⟨fun K => He.ma K (kC K) "__init__", "__init__", "Amount.__init__", defArgs (am 0), defBody (am 0), defScope (am 0), [.int 1], []⟩) rfl
  have F_Ai : FunI K (He.ma K (kC K) "__init__") d_Ai := E_Ai
  obtain ⟨d_Aof, E_Aof⟩ := S.a.def_ 41 (d := ⟨fun K => He5.wf K (kC K) "staticmethod" "of", "of", "Amount.of", defArgs (am 1), defBody (am 1), defScope (am 1), [], []⟩) rfl
  have E_Aof : FunD K "of" "Amount.of" (defArgs (am 1)) (defBody (am 1)) (defScope (am 1)) [] [] (He5.wf K (kC K) "staticmethod" "of") d_Aof := E_Aof
  have F_Aof : Fun K "of" "Amount.of" (am 1) (He5.wf K (kC K) "staticmethod" "of") d_Aof := He5.fun_of E_Aof
  have b_Aof : Binds K d_Aof ["number"] [] := E_Aof.bindsN (ps := ["number"]) (fun kV doc pm an cdv ct us l => by
    match us, l with
    | [a], _ => rfl)
  obtain ⟨d_Atop, E_Atop⟩ := S.a.def_ 42 (d := ⟨fun K => He5.wf K (kC K) "property" "top", "top", "Amount.top", defArgs (am 3), defBody (am 3), defScope (am 3), [], []⟩) rfl
  have E_Atop : FunD K "top" "Amount.top" (defArgs (am 3)) (defBody (am 3)) (defScope (am 3)) [] [] (He5.wf K (kC K) "property" "top") d_Atop := E_Atop
  have F_Atop : Fun K "top" "Amount.top" (am 3) (He5.wf K (kC K) "property" "top") d_Atop := He5.fun_of E_Atop
  have b_Atop : Binds K d_Atop ["self"] [] := E_Atop.bindsN (ps := ["self"]) (fun kV doc pm an cdv ct us l => by
    match us, l with
    | [a], _ => rfl)
  obtain ⟨d_Abottom, E_Abottom⟩ := S.a.def_ 43 (d := ⟨fun K => He5.wf K (kC K) "property" "bottom", "bottom", "Amount.bottom", defArgs (am 4), defBody (am 4), defScope (am 4), [], []⟩) rfl
  have E_Abottom : FunD K "bottom" "Amount.bottom" (defArgs (am 4)) (defBody (am 4)) (defScope (am 4)) [] [] (He5.wf K (kC K) "property" "bottom") d_Abottom := E_Abottom
  have F_Abottom : Fun K "bottom" "Amount.bottom" (am 4) (He5.wf K (kC K) "property" "bottom") d_Abottom := He5.fun_of E_Abottom
  have b_Abottom : Binds K d_Abottom ["self"] [] := E_Abottom.bindsN (ps := ["self"]) (fun kV doc pm an cdv ct us l => by
    match us, l with
    | [a], _ => rfl)
  obtain ⟨d_Asign, E_Asign⟩ := S.a.def_ 44 (d := ⟨fun K => He5.wf K (kC K) "property" "sign", "sign", "Amount.sign", defArgs (am 5), defBody (am 5), defScope (am 5), [], []⟩) rfl
  have E_Asign : FunD K "sign" "Amount.sign" (defArgs (am 5)) (defBody (am 5)) (defScope (am 5)) [] [] (He5.wf K (kC K) "property" "sign") d_Asign := E_Asign
  have F_Asign : Fun K "sign" "Amount.sign" (am 5) (He5.wf K (kC K) "property" "sign") d_Asign := He5.fun_of E_Asign
  have b_Asign : Binds K d_Asign ["self"] [] := E_Asign.bindsN (ps := ["self"]) (fun kV doc pm an cdv ct us l => by
    match us, l with
    | [a], _ => rfl)
  obtain ⟨d_Aadd, E_Aadd⟩ := S.a.def_ 45 (d := ⟨fun K => He.ma K (kC K) "__add__", "__add__", "Amount.__add__", defArgs (am 6), defBody (am 6), defScope (am 6), [], []⟩) rfl
  have E_Aadd : FunD K "__add__" "Amount.__add__" (defArgs (am 6)) (defBody (am 6)) (defScope (am 6)) [] [] (He.ma K (kC K) "__add__") d_Aadd := E_Aadd
  have F_Aadd : Fun K "__add__" "Amount.__add__" (am 6) (He.ma K (kC K) "__add__") d_Aadd := He5.fun_of E_Aadd
  have b_Aadd : Binds K d_Aadd ["self", "other"] [] := E_Aadd.bindsN (ps := ["self", "other"]) (fun kV doc pm an cdv ct us l => by
    match us, l with
    | [a, b], _ => rfl)
  obtain ⟨d_Aradd, E_Aradd⟩ := S.a.def_ 46 (d := ⟨fun K => He.ma K (kC K) "__radd__", "__radd__", "Amount.__radd__", defArgs (am 7), defBody (am 7), defScope (am 7), [], []⟩) rfl
  have E_Aradd : FunD K "__radd__" "Amount.__radd__" (defArgs (am 7)) (defBody (am 7)) (defScope (am 7)) [] [] (He.ma K (kC K) "__radd__") d_Aradd := E_Aradd
  have F_Aradd : Fun K "__radd__" "Amount.__radd__" (am 7) (He.ma K (kC K) "__radd__") d_Aradd := He5.fun_of E_Aradd
  have b_Aradd : Binds K d_Aradd ["self", "other"] [] := E_Aradd.bindsN (ps := ["self", "other"]) (fun kV doc pm an cdv ct us l => by
    match us, l with
    | [a, b], _ => rfl)
  obtain ⟨d_Asub, E_Asub⟩ := S.a.def_ 47 (d := ⟨fun K => He.ma K (kC K) "__sub__", "__sub__", "Amount.__sub__", defArgs (am 8), defBody (am 8), defScope (am 8), [], []⟩) rfl
  have E_Asub : FunD K "__sub__" "Amount.__sub__" (defArgs (am 8)) (defBody (am 8)) (defScope (am 8)) [] [] (He.ma K (kC K) "__sub__") d_Asub := E_Asub
  have F_Asub : Fun K "__sub__" "Amount.__sub__" (am 8) (He.ma K (kC K) "__sub__") d_Asub := He5.fun_of E_Asub
  have b_Asub : Binds K d_Asub ["self", "other"] [] := E_Asub.bindsN (ps := ["self", "other"]) (fun kV doc pm an cdv ct us l => by
    match us, l with
    | [a, b], _ => rfl)
  obtain ⟨d_Amul, E_Amul⟩ := S.a.def_ 48 (d := ⟨fun K => He.ma K (kC K) "__mul__", "__mul__", "Amount.__mul__", defArgs (am 10), defBody (am 10), defScope (am 10), [], []⟩) rfl
  have E_Amul : FunD K "__mul__" "Amount.__mul__" (defArgs (am 10)) (defBody (am 10)) (defScope (am 10)) [] [] (He.ma K (kC K) "__mul__") d_Amul := E_Amul
  have F_Amul : Fun K "__mul__" "Amount.__mul__" (am 10) (He.ma K (kC K) "__mul__") d_Amul := He5.fun_of E_Amul
  have b_Amul : Binds K d_Amul ["self", "other"] [] := E_Amul.bindsN (ps := ["self", "other"]) (fun kV doc pm an cdv ct us l => by
    match us, l with
    | [a, b], _ => rfl)
  obtain ⟨d_Armul, E_Armul⟩ := S.a.def_ 49 (d := ⟨fun K => He.ma K (kC K) "__rmul__", "__rmul__", "Amount.__rmul__", defArgs (am 11), defBody (am 11), defScope (am 11), [], []⟩) rfl
  have E_Armul : FunD K "__rmul__" "Amount.__rmul__" (defArgs (am 11)) (defBody (am 11)) (defScope (am 11)) [] [] (He.ma K (kC K) "__rmul__") d_Armul := E_Armul
  have F_Armul : Fun K "__rmul__" "Amount.__rmul__" (am 11) (He.ma K (kC K) "__rmul__") d_Armul := He5.fun_of E_Armul
  have b_Armul : Binds K d_Armul ["self", "other"] [] := E_Armul.bindsN (ps := ["self", "other"]) (fun kV doc pm an cdv ct us l => by
    match us, l with
    | [a, b], _ => rfl)
  obtain ⟨d_Aover, E_Aover⟩ := S.a.def_ 50 (d := ⟨fun K => He.ma K (kC K) "over", "over", "Amount.over", defArgs (am 12), defBody (am 12), defScope (am 12), [], []⟩) rfl
  have E_Aover : FunD K "over" "Amount.over" (defArgs (am 12)) (defBody (am 12)) (defScope (am 12)) [] [] (He.ma K (kC K) "over") d_Aover := E_Aover
  have F_Aover : Fun K "over" "Amount.over" (am 12) (He.ma K (kC K) "over") d_Aover := He5.fun_of E_Aover
  have b_Aover : Binds K d_Aover ["self", "other"] [] := E_Aover.bindsN (ps := ["self", "other"]) (fun kV doc pm an cdv ct us l => by
    match us, l with
    | [a, b], _ => rfl)
  obtain ⟨d_Aneg, E_Aneg⟩ := S.a.def_ 51 (d := ⟨fun K => He.ma K (kC K) "__neg__", "__neg__", "Amount.__neg__", defArgs (am 18), defBody (am 18), defScope (am 18), [], []⟩) rfl
  have E_Aneg : FunD K "__neg__" "Amount.__neg__" (defArgs (am 18)) (defBody (am 18)) (defScope (am 18)) [] [] (He.ma K (kC K) "__neg__") d_Aneg := E_Aneg
  have F_Aneg : Fun K "__neg__" "Amount.__neg__" (am 18) (He.ma K (kC K) "__neg__") d_Aneg := He5.fun_of E_Aneg
  have b_Aneg : Binds K d_Aneg ["self"] [] := E_Aneg.bindsN (ps := ["self"]) (fun kV doc pm an cdv ct us l => by
    match us, l with
    | [a], _ => rfl)
  obtain ⟨d_Aeq, E_Aeq⟩ := S.a.def_ 52 (d := ⟨fun K => He.ma K (kC K) "__eq__", "__eq__", "Amount.__eq__", defArgs (am 21), defBody (am 21), defScope (am 21), [], []⟩) rfl
  have E_Aeq : FunD K "__eq__" "Amount.__eq__" (defArgs (am 21)) (defBody (am 21)) (defScope (am 21)) [] [] (He.ma K (kC K) "__eq__") d_Aeq := E_Aeq
  have F_Aeq : Fun K "__eq__" "Amount.__eq__" (am 21) (He.ma K (kC K) "__eq__") d_Aeq := He5.fun_of E_Aeq
  have b_Aeq : Binds K d_Aeq ["self", "other"] [] := E_Aeq.bindsN (ps := ["self", "other"]) (fun kV doc pm an cdv ct us l => by
    match us, l with
    | [a, b], _ => rfl)
  obtain ⟨d_Arepr, E_Arepr⟩ := S.a.def_ 53 (d := ⟨fun K => He.ma K (kC K) "__repr__", "__repr__", "Amount.__repr__", defArgs (am 27), defBody (am 27), defScope (am 27), [], []⟩) rfl
  have E_Arepr : FunD K "__repr__" "Amount.__repr__" (defArgs (am 27)) (defBody (am 27)) (defScope (am 27)) [] [] (He.ma K (kC K) "__repr__") d_Arepr := E_Arepr
  have F_Arepr : Fun K "__repr__" "Amount.__repr__" (am 27) (He.ma K (kC K) "__repr__") d_Arepr := He5.fun_of E_Arepr
  have b_Arepr : Binds K d_Arepr ["self"] [] := E_Arepr.bindsN (ps := ["self"]) (fun kV doc pm an cdv ct us l => by
    match us, l with
    | [a], _ => rfl)
  obtain ⟨d_Ti, E_Ti⟩ := S.a.def_ 54 (d := ⟨fun K => He.ma K (kT K) "__init__", "__init__", "Total.__init__", defArgs (tot 0), defBody (tot 0), defScope (tot 0), [.int 0], [("ways", .non)]⟩) rfl
  have F_Ti : FunIT K (He.ma K (kT K) "__init__") d_Ti := E_Ti
  obtain ⟨d_Ttrue, E_Ttrue⟩ := S.a.def_ 55 (d := ⟨fun K => He.ma K (kT K) "is_true", "is_true", "Total.is_true", defArgs (tot 5), defBody (tot 5), defScope (tot 5), [], []⟩) rfl
  have E_Ttrue : FunD K "is_true" "Total.is_true" (defArgs (tot 5)) (defBody (tot 5)) (defScope (tot 5)) [] [] (He.ma K (kT K) "is_true") d_Ttrue := E_Ttrue
  have F_Ttrue : Fun K "is_true" "Total.is_true" (tot 5) (He.ma K (kT K) "is_true") d_Ttrue := He5.fun_of E_Ttrue
  have b_Ttrue : Binds K d_Ttrue ["self", "numbers"] [] := E_Ttrue.bindsN (ps := ["self", "numbers"]) (fun kV doc pm an cdv ct us l => by
    match us, l with
    | [a, b], _ => rfl)
  obtain ⟨d_Twork, E_Twork⟩ := S.a.def_ 56 (d := ⟨fun K => He.ma K (kT K) "worked_out", "worked_out", "Total.worked_out", defArgs (tot 6), defBody (tot 6), defScope (tot 6), [], []⟩) rfl
  have E_Twork : FunD K "worked_out" "Total.worked_out" (defArgs (tot 6)) (defBody (tot 6)) (defScope (tot 6)) [] [] (He.ma K (kT K) "worked_out") d_Twork := E_Twork
  have F_Twork : Fun K "worked_out" "Total.worked_out" (tot 6) (He.ma K (kT K) "worked_out") d_Twork := He5.fun_of E_Twork
  have b_Twork : Binds K d_Twork ["self", "field", "numbers"] [] := E_Twork.bindsN (ps := ["self", "field", "numbers"]) (fun kV doc pm an cdv ct us l => by
    match us, l with
    | [a, b, c], _ => rfl)
  obtain ⟨d_Tsum, E_Tsum⟩ := S.a.def_ 57 (d := ⟨fun K => He.ma K (kT K) "_sum", "_sum", "Total._sum", defArgs (tot 7), defBody (tot 7), defScope (tot 7), [], []⟩) rfl
  have E_Tsum : FunD K "_sum" "Total._sum" (defArgs (tot 7)) (defBody (tot 7)) (defScope (tot 7)) [] [] (He.ma K (kT K) "_sum") d_Tsum := E_Tsum
  have F_Tsum : Fun K "_sum" "Total._sum" (tot 7) (He.ma K (kT K) "_sum") d_Tsum := He5.fun_of E_Tsum
  have b_Tsum : Binds K d_Tsum ["self", "amounts"] [] := E_Tsum.bindsN (ps := ["self", "amounts"]) (fun kV doc pm an cdv ct us l => by
    match us, l with
    | [a, b], _ => rfl)
  obtain ⟨d_Pi, E_Pi⟩ := S.a.def_ 58 (d := ⟨fun K => He.ma K (kP K) "__init__", "__init__", "Product.__init__", defArgs (pro 0), defBody (pro 0), defScope (pro 0), [.adr kTP, .int 1], [("ways", .non)]⟩) rfl
  have F_Pi : FunIP K (kTP K) (He.ma K (kP K) "__init__") d_Pi := E_Pi
  obtain ⟨d_Ptrue, E_Ptrue⟩ := S.a.def_ 59 (d := ⟨fun K => He.ma K (kP K) "is_true", "is_true", "Product.is_true", defArgs (pro 6), defBody (pro 6), defScope (pro 6), [], []⟩) rfl
  have E_Ptrue : FunD K "is_true" "Product.is_true" (defArgs (pro 6)) (defBody (pro 6)) (defScope (pro 6)) [] [] (He.ma K (kP K) "is_true") d_Ptrue := E_Ptrue
  have F_Ptrue : Fun K "is_true" "Product.is_true" (pro 6) (He.ma K (kP K) "is_true") d_Ptrue := He5.fun_of E_Ptrue
  have b_Ptrue : Binds K d_Ptrue ["self", "numbers"] [] := E_Ptrue.bindsN (ps := ["self", "numbers"]) (fun kV doc pm an cdv ct us l => by
    match us, l with
    | [a, b], _ => rfl)
  obtain ⟨d_Pwork, E_Pwork⟩ := S.a.def_ 60 (d := ⟨fun K => He.ma K (kP K) "worked_out", "worked_out", "Product.worked_out", defArgs (pro 7), defBody (pro 7), defScope (pro 7), [], []⟩) rfl
  have E_Pwork : FunD K "worked_out" "Product.worked_out" (defArgs (pro 7)) (defBody (pro 7)) (defScope (pro 7)) [] [] (He.ma K (kP K) "worked_out") d_Pwork := E_Pwork
  have F_Pwork : Fun K "worked_out" "Product.worked_out" (pro 7) (He.ma K (kP K) "worked_out") d_Pwork := He5.fun_of E_Pwork
  have b_Pwork : Binds K d_Pwork ["self", "field", "numbers"] [] := E_Pwork.bindsN (ps := ["self", "field", "numbers"]) (fun kV doc pm an cdv ct us l => by
    match us, l with
    | [a, b, c], _ => rfl)
  obtain ⟨d_Li, E_Li⟩ := S.a.def_ 61 (d := ⟨fun K => He.ma K (kL K) "__init__", "__init__", "Loose.__init__", defArgs (lo 0), defBody (lo 0), defScope (lo 0), [], [("ways", .non)]⟩) rfl
  have F_Li : FunIL K (He.ma K (kL K) "__init__") d_Li := E_Li
  obtain ⟨d_Ltrue, E_Ltrue⟩ := S.a.def_ 62 (d := ⟨fun K => He.ma K (kL K) "is_true", "is_true", "Loose.is_true", defArgs (lo 3), defBody (lo 3), defScope (lo 3), [], []⟩) rfl
  have E_Ltrue : FunD K "is_true" "Loose.is_true" (defArgs (lo 3)) (defBody (lo 3)) (defScope (lo 3)) [] [] (He.ma K (kL K) "is_true") d_Ltrue := E_Ltrue
  have F_Ltrue : Fun K "is_true" "Loose.is_true" (lo 3) (He.ma K (kL K) "is_true") d_Ltrue := He5.fun_of E_Ltrue
  have b_Ltrue : Binds K d_Ltrue ["self", "numbers"] [] := E_Ltrue.bindsN (ps := ["self", "numbers"]) (fun kV doc pm an cdv ct us l => by
    match us, l with
    | [a, b], _ => rfl)
  obtain ⟨bI, bI1⟩ := init_binds F_Ai
  obtain ⟨bT1, bT2, dsT, vT, bT3⟩ := tot_binds F_Ti
  obtain ⟨bP1, bP2, ⟨dsP, vP, bP3⟩, dsP2, vP2, bP4⟩ := pro_binds F_Pi
  obtain ⟨bL1, bL2, dsL, vL, bL3⟩ := lo_binds F_Li
  have FC_law_way_right : FunC K "_law_way_right" "_law_way_right" (top 71) (He.ga K "_law_way_right") (He.cT K ("_law_way_right", none)).1 d_law_way_right := by
    obtain ⟨oc, od, dV, kV, doc, pm, an, cdv, ct, osl, e, lk, code, dfl, _⟩ := E_law_way_right.ex
    obtain ⟨c, rfl⟩ := He.codeIn_ref code
    have hc : He.codeOf K ("_law_way_right", none) = c := He.codeOf_eq (p := ("_law_way_right", none)) lk (by rw [e])
    have hc2 : (He.cT K ("_law_way_right", none)).1 = c := hc
    have ed : dV = .none := by
      rcases dfl with ⟨_, e⟩ | ⟨e, _⟩
      · exact e
      · exact absurd rfl e
    subst ed
    rw [hc2]
    exact ⟨⟨oc, od, kV, doc, pm, an, ct, osl, e, lk, code⟩, E_law_way_right.kp⟩
  have FC_law_zero_right : FunC K "_law_zero_right" "_law_zero_right" (top 73) (He.ga K "_law_zero_right") (He.cT K ("_law_zero_right", none)).1 d_law_zero_right := by
    obtain ⟨oc, od, dV, kV, doc, pm, an, cdv, ct, osl, e, lk, code, dfl, _⟩ := E_law_zero_right.ex
    obtain ⟨c, rfl⟩ := He.codeIn_ref code
    have hc : He.codeOf K ("_law_zero_right", none) = c := He.codeOf_eq (p := ("_law_zero_right", none)) lk (by rw [e])
    have hc2 : (He.cT K ("_law_zero_right", none)).1 = c := hc
    have ed : dV = .none := by
      rcases dfl with ⟨_, e⟩ | ⟨e, _⟩
      · exact e
      · exact absurd rfl e
    subst ed
    rw [hc2]
    exact ⟨⟨oc, od, kV, doc, pm, an, ct, osl, e, lk, code⟩, E_law_zero_right.kp⟩
  refine ⟨gw _ (by decide +kernel), d_law, fun s v => E_law.bindsA (ps := ["_law_script"]) (fun kV doc pm an cdv ct us l => by
    match us, l with
    | [a], _ => rfl) s [v] rfl, fun base XB GB nb TB => ?_⟩
  have tabs := fun {r : He.Defn × Str} (h : r ∈ tl5) => tab_of (M := fun c p => LamX.TabB base mg c p) S.di TB h
  have tqs := fun {r : He.Defn × Str} (h : r ∈ tl5) => tq1_of (K := K) S.di h
  have DW : Dn P w K mg base CX0 1 "is_whole" ["value"] spWhole := ⟨_, d_is_whole, ok_whole fr F_is_whole, gw _ (by decide +kernel), F_is_whole.kp, b_is_whole⟩
  have oI : FnOk P w K mg base CX0 2 (He.ma K (kC K) "__init__") d_Ai ["self", "top", "bottom"] (spInit (kC K)) := ok_init T DW mG F_Ai
  have B : Base P w K mg base (kC K) := ⟨T, gA, ⟨_, d_Ai, mMk, oI, bI, bI1⟩, ⟨_, _, d_Atop, prp "top" (by decide), ok_top T F_Atop, b_Atop⟩, ⟨_, _, d_Abottom, prp "bottom" (by decide), ok_bot T F_Abottom, b_Abottom⟩, ⟨_, _, d_Asign, prp "sign" (by decide), ok_sgn T F_Asign, b_Asign⟩⟩
  have O : Of P w K mg base (kC K) := ⟨⟨_, _, _, d_Aof, cr, sm, ok_of fr B T2 F_Aof, b_Aof⟩⟩
  have Rp : Rep P w K mg base (kC K) := ⟨⟨_, d_Arepr, (una "__repr__" (by decide)).1, (una "__repr__" (by decide)).2, ok_repr nb fr T F_Arepr, b_Arepr⟩⟩
  have Ng : Neg P w K mg base (kC K) := ⟨⟨_, d_Aneg, (una "__neg__" (by decide)).1, (una "__neg__" (by decide)).2, ok_neg T B F_Aneg, b_Aneg⟩⟩
  have eqF : EqF P w K mg base (kC K) := ⟨⟨_, d_Aeq, (una "__eq__" (by decide)).1, (una "__eq__" (by decide)).2, ok_eq fr B T2 F_Aeq, b_Aeq, "object", [.type "object"], PySem.F.cmp_object, fun h x dx X hx => eqc_ok x7 (una "__eq__" (by decide)).2 h x dx X hx⟩⟩
  have OA : Op P w K mg base (kC K) (Operator.Add).info.2 5 fun q p => q + p := ⟨⟨_, _, d_Aadd, _, BAdd, ok_add B O F_Aadd, b_Aadd⟩⟩
  have OM : Op P w K mg base (kC K) (Operator.Mult).info.2 5 fun q p => q * p := ⟨⟨_, _, d_Amul, _, BMul, ok_mul B O F_Amul, b_Amul⟩⟩
  have OS : Op P w K mg base (kC K) (Operator.Sub).info.2 6 fun q p => q - p := ⟨⟨_, _, d_Asub, _, BSub, ok_sub B O Ng OA F_Asub, b_Asub⟩⟩
  have IA : OpI P w K mg base (kC K) (Operator.Add).info.2 6 fun q p => q + p := ⟨⟨_, _, d_Aadd, d_Aradd, _, _, BAdd, NAdd, (ok_add B O F_Aadd).mono (by decide), b_Aadd, ok_radd B O OA F_Aradd, b_Aradd⟩⟩
  have IM : OpI P w K mg base (kC K) (Operator.Mult).info.2 6 fun q p => q * p := ⟨⟨_, _, d_Amul, d_Armul, _, _, BMul, NMul, (ok_mul B O F_Amul).mono (by decide), b_Amul, ok_rmul B O OM F_Armul, b_Armul⟩⟩
  have V1 : Over P w K mg base (kC K) (kZ K) := ⟨⟨_, d_Aover, mOver, ok_over B O zr F_Aover, b_Aover⟩⟩
  have Dname : Dn P w K mg base CX0 1 "is_name" ["value"] spName := ⟨_, d_is_name, ok_name fr m8 mLet mSig F_is_name, gw _ (by decide +kernel), F_is_name.kp, b_is_name⟩
  have Dlist : Dn P w K mg base CX0 1 "is_list" ["value"] (spList K) := ⟨_, d_is_list, ok_list fr F_is_list, gw _ (by decide +kernel), F_is_list.kp, b_is_list⟩
  have Dwna : Dn P w K mg base CX0 2 "wrong_name_at" ["values", "earlier"] (spWna K) := ⟨_, d_wrong_name_at, ok_wna fr Dname F_wrong_name_at, gw _ (by decide +kernel), F_wrong_name_at.kp, b_wrong_name_at⟩
  have Dwch : Dn P w K mg base CX0 1 "wrong_choice_at" ["values", "choices"] (spWch K) := ⟨_, d_wrong_choice_at, ok_wch fr F_wrong_choice_at, gw _ (by decide +kernel), F_wrong_choice_at.kp, b_wrong_choice_at⟩
  have Dsn : Dn P w K mg base CX0 1 "sorted_names" ["names"] (spSn K) := ⟨_, d_sorted_names, ok_sn fr F_sorted_names, gw _ (by decide +kernel), F_sorted_names.kp, b_sorted_names⟩
  have DsnD : Dn P w K mg base CX0 1 "sorted_names" ["names"] spSnD := ⟨_, d_sorted_names, ok_snD fr F_sorted_names, gw _ (by decide +kernel), F_sorted_names.kp, b_sorted_names⟩
  have DchW : Dn P w K mg base CX0 2 "_check_weights" ["weights"] spChkW := ⟨_, d_check_weights, ok_chkW fr Dname DW DsnD F_check_weights, gw _ (by decide +kernel), F_check_weights.kp, b_check_weights⟩
  have DchS : Dn P w K mg base CX0 3 "_check_side" ["side", "names", "earlier"] (spChkS K) := ⟨_, d_check_side, ok_chkS Dlist Dwna F_check_side, gw _ (by decide +kernel), F_check_side.kp, b_check_side⟩
  have Dways : Dn P w K mg base CX0 2 "_checked_ways" ["fields", "ways"] (spWays K) := ⟨_, d_checked_ways, ok_ways fr Dlist Dwch Dsn F_checked_ways, gw _ (by decide +kernel), F_checked_ways.kp, b_checked_ways⟩
  have Dnum : Dn P w K mg base CX0 2 "is_number" ["value"] (spNum (kC K)) := ⟨_, d_is_number, ok_num fr gA T2 DW F_is_number, gw _ (by decide +kernel), F_is_number.kp, b_is_number⟩
  have Dcw : Dn P w K mg base CX0 1 "_check_way" ["ways", "field"] (spChkWay K) := ⟨_, d_check_way, ok_chkWay fr F_check_way, gw _ (by decide +kernel), F_check_way.kp, b_check_way⟩
  have Dam : Dn P w K mg base CX0 5 "_amounts" ["fields", "numbers"] (spAm K (kC K)) := ⟨_, d_amounts, ok_amounts fr B O Dnum F_amounts, gw _ (by decide +kernel), F_amounts.kp, b_amounts⟩
  have Doth : Dn P w K mg base CX0 1 "_others" ["fields", "field"] (spOth K) := ⟨_, d_others, ok_oth F_others, gw _ (by decide +kernel), F_others.kp, b_others⟩
  have Dmul : Dn P w K mg base CX0 7 "_multiplied" ["fields", "amounts"] (spMul K (kC K)) := ⟨_, d_multiplied, ok_multiplied B IM F_multiplied, gw _ (by decide +kernel), F_multiplied.kp, b_multiplied⟩
  have oT : FnOk P w K mg base CX0 5 (He.ma K (kT K) "__init__") d_Ti ["self", "weights", "total", "ways"] (spInT K (kC K) (kT K)) := ok_inT fr crT B O DchW DsnD Dways F_Ti
  have oP : FnOk P w K mg base CX0 5 (He.ma K (kP K) "__init__") d_Pi nInP (spInP K (kC K) (kP K)) := ok_inP fr crP B O DchS Dsn Dways F_Pi
  have oL : FnOk P w K mg base CX0 4 (He.ma K (kL K) "__init__") d_Li ["self", "fields", "ways"] (spInL K (kL K)) := ok_inL fr crL DchS Dsn Dways F_Li
  have rc : RC P w K mg base (kC K) (kT K) (kP K) (kL K) := ⟨gT, gP, gL, ⟨_, d_Ti, mkT, oT, bT1, bT2⟩, ⟨_, d_Pi, mkP, oP, bP1, bP2⟩, ⟨_, d_Li, mkL, oL, bL1, bL2⟩⟩
  have ms : MtD P w K mg base (kT K) "_sum" CX0 7 ["self", "amounts"] (spSum (kC K) (kT K)) := ⟨⟨_, d_Tsum, msT, ok_sum crT B IA IM F_Tsum, b_Tsum⟩⟩
  have rm : KD.RM P w K mg base (kC K) (kZ K) (kT K) (kP K) (kL K) := ⟨⟨clT, ⟨_, d_Ttrue, mtT, ok_trT crT eqF Dam ms F_Ttrue, b_Ttrue, kbT E_Ttrue⟩⟩, ⟨clP, ⟨_, d_Ptrue, mtP, ok_trP crP eqF Dam Dmul IM F_Ptrue, b_Ptrue, kbP E_Ptrue⟩⟩, ⟨clL, ⟨_, d_Ltrue, mtL, ok_trL crL Dam F_Ltrue, b_Ltrue, kbL E_Ltrue⟩⟩, ⟨clT, ⟨_, d_Twork, mwT, ok_woT crT B OS V1 Dcw Doth Dam ms F_Twork, b_Twork, kwT E_Twork⟩⟩, ⟨clP, ⟨_, d_Pwork, mwP, ok_woP crP B V1 Dcw Doth Dam Dmul IM F_Pwork, b_Pwork, kwP E_Pwork⟩⟩⟩
  have LD : DnD P w K mg base := ⟨_, d_law_draw, ok_draw fr F_law_draw, gw _ (by decide +kernel), F_law_draw.kp, b_law_draw⟩
  have LP : DnP P w K mg base := ⟨_, d_law_pick, ok_pick fr LD F_law_pick, gw _ (by decide +kernel), F_law_pick.kp, b_law_pick⟩
  have LL : DnL P w K mg base := ⟨_, d_law_lowest, ok_low fr F_law_lowest, gw _ (by decide +kernel), F_law_lowest.kp, b_law_lowest⟩
  have L0 : Dn P w K mg base CX0 1 "_law_pot" ["_law_script", "_law_k"] (spPot K) := ⟨_, d_law_pot, ok_pot fr F_law_pot, gw _ (by decide +kernel), F_law_pot.kp, b_law_pot⟩
  have LN : Dn P w K mg base CX0 3 "_law_named" ["_law_pot_here", "_law_size", "_law_taken"] (KD.spNamed K) := ⟨_, d_law_named, KD.ok_named fr LD LP F_law_named, gw _ (by decide +kernel), F_law_named.kp, b_law_named⟩
  have LS : Dn P w K mg base CX0 2 "_law_some" ["_law_pot_here", "_law_things", "_law_most"] (spSome K) := ⟨_, d_law_some, ok_some fr LD F_law_some, gw _ (by decide +kernel), F_law_some.kp, b_law_some⟩
  have LW : Dn P w K mg base CX0 3 "_law_weight" ["_law_pot_here"] spWei := ⟨_, d_law_weight, ok_wei LD LP F_law_weight, gw _ (by decide +kernel), F_law_weight.kp, b_law_weight⟩
  have LF : Dn P w K mg base CX0 3 "_law_fraction" ["_law_pot_here"] spFrac := ⟨_, d_law_fraction, ok_frac LP LL F_law_fraction, gw _ (by decide +kernel), F_law_fraction.kp, b_law_fraction⟩
  have LT : Dn P w K mg base CX0 4 "_law_tie" ["_law_pot_here", "_law_spots"] spTie := ⟨_, d_law_tie, ok_tie fr LD LS LW LF F_law_tie, gw _ (by decide +kernel), F_law_tie.kp, b_law_tie⟩
  have LX : Dn P w K mg base CX0 7 "_law_rule" ["_law_tie_here"] (spRule (kC K) (kT K) (kP K) (kL K)) := ⟨_, d_law_rule, ok_rule fr B rc F_law_rule, gw _ (by decide +kernel), F_law_rule.kp, b_law_rule⟩
  have LQ : Dn P w K mg base CX0 2 "_law_part" ["_law_pot_here"] spPrt := ⟨_, d_law_part, KD.ok_part LD LL F_law_part, gw _ (by decide +kernel), F_law_part.kp, b_law_part⟩
  have Lt : Dn P w K mg base CX0 2 "_law_times" ["_law_near", "_law_far"] (spPair K fun q p => q * p) := ⟨_, d_law_times, KD.ok_times LL F_law_times, gw _ (by decide +kernel), F_law_times.kp, b_law_times⟩
  have Lp : Dn P w K mg base CX0 2 "_law_plus" ["_law_near", "_law_far"] (spPair K fun q p => q + p) := ⟨_, d_law_plus, KD.ok_plus LL F_law_plus, gw _ (by decide +kernel), F_law_plus.kp, b_law_plus⟩
  have Lo : Dn P w K mg base CX0 2 "_law_over" ["_law_near", "_law_far"] (spOver K) := ⟨_, d_law_over, KD.ok_lover fr LL F_law_over, gw _ (by decide +kernel), F_law_over.kp, b_law_over⟩
  have Lm : Dn P w K mg base CX0 3 "_law_product" ["_law_parts", "_law_some_here", "_law_spot"] spLPro := ⟨_, d_law_product, KD.ok_lpro Lt F_law_product, gw _ (by decide +kernel), F_law_product.kp, b_law_product⟩
  have La : Dn P w K mg base CX0 3 "_law_sum" ["_law_tie_here", "_law_parts", "_law_spot"] spLSum := ⟨_, d_law_sum, KD.ok_lsum Lt Lp F_law_sum, gw _ (by decide +kernel), F_law_sum.kp, b_law_sum⟩
  have Li : Dn P w K mg base CX0 4 "_law_is_so" ["_law_tie_here", "_law_parts"] spIsSo := ⟨_, d_law_is_so, KD.ok_isso Lt Lm La F_law_is_so, gw _ (by decide +kernel), F_law_is_so.kp, b_law_is_so⟩
  have Ld : Dn P w K mg base CX0 4 "_law_due" ["_law_tie_here", "_law_parts", "_law_spot"] spDue := ⟨_, d_law_due, KD.ok_due fr Lt Lp Lo Lm La F_law_due, gw _ (by decide +kernel), F_law_due.kp, b_law_due⟩
  have Lh : Dn P w K mg base CX0 1 "_law_shape" ["_law_part_here"] spShape := ⟨_, d_law_shape, KD.ok_shape nb fr F_law_shape, gw _ (by decide +kernel), F_law_shape.kp, b_law_shape⟩
  have Ls : Dn P w K mg base CX0 4 "_law_passed" ["_law_pot_here", "_law_parts", "_law_gone"] (spPas (kC K)) := ⟨_, d_law_passed, KD.ok_passed B LD LP F_law_passed, gw _ (by decide +kernel), F_law_passed.kp, b_law_passed⟩
  have tol : KD.Tol K mg := ⟨⟨_, d_law_told, F_law_told, gw _ (by decide +kernel), b_law_told⟩⟩
  have G1 : DnG P w K mg base 13 "_law_way_right" ["_law_pot_here", "_law_tie_here", "_law_rule_here", "_law_parts", "_law_spot"] (KD.spWay (kC K) (kT K) (kP K) (kL K) (TT5 K)) := ⟨_, d_law_way_right, KD.ok_way (Z := kZ K) (ZA := kZA K) ⟨fr, B, Rp, IA, Ld, Ls, Lh, LP, rm, tq, tol⟩ (tabs (r := (("_law_way_right", none), "_law_way_right.<locals>.<lambda>")) (by decide +kernel)) (tqs (r := (("_law_way_right", none), "_law_way_right.<locals>.<lambda>")) (by decide +kernel)) FC_law_way_right, gw _ (by decide +kernel), F_law_way_right.kp, b_law_way_right⟩
  have G2 : DnG P w K mg base 14 "_law_tie_right" ["_law_pot_here", "_law_spots", "_law_tie_here"] (KD.spTie2 (TT5 K)) := ⟨_, d_law_tie_right, KD.ok_tie2 (Z := kZ K) (ZA := kZA K) ⟨fr, LX, LQ, Ls, Li, rm, G1⟩ F_law_tie_right, gw _ (by decide +kernel), F_law_tie_right.kp, b_law_tie_right⟩
  have G3 : DnG P w K mg base 13 "_law_zero_right" ["_law_spots"] (KD.spZero (TT5 K)) := ⟨_, d_law_zero_right, KD.ok_zero (Z := kZ K) (ZA := kZA K) ⟨fr, B, Rp, LX, rm, tq, tol⟩ (tabs (r := (("_law_zero_right", none), "_law_zero_right.<locals>.<lambda>")) (by decide +kernel)) (tqs (r := (("_law_zero_right", none), "_law_zero_right.<locals>.<lambda>")) (by decide +kernel)) FC_law_zero_right, gw _ (by decide +kernel), F_law_zero_right.kp, b_law_zero_right⟩
  have G4 : DnG P w K mg base 15 "_law_right" ["_law_pot_here"] (KD.spRight (TT5 K)) := ⟨_, d_law_right, KD.ok_right fr LN LT G2 G3 F_law_right, gw _ (by decide +kernel), F_law_right.kp, b_law_right⟩
  exact KD.ok_law fr L0 G4 F_law
end KB

set_option Elab.async false
set_option linter.all false
set_option maxRecDepth 100000
set_option maxHeartbeats 0
namespace KB
open PySem PySem.W PySem.Calls PyProof.Rows
abbrev qv : Program := view R.prog [0, 75]
abbrev dL : DefRec := HandSHeadRun.topDef R.prog 75
theorem g3 : defOf qv R.name = some (dL, []) := by kernel_rfl
theorem g4 : R.prog.theDef R.name = some (dL.params, dL.body, dL.scope) := by kernel_rfl
theorem g5 : kwWritten? dL.params.kwonlyargs dL.params.kw_defaults = some [] := by kernel_rfl
theorem g6 : (!R.writes || R.records.isEmpty) = true := by rfl
theorem g7 : R.wellSaid = true := by decide +kernel
theorem g8 : (chainsOk qv && opensWell R.prog && (frees R.toRowW && R.within.isEmpty)) = true := by decide +kernel
theorem g9 : R.prog.bare := ⟨rfl, rfl, rfl, rfl, rfl, by decide +kernel⟩
set_option maxHeartbeats 8000000 in
theorem gwi : R.toRowW.promised := by w_witness2
theorem tt5 {K : PySem.W.Frag} {M : Addr → Addr → Prop} (di : diB K = true) (H : ∀ r ∈ tf, M (He.cT K r).2 (He.cT K r).1) : ∀ p ∈ (TT5 K).map (·.1), M p (cf K p) := by
  intro p hp
  obtain ⟨x, hx, rfl⟩ := List.mem_map.mp hp
  obtain ⟨r, hr, rfl⟩ := List.mem_map.mp hx
  show M (He.cT K r.1).2 (cf K (He.cT K r.1).2)
  rw [cf_eq di hr]
  exact H r.1 (show r.1 ∈ tl5.map (·.1) from List.mem_map_of_mem (f := (·.1)) hr)
set_option maxHeartbeats 8000000 in
theorem gcl : WalkO qv loose (XL qv []) hk.says R.toRowW dL [] fun f vs => PySem.call f vs := by
  refine Gd.walkGTs (l := PySem.Challenge.rw_keptlast_k16_whole_worked_out) (n := 63) (k := 16) (x := "_law_script") rfl (by decide) (by kernel_rfl) ⟨rfl, by decide, by decide⟩ ?F
  intro w mg f h Y G hmg0
  obtain ⟨K, KX, c⟩ := Y
  have hmg : mg ("law" : PySem.Str) = some (.ref f) := by
    have e : dL.name = ("law" : PySem.Str) := by kernel_rfl
    rw [← e]
    exact hmg0
  obtain ⟨gL, fd, hb, hF⟩ := KB.facts (P := (PySem.Challenge.rw_keptlast_k16_whole_worked_out).prog) (w := w) KX G c
  have e2 : f = He.ga K "law" := by
    have z := hmg.symm.trans gL
    injection z with z
    injection z
  subst e2
  refine ⟨K, fd, KD.spLaw K (TT5 K), cf K, TT5 K, KX, fun p hp => ?e, fun p hp => ?o, fun p hp => ?h, hb, fun H a ns hl hT hS => ⟨a, ns, rfl, hl, hS, hT, fun _ => rfl⟩, hF⟩
  case e => exact tt5 (M := fun p _ => h.get? p = some Gd.noTab) c.di (fun r hr => c.emp r hr) p hp
  case o => exact tt5 (M := fun p _ => K.lookup p = none) c.di (fun r hr => c.out r hr) p hp
  case h => exact PySem.W.codeHd_of_K KX (tt5 (M := fun p a => PySem.W.codeHdIn K a p = true) c.di (fun r hr => c.hd r hr) p hp)
end KB
open PySem PySem.W PySem.Calls PyProof.Rows
set_option maxRecDepth 100000 in
set_option maxHeartbeats 8000000 in
theorem PySem.Challenge.cw_keptlast_k16_whole_worked_out_holds : PySem.Challenge.rw_keptlast_k16_whole_worked_out.Holds := by
  w_on; o_law
  exact HandSHeadRun.head_imp (r := KB.R) (q := KB.qv) (H := KB.hk) (ob := KB.ob) (M := 20000) (loose := KB.loose) (d := KB.dL) (kwd := []) KB.ob_eq KB.run KB.g3 KB.g4 KB.g5 KB.g6 KB.g7 KB.g8 KB.g9 KB.gwi KB.gcl
