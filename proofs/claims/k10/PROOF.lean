import PyProof.Rows.All
import HandS.Ends
import HandS.Head0
import HandS.Head1
import HandS.Head2
import HandS.HeadEnd
import HandS.HeadHook1
import HandS.HeadHook2
import HandS.HeadHook3
import HandS.HeadHook4
import KE.KStateDown
import Lean
import HandS.Words
import Wide.All
import OpenK.AllK
import Wide.FinOn
import PyProof.EqAt
import PyProof.EqKinds
import PyProof.TupleCall
import PyProof.ReprNest
import PyProof.ReprDict
import HandS.ForMost
import HandS.Exc
import HandS.Defaults
import HandS.ExcInit
import KE.KExcInit
import KE.KExcIs
import KE.KExcMake
import HandS.IsInst
import HandS.Wide
import HandS.WideBits
import HandS.Walk
import HandS.Flow
import HandS.Codes
import HandS.ExcOwn
import HandS.TryMany
import HandS.WordsExc
import HandS.HeadNt
import PySem.Challenge.RW_keptlast_k10_errors
set_option Elab.async false
set_option linter.all false
set_option maxRecDepth 100000
set_option maxHeartbeats 0
namespace Gd
open PySem PySem.Spec L2
/-- built-ins that no text of ours hides -/
def frees : List Str := ["abs", "max", "min", "len", "int", "divmod", "range", "tuple", "isinstance", "repr", "all", "any", "str", "bool", "list", "dict", "sorted", "enumerate", "zip", "sum", "ValueError", "LookupError", "RuntimeError", "ArithmeticError"]
end Gd
namespace K10
open PySem PySem.Spec PyProof.Rows L2 Gd
def top (i : Nat) : Stmt := PySem.Challenge.pw_keptlast_k10_errors.main.body.getD i (.Pass ⟨0, 0, 0, 0⟩)
/-- the classes by their ways -/
def cnT : List Str := (["InvalidAmount", "InvalidName", "InvalidRule", "InvalidForm", "InvalidCount", "InvalidClaim", "InvalidLine", "UnknownField", "UnknownRule", "InvalidWays", "InvalidFields", "InvalidSet", "InvalidLot", "InvalidRow", "InvalidFacts", "InvalidEdits", "OtherSequence", "CommandFailed", "InvalidNumbers", "OtherFields", "Contradicted", "Refused", "InvalidRules", "NotWeb", "NameTaken", "NotTotals", "LooseRule", "DividedByZero", "Barred", "Never", "InvalidWeights", "InvalidText", "InvalidSide", "TooMany", "NothingToUndo"] : List String).map Str.ofString
def fnT : List Str := (["value", "value", "value", "value", "value", "value", "value", "value", "value", "position", "position", "position", "position", "position", "position", "position", "position", "position", "field", "field", "field", "field", "name", "name", "name", "rule", "rule", "rule", "rule_set", "rule_set", "key", "line"] : List String).map Str.ofString
def cn (n : Nat) : Str := cnT.getD n ""
def fnm (n : Nat) : Str := fnT.getD n ""
/-- which class above is an error's -/
def firstOf (n : Nat) : Nat := if n = 7 ∨ n = 8 then 2 else if n = 17 ∨ n = 21 ∨ n = 24 ∨ n = 29 ∨ n = 34 then 4 else if n = 27 then 6 else 0
def gnames : List Str := cnT ++ ([ "FormError", "MissingError", "StateError", "AmountError"] : List String).map Str.ofString
/-- which errors the clauses catch -/
def abv (j : Nat) : Str := if j = 0 then "FormError" else if j = 1 then "MissingError" else if j = 2 then "StateError" else "AmountError"
/-! ### what the head's look at the classes says -/
def bsB (k : Nat) : String := if k = 0 then "ValueError" else if k = 2 then "LookupError" else if k = 4 then "RuntimeError" else "ArithmeticError"
def nwB (k : Nat) : String := if k = 0 then "ValueError.__new__" else if k = 2 then "LookupError.__new__" else if k = 4 then "RuntimeError.__new__" else "ArithmeticError.__new__"
def inB (k : Nat) : String := if k = 0 then "ValueError.__init__" else if k = 2 then "LookupError.__init__" else if k = 4 then "RuntimeError.__init__" else "ArithmeticError.__init__"
def bmB (k : Nat) : List Value := [.type (bsB k), .type "Exception", .type "BaseException", .type "object"]
def fldsOf (n : Nat) : List Str := if n < 32 then [fnm n] else if n = 32 then ["side", "position"] else if n = 33 then ["kind", "limit"] else []
abbrev ca (K : W.Frag) (n : Nat) : Addr := He.ga K (cn n)
abbrev aa (K : W.Frag) (j : Nat) : Addr := He.ga K (abv j)
def mroB (K : W.Frag) (n : Nat) (C : Addr) : Bool := match W.clsIn K C with
  | some cd => decide (cd.mro = .ref C :: .ref (aa K (firstOf n / 2)) :: bmB (firstOf n))
  | none => false
def clB (K : W.Frag) (n : Nat) (C : Addr) : Bool :=
  mroB K n C && (W.excInitIn K C (bmB (firstOf n)) (nwB (firstOf n)) && (W.excOver K C (bmB (firstOf n)) && (W.keepIn K (.ref C) && (W.hasDictIn K C && (decide (W.typeIn K (.ref C) = some (.type "type")) &&
  (He.eqO (W.findIn K (.ref C) "__init__") (if n = 34 then some (some (.builtin (inB 4))) else some (some (.ref (He.ma K C "__init__")))) && ((decide (n = 34) || decide (W.typeIn K (.ref (He.ma K C "__init__")) = some (.type "function"))) &&
  (He.eqO (W.findIn K (.ref C) "__setattr__") (some (some (.builtin "object.__setattr__"))) && (He.eqO (W.findIn K (.ref C) "__getattribute__") (some (some (.builtin "BaseException.__getattribute__"))) && (He.eqO (W.findIn K (.ref C) "__getattr__") (some none) &&
  (He.eqO (W.findIn K (.ref C) "__class__") (some (some (.builtin "object.__class__"))) && (fldsOf n).all fun f => He.eqO (W.takerIn K C f) (some none) && He.eqO (W.findIn K (.ref C) f) (some none))))))))))))
def abB (K : W.Frag) (A : Addr) : Bool := (W.clsIn K A).isSome && (decide (W.typeIn K (.ref A) = some (.type "type")) && decide (W.subIn K (.ref A) (.type "BaseException") = some true))
def exB (K : W.Frag) : Bool := ((List.range 35).all fun n => clB K n (ca K n)) && (((List.range 4).all fun j => abB K (aa K j)) && (decide ((((List.range 35).map fun n => ca K n) ++ (List.range 4).map fun j => aa K j).Nodup) &&
  (He.eqO (W.specialIn K (.builtin "object.__class__") "__get__") (some (some (.builtin "getset_descriptor.__get__"))) && decide (W.takesIn K (.builtin "object.__class__") = some true))))
def dOf (x : Str) (i : Nat) : He.DefD := ⟨(x, none), x, x, defArgs (top i), defBody (top i), defScope (top i), [], []⟩
def fn1 : List He.DefD := [dOf "_law_pot" 41, dOf "_law_draw" 42, dOf "_law_pick" 43, dOf "_law_named" 44, dOf "_law_far" 45, dOf "_law_thing" 46, dOf "_law_made_first" 47, dOf "_law_made_second" 48, dOf "_law_made_third" 49, dOf "_law_made" 50, dOf "_law_held_by" 51, dOf "_law_kin" 52, dOf "_law_above_right" 53, dOf "_law_raised" 54, dOf "_law_caught" 55, dOf "_law_error_right" 56, dOf "_law_right" 57, dOf "law" 58]
/-- where the classes stand -/
def ixT : List Nat := [2, 3, 8, 11, 16, 19, 20, 30, 31, 6, 9, 12, 13, 14, 15, 17, 23, 35, 7, 22, 24, 34, 10, 25, 36, 26, 27, 39, 21, 33, 4, 18, 5, 28, 37]
def ini (n : Nat) : Stmt := match top (ixT.getD n 0) with
  | .ClassDef (body := b) .. => b.getD 0 (.Pass ⟨0, 0, 0, 0⟩)
  | s => s
def mOf (n : Nat) : He.DefD := ⟨(cn n, some "__init__"), "__init__", cn n ++ ".__init__", defArgs (ini n), defBody (ini n), defScope (ini n), [], []⟩
def fn2 : List He.DefD := (List.range 34).map mOf
def fn : List He.DefD := fn1 ++ fn2
def lawNames : List Str := (["_law_pot", "_law_draw", "_law_pick", "_law_named", "_law_far", "_law_thing", "_law_made_first", "_law_made_second", "_law_made_third", "_law_made", "_law_held_by", "_law_kin", "_law_above_right", "_law_raised", "_law_caught", "_law_error_right", "_law_right"] : List String).map Str.ofString
def fa : List He.Fa := (gnames ++ lawNames ++ [("law" : Str)]).map He.Fa.glo ++ frees.map He.Fa.free
abbrev R : PySem.W.OpenRow := PySem.W.OpenLaw.row PySem.Challenge.rw_keptlast_k10_errors
def loose : List Str := gnames ++ lawNames
/-- what the module's names reach: classes, their names, functions, code objects -/
def kids (g : Addr → Option Obj) (a : Addr) : List Addr := match g a with
  | some ⟨_, _, .cls cd, _⟩ => [cd.ns]
  | some ⟨_, _, .func fd, _⟩ => He.refV fd.code
  | some ⟨_, _, .dict es _, _⟩ => es.toList.flatMap fun e => He.refV e.val
  | _ => []
def as1 (g : Addr → Option Obj) : List Addr := kids g mainGlobals
def as2 (g : Addr → Option Obj) : List Addr := (as1 g).flatMap (kids g)
def as3 (g : Addr → Option Obj) : List Addr := (as2 g).flatMap (kids g)
def as4 (g : Addr → Option Obj) : List Addr := (as3 g).flatMap (kids g)
def frK (g : Addr → Option Obj) : W.Frag := He.frT g (mainGlobals :: (as1 g ++ (as2 g ++ (as3 g ++ as4 g))))
def seeK (K : W.Frag) : He.AlX := (He.obsT fa fn [] K, exB K)
def hk : PySem.W.Hook where
  α := He.AlX
  obs := fun s => seeK (frK s.heap.get?)
  val := fun w => He.valX fn [] w
  says := fun w h => ∃ K : W.Frag, K.In h ∧ He.SaysT fa fn [] w K ∧ exB K = true
  of := fun _ _ e => ⟨_, He.frT_in, congrArg (fun z : He.AlX => z.1) e, congrArg (fun z : He.AlX => z.2) e⟩
  keeps := fun _ _ _ ⟨K, hK, c⟩ k => ⟨K, W.Frag.In.keeps hK k, c⟩
def ob (s : PySem.W.SharedT) : He.AlX := seeK (frK (HandSHeadRun.getT s))
theorem ob_eq (s : PySem.W.SharedT) : ob s = hk.obs s.abs := by
  have e : HandSHeadRun.getT s = s.abs.heap.get? := funext (HandSHeadRun.getT_eq s)
  show seeK (frK (HandSHeadRun.getT s)) = seeK (frK s.abs.heap.get?)
  rw [e]
theorem run (w : World) : HandSHeadRun.RunEq R (PySem.W.view R.prog [58]) hk ob 20000 loose w := by
  intro os
  kernel_rfl
end K10

set_option Elab.async false
set_option linter.all false
set_option maxRecDepth 100000
set_option maxHeartbeats 4000000
/-! Defs that must know that no repr is under way around them. -/
namespace Gd
open PySem PySem.Spec PyProof.Rows L2

/-- nothing that guards a repr runs around -/
abbrev Bare (A : Around) : Prop := A.guards = some []

/-- a def's promise, kept wherever no repr is under way -/
structure FnG (P : Program) (w : World) (K : PySem.W.Frag) (mg : Str → Option Value) (base : Heap) (CX : CXT) (k : Nat) (f : Addr) (fd : FuncData) (ps : List Str) (sp : Sp) : Prop where
  len : ∀ vs H Q E, sp vs H Q E → vs.length = ps.length
  go : ∀ (A : Around) (outer : List Env) (s : Shared) (H : Hp) (args : Args) (us : List Value) (vs : List V) (Q : VK) (E : XK),
    Bare A → Room k A → Env0 P w K mg base A outer s H → BindsTo s fd args (ps.zip us) → Vals vs us → sp vs H Q E →
    codeAny (model P w) A (.call (.ref f) args) (CR CX outer P w H s Q E) s

theorem FnG.of {P : Program} {w : World} {K : PySem.W.Frag} {mg : Str → Option Value} {base : Heap} {CX : CXT} {k : Nat} {f : Addr} {fd : FuncData} {ps : List Str} {sp : Sp}
    (F : FnOk P w K mg base CX k f fd ps sp) : FnG P w K mg base CX k f fd ps sp :=
  ⟨F.len, fun A outer s H args us vs Q E _ hr e0 hb r h => F.run A outer s H args us vs Q E hr e0 hb r h⟩

section
variable {CX : CXT} {P : Program} {w : World} {K : PySem.W.Frag} {mg : Str → Option Value} {base : Heap} {k : Nat} {f : Addr}

/-- such a def by its body -/
theorem fnG_of {name qual : Str} {params : Arguments} {body : List Stmt} {sc : Scope} {dV kV doc pm cdv ct oc : Value} {an od : Option Addr} {osl : Array (Option Value)} {N ps : List Str} {sp : Sp}
    (at_ : K.lookup f = some ⟨oc, od, .func (PySem.W.fnOf name qual params body sc dV kV doc pm an cdv ct), osl⟩)
    (code : PySem.W.codeIn K cdv qual = true) (S : FnScope N ps sc) (len : ∀ vs H Q E, sp vs H Q E → vs.length = ps.length)
    (walk : ∀ (A : Around) (outer : List Env) (s : Shared) (H : Hp) (vs : List V) (Q : VK) (E : XK),
      Bare (A.deeper (envOfC qual sc s.heap.objs.size f cdv)) → Room k (A.deeper (envOfC qual sc s.heap.objs.size f cdv)) → sp vs H Q E →
      ∃ t, PSs (cxOf CX P w K mg base N qual sc f cdv A outer s H E) body t ∧ t { nx := fun _ H' => Q .non H', rt := Q } (start N vs) H) :
    FnG P w K mg base CX (k + 1) f (PySem.W.fnOf name qual params body sc dV kV doc pm an cdv ct) ps sp := by
  refine ⟨len, fun A outer s H args us vs Q E hg room e0 bd rv want => ?_⟩
  have nvs := len _ _ _ _ want
  have inK : K.In s.heap := e0.mod.kin.keeps (fun b o z => (e0.bs b o z).1)
  have noLim : s.heap.NoLimit := e0.mod.nolimit.keeps (fun b o z => (e0.bs b o z).1)
  have kinds : ∀ y ∈ ps.zip us, sc.names.lookup y.1 = some .local ∨
      (sc.names.lookup y.1 = some .cell ∧ ((cellsFrom (s.heap.objs.size + 1) sc.names []).lookup y.1).isSome = true) := by
    rintro ⟨n, v⟩ hy
    cases S.par n (List.of_mem_zip hy).1 with
    | inl z => exact .inl z
    | inr z => exact .inr ⟨z, PySem.W.cellsFrom_some _ _ _ (.inl z)⟩
  refine codeAny_call_function room.depth (inK _ _ at_) rfl S.co S.gen rfl (PySem.W.codeRec_of inK code) (bd _ _ _ _ ?_)
  refine wpAny_newFunctionEnv_cells S.kind kinds (fun env ee s1 ic => ?_)
  subst ee
  refine ⟨noLim.keeps ic.toInCall.keep, codeAny_func ?_⟩
  obtain ⟨t, der, rd⟩ := walk A outer s H vs Q E hg (room.deeper _) want
  have J : Inv (cxOf CX P w K mg base N qual sc f cdv A outer s H E) [] (start N vs) H s1 := inv_start S room.hd e0 nvs rv ic
  refine wpAny_mono (der.run [] s1 (start N vs) H _ J rd) (fun fl s2 hs => ?_) (fun e s2 hs => hs)
  cases fl with
  | ret u =>
    obtain ⟨v, σ2, H2, J2, rv2, q⟩ := hs
    exact ⟨v, H2, J2.os, J2.bare, J2.base, J2.hok, rv2, q⟩
  | next =>
    obtain ⟨σ2, H2, J2, q⟩ := hs
    exact ⟨V.non, H2, J2.os, J2.bare, J2.base, J2.hok, rfl, q⟩
  | brk =>
    obtain ⟨_, _, _, q⟩ := hs
    exact q.elim
  | cont =>
    obtain ⟨_, _, _, q⟩ := hs
    exact q.elim
end

section
variable {P : Program} {w : World} {K : PySem.W.Frag} {mg : Str → Option Value} {base : Heap}
theorem okG {x qual : Str} {st : Stmt} {f : Addr} {fd : FuncData} {N ps : List Str} {k : Nat} {sp : Sp} (F : Fun K x qual st f fd) (S : FnScope N ps (defScope st)) (len : ∀ vs H Q E, sp vs H Q E → vs.length = ps.length)
    (walk : ∀ (cdv : Value) (A : Around) (outer : List Env) (s : Shared) (H : Hp) (vs : List V) (Q : VK) (E : XK), Bare (A.deeper (envOfC qual (defScope st) s.heap.objs.size f cdv)) →
      Room k (A.deeper (envOfC qual (defScope st) s.heap.objs.size f cdv)) → sp vs H Q E →
      ∃ t, PSs (cxOf CX0 P w K mg base N qual (defScope st) f cdv A outer s H E).nox (defBody st) t ∧ t { nx := fun _ H' => Q .non H', rt := Q } (start N vs) H) :
    FnG P w K mg base CX0 (k + 1) f fd ps sp := by
  obtain ⟨oc, od, kV, doc, pm, an, cdv, ct, osl, rfl, at_, code⟩ := F.ex
  refine fnG_of at_ code S len (fun A outer s H vs Q E hg hr want => ?_)
  obtain ⟨t, h, q⟩ := walk cdv A outer s H vs Q E hg hr want
  exact ⟨t, h.nox, q⟩
end

section
variable {X : Cx} {CX : CXT} {k : Nat} {f : Addr} {fd : FuncData} {ps : List Str} {sp : Sp} {dvs : List V} {ds : List Value} {E : XK} {x : Str} {p pos : Pos} {e : Expr} {es : List Expr} {t : TA}
theorem runG {pins : List (Addr × Obj)} {σ : L2.St} {H : Hp} {s : Shared} {Q : VK} {us : List Value} {vs : List V} (hG : Bare X.A) (F : FnG X.prog X.w X.K X.mg X.base CX k f fd ps sp) (hr : Room k X.A) (hb : Binds X.K fd ps ds) (hd : Vals dvs ds)
    (hx : Passes CX X E) (I : Inv X pins σ H s) (r : Vals vs us) (want : sp (vs ++ dvs) H Q E) : wpAny (model X.prog X.w) X.A (call (.ref f) us) (EP X pins σ Q) X.xe s := by
  have all : Vals (vs ++ dvs) (us ++ ds) := r.append hd
  have nl : (us ++ ds).length = ps.length := by
    rw [← all.length]
    exact F.len _ _ _ _ want
  refine wpAny_call (codeAny_mono (F.go X.A X.stack s H ⟨us, []⟩ (us ++ ds) (vs ++ dvs) Q E hG hr I.env0 (hb s us I.kIn nl) all want) (fun res s2 z => ?_))
  cases res with
  | error er => exact hx pins σ H s er s2 I z
  | ok fl =>
    cases fl with
    | ret u => exact I.after z
    | next => exact z.elim
    | brk => exact z.elim
    | cont => exact z.elim
/-- f(e, ..), f a def that wants no repr around -/
theorem pe_callG (hG : Bare X.A) (F : FnG X.prog X.w X.K X.mg X.base CX k f fd ps sp) (hr : Room k X.A) (hg : Gl X x) (hm : X.mg x = some (.ref f)) (hk : PySem.W.keepIn X.K (.ref f) = true) (hb : Binds X.K fd ps ds) (hd : Vals dvs ds)
    (hx : Passes CX X E) (ha : PA X (e :: es) t) (hdb : (x == ("__debug__" : Str)) = false := by decide)
    (he : starEach (e :: es) X.env = (false, eval e X.env) :: starEach es X.env := by rfl) (hpl : (backTo pos (starEach es X.env)).any (·.1) = false := by rfl) :
    PE X (.Call (.Name x p) (e :: es) [] pos) (tCall sp dvs E t) := by
  refine ⟨fun pins s σ H Q I want => wpAny_Call_Name_kw (ld_glob I hg hm ?_ hdb)⟩
  refine PySem.W.callWith_K (h₀ := X.base) I.ok.mod.kin hk (thn (ha.run pos pins s σ H _ I want) fun us s1 ⟨vs, H1, I1, r, q⟩ => ⟨I1.kIn, ?_⟩) he hpl
  exact runG hG F hr hb hd hx I1 r q
end

/-! ### the end of a law -/
theorem lawG {P : Program} {w : World} {K : PySem.W.Frag} {mg mb : Str → Option Value} {k : Nat} {fa a : Addr} {fd : FuncData} {x : Str} {sp : Sp} {s₁ : Shared} {vs : List Value} {ns : List Int}
    (inK : K.In s₁.heap) (hmg : s₁.heap.Ns mainGlobals mg) (hmb : s₁.heap.Ns builtinsNs mb) (hbt : ∀ x : Str, x ≠ "__name__" → mb x = bootBuiltins x) (lim : s₁.heap.NoLimit) (hgen : s₁.gens = #[])
    (hobj : s₁.heap.get? a = some { cls := .type "list", data := .seq vs.toArray }) (hints : IntsAre vs ns) (hlen : ns.length ≤ sizeLine) (room : Room k callerA)
    (F : ∀ base : Heap, K.In base → base.Ns mainGlobals mg → FnG P w K mg base CX0 k fa fd [x] sp) (hbd : ∀ (s : Shared) (u : Value), BindsTo s fd ⟨[u], []⟩ [(x, u)])
    (hsp : ∀ H : Hp, Only H → SqL K H a (ns.map V.int) → sp [.ref a] H (fun v _ => v = .bl true) fun _ _ _ => False) :
    codeAny (model P w) callerA (.call (.ref fa) ⟨[.ref a], []⟩) (fun r s' => r = .ok (.ret (.bool true)) ∧ OldK s₁.heap s'.heap ∧ s'.os = s₁.os ∧ AllBare s'.gens) s₁ := by
  have key : ∀ T : Params → True, True := fun _ => trivial
  -- what the layer's own end proves for defs that run anywhere, at a def that answers at once: its shape is used for ours
  have rv := vals_ints hints
  have nvs := hints.length
  have core : ∀ H : Hp, Only H → SqL K H a (ns.map V.int) → HOk P w H s₁.heap → (∀ b, H b ≠ none → b = a) → (H a ≠ none → K.lookup a = none) →
      codeAny (model P w) callerA (.call (.ref fa) ⟨[.ref a], []⟩) (fun r s' => r = .ok (.ret (.bool true)) ∧ OldK s₁.heap s'.heap ∧ s'.os = s₁.os ∧ AllBare s'.gens) s₁ := by
    intro H only sq hok onlyA notK
    have free_of : ∀ {b : Addr} {o : Obj} {es : Array DictEntry} {ep : Nat}, s₁.heap.get? b = some o → o.data = .dict es ep → H b = none := by
      intro b o es ep e d
      cases q : H b with
      | none => rfl
      | some u =>
        have eb : b = a := onlyA b (by rw [q]; simp)
        rw [eb, hobj] at e
        cases e
        cases (show Data.seq vs.toArray _ = Data.dict es ep from d)
    have ns_of : ∀ {b : Addr} {m : Str → Option Value}, s₁.heap.Ns b m → (hidT s₁.heap H).Ns b m := by
      rintro b m ⟨o, es, ep, e, d, r⟩
      exact ⟨o, es, ep, hidT_get e (free_of e d), d, r⟩
    have inB : K.In (hidT s₁.heap H) := by
      intro b o e
      refine hidT_get (inK b o e) ?_
      cases q : H b with
      | none => rfl
      | some u =>
        have eb : b = a := onlyA b (by rw [q]; simp)
        subst eb
        have z := notK (by rw [q]; simp)
        rw [z] at e
        exact nomatch e
    obtain ⟨mc, l1, l2⟩ := lim
    have md : Mod K mg (hidT s₁.heap H) := ⟨inB, ns_of hmg, ⟨mb, ns_of hmb, hbt⟩, ⟨mc, ns_of l1, l2⟩⟩
    have nil : ∀ b : Addr, b ∉ ([] : List Addr) := fun b z => nomatch z
    have e0 : Env0 P w K mg (hidT s₁.heap H) callerA [] s₁ H :=
      ⟨rfl, md, fun b o e => of_hidT e, Nat.le_of_eq (hidT_size _ _), trivial, fun b hb => absurd (show b ∈ ([] : List Addr) from hb) (nil b), hok, .of_eq hgen⟩
    refine codeAny_mono ((F _ inB (ns_of hmg)).go callerA [] s₁ H ⟨[.ref a], []⟩ [.ref a] [.ref a] _ _ rfl room e0 (hbd s₁ (.ref a)) (.cons rfl .nil) (hsp H only sq)) (fun r s2 z => ?_)
    cases r with
    | error er => exact z.elim
    | ok fl =>
      cases fl with
      | next => exact z.elim
      | brk => exact z.elim
      | cont => exact z.elim
      | ret u =>
        obtain ⟨v, H2, os, bare, un, hok2, rr, q⟩ := z
        have ev : v = .bl true := q
        subst ev
        obtain rfl : u = Value.bool true := rr
        refine ⟨rfl, OldK.of_keep (fun b o e => ?_), os, bare⟩
        cases q2 : H b with
        | none => exact un.keep b o e q2 (nil b) (nil b)
        | some u =>
          cases only b with
          | inl z => rw [q2] at z; cases z
          | inr z =>
            obtain ⟨ob, xs, z⟩ := z
            obtain ⟨e1, _⟩ := hok b _ z
            obtain ⟨e2, _⟩ := hok2 b _ (un.frzs b ob _ z)
            rw [e] at e1
            cases e1
            exact e2
  cases hk : K.lookup a with
  | some o =>
    have e := inK a o hk
    rw [hobj] at e
    cases e
    exact core (fun _ => none) (fun _ => .inl rfl) (.inr ⟨_, vs.toArray, _, hk, rfl, rfl, rfl, by rw [List.size_toArray, nvs]; exact hlen, by simpa using rv⟩)
      (fun b u z => nomatch (show (none : Option HO) = some u from z)) (fun b z => absurd rfl z) (fun z => absurd rfl z)
  | none =>
    refine core (fun b => if b = a then some (.frz { cls := .type "list", data := .seq vs.toArray } (.lst (ns.map V.int))) else none) (fun b => ?_) (.inl (.inr ⟨_, if_pos rfl⟩)) (fun b u z => ?_) (fun b z => ?_) (fun _ => hk)
    · rcases Decidable.em (b = a) with hb | hb
      · exact .inr ⟨_, _, if_pos hb⟩
      · exact .inl (if_neg hb)
    · rcases Decidable.em (b = a) with hb | hb
      · have z2 := (if_pos hb).symm.trans z
        cases z2
        subst hb
        exact ⟨hobj, by rw [List.length_map]; exact hlen, vs, _, rv, hobj⟩
      · have z2 := (if_neg hb).symm.trans z
        cases z2
    · rcases Decidable.em (b = a) with hb | hb
      · exact hb
      · exact absurd (if_neg hb) z
/-- a law over a head by facts -/
theorem walkG {l : PySem.W.OpenLaw} {n k : Nat} {q : Program} {loose : List Str} {XP : (Str → Option Value) → Heap → Prop} {YP : World → Heap → Prop} {d : DefRec} {x : Str}
    (hn : l.most = some n) (hn2 : n ≤ sizeLine) (hdf : d.params.defaults = []) (room : Room k callerA)
    (F : ∀ (w : World) (mg : Str → Option Value) (fa : Addr) (h : Heap), YP w h → h.Ns mainGlobals mg → mg d.name = some (.ref fa) →
      ∃ (K : PySem.W.Frag) (fd : FuncData) (sp : Sp), K.In h ∧ (∀ (s : Shared) (u : Value), BindsTo s fd ⟨[u], []⟩ [(x, u)]) ∧
        (∀ (H : Hp) (a : Addr) (ns : List Int), ns.length ≤ n → Only H → SqL K H a (ns.map V.int) → sp [.ref a] H (fun v _ => v = .bl true) fun _ _ _ => False) ∧
        ∀ base : Heap, K.In base → base.Ns mainGlobals mg → FnG l.prog w K mg base CX0 k fa fd [x] sp) :
    PySem.W.WalkO q loose XP YP l.row.toRowW d [] (fun f vs => PySem.call f vs) := by
  refine Att.attach_call hn hdf (fun w s₀ s₁ mg mb fa o pm cd doc a vs ns G Y ho hd hcd hmg hobj hints hlen hg => ?_)
  obtain ⟨K, fd, sp, inK, hbd, hsp, hF⟩ := F w mg fa _ Y G.T.g hmg
  exact lawG inK G.T.g G.T.b G.T.builtins G.T.nolimit hg hobj hints (Nat.le_trans hlen hn2) room hF hbd (fun H only sq => hsp H a ns hlen only sq)
end Gd

set_option Elab.async false
set_option linter.all false
set_option maxRecDepth 100000
set_option maxHeartbeats 4000000
/-! repr of data at any depth. -/
namespace Gd
open PySem PySem.Spec PyProof.Rows L2

/-- the repr of a key -/
inductive KeyT : Key → Str → Prop
  | int (i : Int) (h : i.natAbs.log2 < 1920) : KeyT (.inl i) (toString i)
  | str (x : Str) (h : (reprText x).length ≤ sizeLine) : KeyT (.inr x) (reprText x)
/-- x is data of depth d at the addresses as, its repr is t -/
inductive Rp (H : Hp) : List Addr → Nat → V → Str → Prop
  | non {as d} : Rp H as d .non "None"
  | bl {as d} (b : Bool) : Rp H as d (.bl b) (if b then "True" else "False")
  | int {as d} (i : Int) (h : i.natAbs.log2 < 1920) : Rp H as d (.int i) (toString i)
  | str {as d} (x : Str) (h : (reprText x).length ≤ sizeLine) : Rp H as d (.str x) (reprText x)
  | lst {as as0 d a xs ts} (h : H a = some (.lst xs)) (na : a ∉ as0) (sub : ∀ b ∈ a :: as0, b ∈ as) (nl : ts.length = xs.length)
      (it : ∀ (i : Nat) (x : V) (t : Str), xs[i]? = some x → ts[i]? = some t → Rp H as0 d x t) : Rp H as (d + 1) (.ref a) (listText ts)
  | tup {as as0 d a xs ts} (h : H a = some (.tup xs)) (na : a ∉ as0) (sub : ∀ b ∈ a :: as0, b ∈ as) (nl : ts.length = xs.length)
      (it : ∀ (i : Nat) (x : V) (t : Str), xs[i]? = some x → ts[i]? = some t → Rp H as0 d x t) : Rp H as (d + 1) (.ref a) (tupleText ts)
  | dic {as as0 d a} {kvs : List (Key × V)} {ps : List (Str × Str)} (h : H a = some (.dK kvs)) (na : a ∉ as0) (sub : ∀ b ∈ a :: as0, b ∈ as) (nl : ps.length = kvs.length)
      (ke : ∀ (i : Nat) (q : Key × V) (p : Str × Str), kvs[i]? = some q → ps[i]? = some p → KeyT q.1 p.1)
      (it : ∀ (i : Nat) (q : Key × V) (p : Str × Str), kvs[i]? = some q → ps[i]? = some p → Rp H as0 d q.2 p.2) : Rp H as (d + 1) (.ref a) (dictText (ps.map fun p => p.1 ++ ": " ++ p.2))

theorem Rp.more {H : Hp} {as as' : List Addr} {d : Nat} {x : V} {t : Str} (r : Rp H as d x t) (h : ∀ b ∈ as, b ∈ as') : Rp H as' d x t := by
  cases r with
  | non => exact .non
  | bl b => exact .bl b
  | int i z => exact .int i z
  | str y z => exact .str y z
  | lst a na sub nl it => exact .lst a na (fun b hb => h b (sub b hb)) nl it
  | tup a na sub nl it => exact .tup a na (fun b hb => h b (sub b hb)) nl it
  | dic a na sub nl ke it => exact .dic a na (fun b hb => h b (sub b hb)) nl ke it
theorem Rp.deep {H : Hp} {as : List Addr} {d : Nat} {x : V} {t : Str} (r : Rp H as d x t) : ∀ d', d ≤ d' → Rp H as d' x t := by
  induction r with
  | non => exact fun _ _ => .non
  | bl b => exact fun _ _ => .bl b
  | int i z => exact fun _ _ => .int i z
  | str y z => exact fun _ _ => .str y z
  | lst a na sub nl it ih =>
    intro d' hd
    obtain ⟨e, rfl⟩ : ∃ e, d' = e + 1 := ⟨d' - 1, by omega⟩
    exact .lst a na sub nl fun i x t h1 h2 => ih i x t h1 h2 e (by omega)
  | tup a na sub nl it ih =>
    intro d' hd
    obtain ⟨e, rfl⟩ : ∃ e, d' = e + 1 := ⟨d' - 1, by omega⟩
    exact .tup a na sub nl fun i x t h1 h2 => ih i x t h1 h2 e (by omega)
  | dic a na sub nl ke it ih =>
    intro d' hd
    obtain ⟨e, rfl⟩ : ∃ e, d' = e + 1 := ⟨d' - 1, by omega⟩
    exact .dic a na sub nl ke fun i q p h1 h2 => ih i q p h1 h2 e (by omega)
/-- what it hangs on stands -/
theorem Rp.keep {H H' : Hp} {as : List Addr} {d : Nat} {x : V} {t : Str} (r : Rp H as d x t) : (∀ b ∈ as, ∀ o, H b = some o → H' b = some o) → Rp H' as d x t := by
  induction r with
  | non => exact fun _ => .non
  | bl b => exact fun _ => .bl b
  | int i z => exact fun _ => .int i z
  | str y z => exact fun _ => .str y z
  | lst a na sub nl it ih => exact fun k => .lst (k _ (sub _ List.mem_cons_self) _ a) na sub nl fun i x t h1 h2 => ih i x t h1 h2 fun b hb => k b (sub b (List.mem_cons_of_mem _ hb))
  | tup a na sub nl it ih => exact fun k => .tup (k _ (sub _ List.mem_cons_self) _ a) na sub nl fun i x t h1 h2 => ih i x t h1 h2 fun b hb => k b (sub b (List.mem_cons_of_mem _ hb))
  | dic a na sub nl ke it ih => exact fun k => .dic (k _ (sub _ List.mem_cons_self) _ a) na sub nl ke fun i q p h1 h2 => ih i q p h1 h2 fun b hb => k b (sub b (List.mem_cons_of_mem _ hb))

section
variable {P : Program} {w : World} {H : Hp} {h : Heap}
theorem keyT_repr {k : Key} {t : Str} {v : Value} (hk : KeyT k t) (e : keyIs k v = true) {as : List Addr} {d : Nat} : ReprK P w as h d v t := by
  cases hk with
  | int i z =>
    obtain ⟨tk, rfl⟩ := Value.isInt_shape (k := i) (v := v) e
    exact .of_is (.int tk z) _ _ _
  | str x z =>
    obtain ⟨tk, rfl⟩ := Value.isStrOf_shape (x := x) (v := v) e
    exact .of_is (.str x tk z) _ _ _
theorem kv_pairs : ∀ {kvs : List (Key × V)} {vs : List (Key × Value)} {es : List DictEntry}, KV kvs vs → Pairs (mixKind P w) es vs →
    es.length = kvs.length ∧ ∀ (i : Nat) (e : DictEntry), es[i]? = some e → ∃ q, kvs[i]? = some q ∧ keyIs q.1 e.key = true ∧ RelV q.2 e.val
  | _, _, _, .nil, .nil => ⟨rfl, fun i e z => nomatch (show none = some e by simpa using z)⟩
  | _, _, _, .cons (a := a) (b := b) r k, .cons (e := e0) hk hv pr => by
    obtain ⟨h1, h2⟩ := kv_pairs k pr
    refine ⟨by simp [h1], fun i e z => ?_⟩
    cases i with
    | zero =>
      have z' : e0 = e := by simpa using z
      subst z'
      refine ⟨a, rfl, ?_, ?_⟩
      · rw [r.1]; exact hk
      · rw [hv]; exact r.2
    | succ i => exact h2 i e (by simpa using z)
theorem Rp.repr (hok : HOk P w H h) {as : List Addr} {d : Nat} {x : V} {t : Str} (r : Rp H as d x t) : ∀ u, RelV x u → ReprK P w as h d u t := by
  induction r with
  | non =>
    rintro u rfl
    exact .of_is .none _ _ _
  | bl b =>
    rintro u rfl
    exact .of_is (.bool b) _ _ _
  | int i z =>
    rintro u ⟨tk, rfl⟩
    exact .of_is (.int tk z) _ _ _
  | str y z =>
    rintro u ⟨tk, rfl⟩
    exact .of_is (.str y tk z) _ _ _
  | @lst as as0 d a xs ts ha na sub nl it ih =>
    intro u ru
    obtain rfl : u = Value.ref a := ru
    obtain ⟨_, its, n, rv, ho⟩ := (show ObjOk P w H h a (.lst xs) from hok a _ ha)
    have nits := rv.length
    cases its with
    | nil =>
      have e1 : ts = [] := List.length_eq_zero_iff.mp (by rw [nl]; simpa using nits)
      subst e1
      exact (ReprK.listEmpty (d := d + 1) ho rfl rfl).more fun b hb => hb
    | cons y l =>
      refine (ReprK.list (as := as0) (d := d) ho rfl rfl na (by rw [nl, nits]; simp) fun i z hz => ?_).more sub
      have hz' : (y :: l)[i]? = some z := by simpa using hz
      have hi : i < xs.length := by
        rw [nits]
        exact (List.getElem?_eq_some_iff.mp hz').1
      obtain ⟨u2, hu2, r2⟩ := rv.get (List.getElem?_eq_getElem hi)
      rw [hz'] at hu2
      cases hu2
      refine ⟨ts[i]'(by omega), List.getElem?_eq_getElem _, ih i _ _ (List.getElem?_eq_getElem hi) (List.getElem?_eq_getElem _) z r2⟩
  | @tup as as0 d a xs ts ha na sub nl it ih =>
    intro u ru
    obtain rfl : u = Value.ref a := ru
    obtain ⟨_, its, rv, o, ho, hc, n, hd⟩ := (show ObjOk P w H h a (.tup xs) from hok a _ ha)
    refine (ReprK.tuple (as := as0) (d := d) ho hc hd na ?_).more sub
    have all : ∀ (xs : List V) (its : List Value) (ts : List Str), Vals xs its → ts.length = xs.length → (∀ (i : Nat) (x : V) (t : Str), xs[i]? = some x → ts[i]? = some t → ∀ u, RelV x u → ReprK P w as0 h d u t) → ReprAllK P w as0 h d its ts := by
      intro xs its ts rv
      induction rv generalizing ts with
      | nil =>
        intro e _
        have e1 : ts = [] := List.length_eq_zero_iff.mp (by simpa using e)
        subst e1
        exact .nil
      | cons r1 _ ihh =>
        intro e k
        cases ts with
        | nil => simp at e
        | cons t ts =>
          exact .cons (k 0 _ _ rfl rfl _ r1) (ihh ts (by simpa using e) fun i x t h1 h2 => k (i + 1) x t (by simpa using h1) (by simpa using h2))
    simpa using all xs its ts rv nl ih
  | @dic as as0 d a kvs ps ha na sub nl ke it ih =>
    intro u ru
    obtain rfl : u = Value.ref a := ru
    obtain ⟨_, hsys, vs, kv, o, es, ep, ho, hx, hd, _, pr, _⟩ := (show ObjOk P w H h a (.dK kvs) from hok a _ ha)
    refine (ReprK.dict (as := as0) (d := d) ho hx.1 hd hsys na ?_).more sub
    obtain ⟨n1, n2⟩ := kv_pairs kv pr
    have all : ∀ (l : List DictEntry) (qs : List (Str × Str)), qs.length = l.length → (∀ (i : Nat) (e : DictEntry) (p : Str × Str), l[i]? = some e → qs[i]? = some p → ReprK P w as0 h d e.key p.1 ∧ ReprK P w as0 h d e.val p.2) →
        ReprEntriesK P w as0 h d l (qs.map fun p => p.1 ++ ": " ++ p.2) := by
      intro l
      induction l with
      | nil =>
        intro qs e _
        have e1 : qs = [] := List.length_eq_zero_iff.mp (by simpa using e)
        subst e1
        exact .nil
      | cons e l ihh =>
        intro qs n k
        cases qs with
        | nil => simp at n
        | cons q qs =>
          obtain ⟨k1, k2⟩ := k 0 e q rfl rfl
          exact .cons k1 k2 (ihh qs (by simpa using n) fun i e p h1 h2 => k (i + 1) e p (by simpa using h1) (by simpa using h2))
    refine all es.toList ps (by rw [nl, n1]) fun i e p h1 h2 => ?_
    obtain ⟨q, hq, hk, hv⟩ := n2 i e h1
    exact ⟨keyT_repr (ke i q p hq h2) hk, ih i q p hq h2 _ hv⟩
end

section
variable {prog : Program} {w : World} {A : Around} {E : Value → Shared → Prop} {s : Shared}
/-- repr(v), by the type's own method -/
theorem repr_slot {T id : String} {v : Value} {Q : Value → Shared → Prop} (hT : s.TypeIs v T) (slot : SlotG T (Str.ofString "__repr__") id) (hu : A.units + 1 < cLine)
    (hc : wpAny (model prog w) A.in1 (call (.builtin id) [v]) (fun r s' => (∃ x u, r = .str x u) ∧ Q r s') E s) : wpAny (model prog w) A (call (.builtin "repr") [v]) Q E s := by
  refine Calls.call_function_entry F.kind_repr F.plain_repr F.entry_repr (F.args_repr1 _) ?_
  unfold Builtin.«repr»
  refine wpAny_bind (m := oneArg "repr" _) (wpAny_pure ?_)
  refine wpAny_bind (wpAny_cRoomFor (by show A.units + 1 < cLine; exact hu) ?_)
  refine wpAny_bind (wpAny_specialOf (name := Str.ofString "__repr__") hT slot.lookup ?_)
  refine wpAny_bind (m := callSpecialIfBound? v (Str.ofString "__repr__")) (wpAny_callSpecialIfBound?_slotG (name := Str.ofString "__repr__") hT slot (wpAny_mono hc (fun r s' hr => ?_) fun _ _ y => y))
  obtain ⟨⟨x, u, rfl⟩, q⟩ := hr
  refine wpAny_bind (wpAny_isInstance (T := "str") (b := true) rfl isSubtype_str_str ?_)
  exact wpAny_pure ⟨_, rfl, q⟩
end

/-- repr(x), x data -/
def rRepr : List V → Hp → VK → Prop := fun vs H Q => ∃ (x : V) (as : List Addr) (d : Nat) (t : Str), vs = [x] ∧ Rp H as d x t ∧ d ≤ 40 ∧ t.length ≤ sizeLine ∧ Q (.str t) H
theorem call_repr {X : Cx} {k : Nat} (hG : Bare X.A) (hr : Room k X.A) : CallR X (.builtin "repr") rRepr := by
  intro pins s σ H vs us Q I r want
  obtain ⟨x, as, d, t, rfl, rp, hd, hz, q⟩ := want
  obtain ⟨u, rfl, ru⟩ := vals1 r
  have hu := hr.units
  have fin : ∀ h' u2 tk, (∀ b o, s.heap.get? b = some o → h'.get? b = some o) → EP X pins σ Q (.str t u2) { s with heap := h', toks := tk } := fun h' u2 tk k => ⟨.str t, H, I.kept k, ⟨u2, rfl⟩, q⟩
  cases rp with
  | non =>
    cases ru
    exact PySem.P.repr_of_none (fin s.heap _ _ fun _ _ e => e)
  | bl b =>
    cases ru
    exact PySem.P.repr_of_bool (fin s.heap _ _ fun _ _ e => e)
  | int i z =>
    obtain ⟨tk, rfl⟩ := ru
    exact PySem.P.repr_of_int z (fin s.heap _ _ fun _ _ e => e)
  | str y z =>
    obtain ⟨tk, rfl⟩ := ru
    exact PySem.P.repr_of_str (fin s.heap _ _ fun _ _ e => e) z
  | @lst _ as0 d a xs ts ha na sub nl it =>
    obtain rfl : u = Value.ref a := ru
    obtain ⟨_, its, n, rv, ho⟩ := (show ObjOk X.prog X.w H s.heap a (.lst xs) from I.hok a _ ha)
    have nits := rv.length
    refine repr_slot ⟨_, ho, rfl⟩ F.slot_list_repr.toG (by omega) ?_
    cases its with
    | nil =>
      have e1 : ts = [] := List.length_eq_zero_iff.mp (by rw [nl]; simpa using nits)
      subst e1
      exact PySem.call_list_repr_empty ⟨_, ho, rfl⟩ ho rfl ⟨⟨_, _, rfl⟩, fin s.heap _ _ fun _ _ e => e⟩
    | cons y l =>
      refine PySem.call_list_reprK (g := []) (as := as0) (d := d) (h₀ := s.heap) ho rfl rfl na (by rw [nl, nits]; simp) (fun i z hz => ?_) hG (fun b _ => Clear.nil b) (by show X.A.units + 1 + (d + 1) < cLine; omega) (fun _ _ e => e)
        (fun h' u2 tk k => ⟨⟨_, _, rfl⟩, fin h' u2 tk k⟩) hz
      have hz' : (y :: l)[i]? = some z := by simpa using hz
      have hi : i < xs.length := by
        rw [nits]
        exact (List.getElem?_eq_some_iff.mp hz').1
      obtain ⟨u2, hu2, r2⟩ := rv.get (List.getElem?_eq_getElem hi)
      rw [hz'] at hu2
      cases hu2
      exact ⟨ts[i]'(by omega), List.getElem?_eq_getElem _, (it i _ _ (List.getElem?_eq_getElem hi) (List.getElem?_eq_getElem _)).repr I.hok z r2⟩
  | @tup _ as0 d a xs ts ha na sub nl it =>
    obtain rfl : u = Value.ref a := ru
    have rk := (Rp.tup ha na sub nl it).repr I.hok (.ref a) rfl
    obtain ⟨_, its, rv, o, ho, hc, n, hdt⟩ := (show ObjOk X.prog X.w H s.heap a (.tup xs) from I.hok a _ ha)
    refine repr_slot ⟨_, ho, hc⟩ F.slot_tuple_repr (by omega) ?_
    refine PySem.call_tuple_reprK (g := []) (as := as0) (d := d) (h₀ := s.heap) ho hc hdt na ?_ hG (fun b _ => Clear.nil b) (by show X.A.units + 1 + (d + 1) < cLine; omega) (fun _ _ e => e)
        (fun h' u2 tk k => ⟨⟨_, _, rfl⟩, fin h' u2 tk k⟩) hz
    have all : ∀ (xs : List V) (its : List Value) (ts : List Str), Vals xs its → ts.length = xs.length → (∀ (i : Nat) (x : V) (t : Str), xs[i]? = some x → ts[i]? = some t → ∀ u, RelV x u → ReprK X.prog X.w as0 s.heap d u t) → ReprAllK X.prog X.w as0 s.heap d its ts := by
      intro xs its ts rv
      induction rv generalizing ts with
      | nil =>
        intro e _
        have e1 : ts = [] := List.length_eq_zero_iff.mp (by simpa using e)
        subst e1
        exact .nil
      | cons r1 _ ihh =>
        intro e k
        cases ts with
        | nil => simp at e
        | cons t ts =>
          exact .cons (k 0 _ _ rfl rfl _ r1) (ihh ts (by simpa using e) fun i x t h1 h2 => k (i + 1) x t (by simpa using h1) (by simpa using h2))
    simpa using all xs its ts rv nl fun i x t h1 h2 => (it i x t h1 h2).repr I.hok
  | @dic _ as0 d a kvs ps ha na sub nl ke it =>
    obtain rfl : u = Value.ref a := ru
    obtain ⟨_, hsys, vs, kv, o, es, ep, ho, hx, hdt, _, pr, _⟩ := (show ObjOk X.prog X.w H s.heap a (.dK kvs) from I.hok a _ ha)
    refine repr_slot ⟨_, ho, hx.1⟩ F.slot_dict_repr (by omega) ?_
    refine PySem.call_dict_reprK (g := []) (as := as0) (d := d) (h₀ := s.heap) ho hx.1 hdt hsys na ?_ hG (fun b _ => Clear.nil b) (by show X.A.units + 1 + (d + 1) < cLine; omega) (fun _ _ e => e)
        (fun h' u2 tk k => ⟨⟨_, _, rfl⟩, fin h' u2 tk k⟩) hz
    obtain ⟨n1, n2⟩ := kv_pairs kv pr
    have all : ∀ (l : List DictEntry) (qs : List (Str × Str)), qs.length = l.length → (∀ (i : Nat) (e : DictEntry) (p : Str × Str), l[i]? = some e → qs[i]? = some p → ReprK X.prog X.w as0 s.heap d e.key p.1 ∧ ReprK X.prog X.w as0 s.heap d e.val p.2) →
        ReprEntriesK X.prog X.w as0 s.heap d l (qs.map fun p => p.1 ++ ": " ++ p.2) := by
      intro l
      induction l with
      | nil =>
        intro qs e _
        have e1 : qs = [] := List.length_eq_zero_iff.mp (by simpa using e)
        subst e1
        exact .nil
      | cons e l ihh =>
        intro qs n k
        cases qs with
        | nil => simp at n
        | cons q qs =>
          obtain ⟨k1, k2⟩ := k 0 e q rfl rfl
          exact .cons k1 k2 (ihh qs (by simpa using n) fun i e p h1 h2 => k (i + 1) e p (by simpa using h1) (by simpa using h2))
    refine all es.toList ps (by rw [nl, n1]) fun i e p h1 h2 => ?_
    obtain ⟨q, hq, hk, hv⟩ := n2 i e h1
    exact ⟨keyT_repr (ke i q p hq h2) hk, (it i q p hq h2).repr I.hok _ hv⟩
end Gd

set_option Elab.async false
set_option linter.all false
set_option maxRecDepth 100000
set_option maxHeartbeats 4000000
/-! Own exceptions made with keywords, over any of the built-in bases. -/
namespace Ge
open PySem
open PySem.Builtin PySem.Builtin.ObjectAttr PySem.HandSPX
section
variable {M : Model} {A : Around} {E : Value → Shared → Prop} {h : Heap} {g : Array GenState} {d : Drawn} {t : Nat} {os : OsState}
variable {nm q : Str} {C N : Addr} {bs bm bmB : List Value} {hdct : Bool} {sn : List Str} {sub : List Value} {ab : Bool} {col : Option Bool} {dd : Option Addr} {k0 k1 k2 k3 k5 : Option Value} {B newId initId : String}
theorem chk_new (F : ExcBaseFacts B newId initId bmB) (hT : ∀ X : String, bm.contains (.type X) = bmB.contains (.type X)) {rest : List Value} {kw : List (Str × Value)} {Q : Unit → Shared → Prop}
    (hC : h.get? C = some (excClassObj nm q C N bs bm hdct sn sub ab col dd k0 k1 k2 k3 k5 newId)) (hq : Q () ⟨h, g, d, t, os⟩) : wpAny M A (checkBuiltinCall newId ⟨.ref C :: rest, kw⟩) Q E ⟨h, g, d, t, os⟩ := by
  have has : (Value.ref C :: bm).contains (.type B) = true := by (rw [List.contains_cons, hT, F.hasB]; exact Bool.or_true _)
  have star := F.noStar
  simp only [checkBuiltinCall, F.newKind, F.newSplit, F.newRow, Bind.checkArgs, Bind.check]
  repeat (first | refine wpAny_loadPart_at hC ?_ | (refine wpAny_isSubtype_exc hC ?_; rw [has]) | refine wpAny_staticBase_exc hC ?_ | refine wpAny_madeBy_exc hC ?_ | simp only [bne_self_eq_false, Bool.false_eq_true, if_false] | wp_step)
  all_goals exact hq
end

section
variable {prog : Program} {w : World} {A : Around} {E : Value → Shared → Prop} {R : Result → Shared → Prop} {h : Heap} {g : Array GenState} {d : Drawn} {t : Nat} {os : OsState}
variable {nm q : Str} {C N : Addr} {bs bm bmB : List Value} {hdct : Bool} {sn : List Str} {sub : List Value} {ab : Bool} {col : Option Bool} {dd : Option Addr} {k0 k1 k2 k3 k5 : Option Value} {B newId initId : String}
/-- what lies behind a class's __new__ -/
abbrev newHeap (h : Heap) (C : Addr) (rest : List Value) : Heap := (h.push (W.kdv_tup rest)).push (excO C h.objs.size)
theorem new_any (F : ExcBaseFacts B newId initId bmB) (hT : ∀ X : String, bm.contains (.type X) = bmB.contains (.type X)) {rest : List Value} {kw : List (Str × Value)}
    (hC : h.get? C = some (excClassObj nm q C N bs bm hdct sn sub ab col dd k0 k1 k2 k3 k5 newId)) (hz : rest.length ≤ sizeLine) (hq : R (.ok (.ret (.ref (h.objs.size + 1)))) ⟨newHeap h C rest, g, d, t, os⟩) :
    codeAny (model prog w) A (.builtin newId ⟨.ref C :: rest, kw⟩) R ⟨h, g, d, t, os⟩ := by
  have ends := F.ends
  have isB : (Value.ref C :: bm).contains (.type B) = true := by (rw [List.contains_cons, hT, F.hasB]; exact Bool.or_true _)
  have noA : (Value.ref C :: bm).contains (.type "AttributeError") = false := by (rw [List.contains_cons, hT, F.noAttr]; exact rfl)
  have noN : (Value.ref C :: bm).contains (.type "NameError") = false := by (rw [List.contains_cons, hT, F.noName]; exact rfl)
  refine codeAny_builtinAt F.entry ?_
  (unfold Builtin.«BaseException.__new__»; refine wpAt_bind ?_)
  show wpAt _ _ _ (stack >>= _) _ _ _
  (refine wpAt_bind (wpAt_stack fun p below => wpAt_of_wpAny ?_); wp_walk; refine wpAt_of_wpAny ?_; rw [F.owner])
  repeat (first | with_reducible refine wpAny_madeHere_exc F.canon hC ?_ | with_reducible refine wpAny_loadPart_at hC ?_ | (with_reducible refine wpAny_isSubtype_exc hC ?_; first | rw [isB] | rw [noA] | rw [noN]) | wp_step)
  show R _ _
  rw [Heap.size_push]
  exact hq
theorem type_call_any (F : ExcBaseFacts B newId initId bmB) (hT : ∀ X : String, bm.contains (.type X) = bmB.contains (.type X)) {rest : List Value} {kw : List (Str × Value)} {fI : Addr} {Q : Fin → Shared → Prop}
    (hC : h.get? C = some (excClassObj nm q C N bs bm hdct sn sub ab col dd k0 k1 k2 k3 k5 newId)) (hi : W.Looks (model prog w) h (typeLookup (.ref C) "__init__") (some (.ref fI)))
    (hb : ∀ self, W.Looks (model prog w) h (bindSpecial (.ref fI) self) (.ref fI, [self])) (hz : rest.length ≤ sizeLine)
    (hq : codeAny (model prog w) A (.call (.ref fI) ⟨.ref (h.objs.size + 1) :: rest, kw⟩)
      (fun r s' => match r with | .ok (.ret v) => v = .none ∧ Q (.done (.ret (.ref (h.objs.size + 1)))) s' | .ok _ => False | .error e => E e s') ⟨newHeap h C rest, g, d, t, os⟩) :
    wpAny (model prog w) A (Builtin.«type.__call__» ⟨.ref C :: rest, kw⟩) Q E ⟨h, g, d, t, os⟩ := by
  repeat (first | with_reducible refine wpAny_loadPart_at hC ?_ | with_reducible refine wpAny_madeBy_exc hC ?_ | wp_step)
  refine codeAny_call_builtin_code (Code.quiet_builtin _ F.quiet) (chk_new F hT hC (new_any F hT hC hz ?_))
  show wpAny _ _ _ _ _ _
  have k : ∀ b o, h.get? b = some o → (newHeap h C rest).get? b = some o := fun b o z => Heap.get?_push_of_some _ (Heap.get?_push_of_some _ z)
  have c1 := k _ _ hC
  have x1 : (newHeap h C rest).get? (h.objs.size + 1) = some (excO C h.objs.size) := by (show ((h.push (W.kdv_tup rest)).push (excO C h.objs.size)).get? (h.objs.size + 1) = _; heap_get)
  have self : (Value.ref C :: bm).contains (.ref C) = true := by simp only [List.contains_cons, beq_self_eq_true, Bool.true_or]
  have i1 := hi.keeps k
  have b1 := (hb (.ref (h.objs.size + 1))).keeps k
  unfold isInstance
  repeat (first | with_reducible refine wpAny_loadPart_at x1 ?_ | (with_reducible refine wpAny_isSubtype_exc c1 ?_; rw [self]) | wp_step)
  show wpAny _ _ (typeLookup (.ref C) _) _ _ _
  refine i1.at (wpAny_holding (wpAny_bind (b1.at ?_)))
  refine wpAny_bind (wpAny_call (codeAny_mono hq fun r s' z => ?_))
  cases r with
  | error e => exact z
  | ok fl =>
    cases fl with
    | ret v =>
      obtain ⟨rfl, z⟩ := z
      first
        | exact wpAny_pure (wpAny_pure z)
        | (wp_walk; exact z)
    | next => exact z.elim
    | brk => exact z.elim
    | cont => exact z.elim
theorem call_any (F : ExcBaseFacts B newId initId bmB) (hT : ∀ X : String, bm.contains (.type X) = bmB.contains (.type X)) {rest : List Value} {kw : List (Str × Value)} {fI : Addr}
    (hC : h.get? C = some (excClassObj nm q C N bs bm hdct sn sub ab col dd k0 k1 k2 k3 k5 newId)) (hi : W.Looks (model prog w) h (typeLookup (.ref C) "__init__") (some (.ref fI)))
    (hb : ∀ self, W.Looks (model prog w) h (bindSpecial (.ref fI) self) (.ref fI, [self])) (hz : rest.length ≤ sizeLine)
    (hq : codeAny (model prog w) (A.under (.builtin "type.__call__" ⟨.ref C :: rest, kw⟩)) (.call (.ref fI) ⟨.ref (h.objs.size + 1) :: rest, kw⟩) (W.InitBack (h.objs.size + 1) R) ⟨newHeap h C rest, g, d, t, os⟩) :
    codeAny (model prog w) A (.call (.ref C) ⟨rest, kw⟩) R ⟨h, g, d, t, os⟩ := by
  have f1 := tc_lookup
  have f2 := tc_bind (.ref C)
  have isT : (⟨h, g, d, t, os⟩ : Shared).TypeIs (.ref C) "type" := ⟨_, hC, rfl⟩
  refine codeAny_of_tree ?_
  show wpAny _ _ (callAny (.ref C) _) _ _ _
  repeat (any_goals (first | assumption | with_reducible refine wpAny_loadPart_at hC ?_ | wp_step))
  refine ⟨rfl, codeAny_call_builtin_at (Code.quiet_builtin _ (by decide +kernel)) entry_typeCall (wpAny_check_type_call_sub hC (type_call_any F hT hC hi hb hz ?_))⟩
  refine codeAny_mono hq fun r s' z => ?_
  cases r with
  | error e => exact z
  | ok fl => cases fl <;> exact z
end
end Ge

set_option Elab.async false
set_option linter.all false
set_option maxRecDepth 100000
set_option maxHeartbeats 4000000
/-! An own error class whose __init__ stores its parameters: made, held, read. -/
namespace Ge
open PySem PySem.Spec L2
open PySem.Builtin PySem.Builtin.ObjectAttr PySem.HandSPX

/-- what the written part says of such a class at C, its __init__ at fI, its fields fs -/
structure EC (K : W.Frag) (C fI : Addr) (B newId initId : String) (bmB : List Value) (fs : List Str) : Prop where
  base : ExcBaseFacts B newId initId bmB
  sto : StoreFacts B bmB "object.__setattr__" "object"
  init : W.excInitIn K C bmB newId = true
  over : W.excOver K C bmB = true
  keep : W.keepIn K (.ref C) = true
  iC : W.findIn K (.ref C) "__init__" = some (some (.ref fI))
  tI : W.typeIn K (.ref fI) = some (.type "function")
  sa : W.findIn K (.ref C) "__setattr__" = some (some (.builtin "object.__setattr__"))
  hd : W.hasDictIn K C = true
  tak : ∀ f ∈ fs, W.takerIn K C f = some none

section
variable {prog : Program} {w : World} {A : Around} {E : Value → Shared → Prop} {R : Result → Shared → Prop} {hp : Heap} {g : Array GenState} {d : Drawn} {t : Nat} {os : OsState}
variable {K : W.Frag} {C fI : Addr} {B newId initId : String} {bmB : List Value} {fs : List Str} {name : Str} {v : Value}
/-- x.name = v, the first one -/
theorem put_new (T : EC K C fI B newId initId bmB fs) {tk : Tok} {x : Addr} {fv : Array Value} (X : K.In hp) (hx : hp.get? x = some { cls := .ref C, data := .fields fv }) (ht : name ∈ fs)
    (hq : ∀ h' tk' dx, (∀ b o, b ≠ x → hp.get? b = some o → h'.get? b = some o) → hp.objs.size ≤ dx → dx ≠ x → h'.get? x = some { cls := .ref C, dict := some dx, data := .fields fv } →
      h'.Ns1 dx (fun y => if y = name then some v else none) → R (.ok (.ret .none)) ⟨h', g, d, tk', os⟩) :
    codeAny (model prog w) A (.call (.builtin "object.__setattr__") ⟨[.ref x, .str name tk, v], []⟩) R ⟨hp, g, d, t, os⟩ := by
  obtain ⟨cd, hc, hdct⟩ := W.any_some T.hd
  have xs : x ≠ hp.objs.size := Nat.ne_of_lt (Heap.lt_size hx)
  have cls : W.Looks (model prog w) hp (classData C) cd := W.looks_clsIn X hc
  refine W.osa_openX (od := none) T.sto X ⟨hx, rfl, rfl, trivial⟩ T.over (T.tak _ ht) (fun b => ?_)
  show wpAny _ _ (storeInOwnDict (.ref x) (.ref C) (.str name tk) name v b) _ _ _
  obtain ⟨nm, bs, mro, ns, qn, has, sn, sb, ab, col, del⟩ := cd
  (dsimp only at hdct; subst hdct)
  (unfold storeInOwnDict ownDictForStores)
  repeat (first | with_reducible refine store_in_new ?_ ?_ | with_reducible refine wpAny_loadPart_at hx ?_ | with_reducible refine cls.at ?_ | wp_step)
  · exact ⟨_, #[], _, (Heap.get?_update_ne _ _ _ _ xs.symm).trans (Heap.get?_push_at rfl rfl), rfl, fun e he => absurd he (by simp), fun _ => rfl⟩
  · intro h' tk' hn' hs
    have hx1 : (hp.push { cls := .type "dict", data := .dict #[] }).get? x = some { cls := .ref C, data := .fields fv } := Heap.get?_push_of_some _ hx
    refine hq h' tk' hp.objs.size (fun b o hb ho => ?_) (Nat.le_refl _) xs.symm ((hs.2 x xs).trans (Heap.get?_update_self _ hx1 rfl)) hn'
    exact (hs.2 b (Nat.ne_of_lt (Heap.lt_size ho))).trans ((Heap.get?_update_ne _ _ _ _ hb).trans (Heap.get?_push_of_some _ ho))
/-- .. a further one -/
theorem put_old (T : EC K C fI B newId initId bmB fs) {tk : Tok} {x dx : Addr} {fv : Array Value} {m0 : Str → Option Value} {nl : List Str} (X : K.In hp) (hx : hp.get? x = some { cls := .ref C, dict := some dx, data := .fields fv }) (hn : hp.Ns1 dx m0)
    (hw : Within m0 nl) (hz : nl.length ≤ 1000) (ht : name ∈ fs)
    (hq : ∀ h' tk', (∀ b o, b ≠ dx → hp.get? b = some o → h'.get? b = some o) → h'.Ns1 dx (fun y => if y = name then some v else m0 y) → R (.ok (.ret .none)) ⟨h', g, d, tk', os⟩) :
    codeAny (model prog w) A (.call (.builtin "object.__setattr__") ⟨[.ref x, .str name tk, v], []⟩) R ⟨hp, g, d, t, os⟩ := by
  obtain ⟨cd, hc, hdct⟩ := W.any_some T.hd
  obtain ⟨oD, esD, epD, hoD, hdD, _⟩ := hn.count hw
  have cls : W.Looks (model prog w) hp (classData C) cd := W.looks_clsIn X hc
  refine W.osa_openX (od := some oD) T.sto X ⟨hx, rfl, rfl, hoD⟩ T.over (T.tak _ ht) (fun b => ?_)
  show wpAny _ _ (storeInOwnDict (.ref x) (.ref C) (.str name tk) name v b) _ _ _
  obtain ⟨nm, bs, mro, ns, qn, has, sn, sb, ab, col, del⟩ := cd
  (dsimp only at hdct; subst hdct)
  (unfold storeInOwnDict ownDictForStores)
  repeat (first | with_reducible refine OEX.store_in_old hn hw hz ?_ | with_reducible refine wpAny_loadPart_at hx ?_ | with_reducible refine cls.at ?_ | wp_step)
  intro h' tk' hn' hs
  exact hq h' tk' (fun b o hb ho => (hs.2 b hb).trans ho) hn'
end

/-- a made error: e, its dict d with the fields m -/
structure Made (h h' : Heap) (e C d : Addr) (m : Str → Option Value) : Prop where
  keep : ∀ b o, h.get? b = some o → h'.get? b = some o
  new : h.objs.size ≤ e
  obj : ∃ t1 : Addr, h'.get? e = some { cls := .ref C, dict := some d, data := .fields #[.ref t1, .none, .none, .none, .bool false, .none] }
  dbig : h.objs.size ≤ d
  dne : d ≠ e
  ns : h'.Ns1 d m
def iBody1 (f : Str) (q1 q2 q3 q4 : Pos) : List Stmt := [.Assign [.Attribute (.Name "self" q1) f q2] (.Name f q3) q4]
def iBody2 (f f2 : Str) (q1 q2 q3 q4 r1 r2 r3 r4 : Pos) : List Stmt := [.Assign [.Attribute (.Name "self" q1) f q2] (.Name f q3) q4, .Assign [.Attribute (.Name "self" r1) f2 r2] (.Name f2 r3) r4]
def iScope (names : List Str) : Scope := { kind := .function, names := names.map fun n => (n, .local), isGenerator := false, isCoroutine := false, more := [] }
section
variable {prog : Program} {w : World} {A : Around} {E : Value → Shared → Prop} {R : Result → Shared → Prop} {s : Shared}
variable {K : W.Frag} {C fI : Addr} {B newId initId : String} {bmB : List Value} {fs : List Str}
variable {qual : Str} {params : Arguments} {oc dV kV doc pm cdv ct : Value} {an od : Option Addr} {osl : Array (Option Value)}
/-- a local read -/
theorem ld {M : Model} {s : Shared} {nm : Str} {sc : Scope} {L a : Addr} {cd : Value} {m : Str → Option Value} {x : Str} {pos : Pos} {v : Value} {Q : Value → Shared → Prop} {A : Around} {E : Value → Shared → Prop} (hn : s.heap.Ns L m) (hv : m x = some v) (h : Q v s)
    (hk : sc.kind = .function) (hl : (PyProof.Rows.envOfC nm sc L a cd).kindOf x = some .local) (hd : (x == ("__debug__" : Str)) = false) : wpAny M A (eval (.Name x pos) (PyProof.Rows.envOfC nm sc L a cd)) Q E s :=
  wpAny_Name (wpAny_loadName_local hk hl hn hv h) hd
theorem init1 (T : EC K C fI B newId initId bmB fs) {f : Str} {q1 q2 q3 q4 : Pos} {x t0 : Addr} {v : Value} {args : Args} (X : K.In s.heap) (lim : s.heap.NoLimit) (hx : s.heap.get? x = some (excO C t0)) (room : A.depth < recursionLimit)
    (at_ : K.lookup fI = some ⟨oc, od, .func (W.fnOf "__init__" qual params (iBody1 f q1 q2 q3 q4) (iScope ["self", f]) dV kV doc pm an cdv ct), osl⟩) (code : W.codeIn K cdv qual = true)
    (bd : BindsTo s (W.fnOf "__init__" qual params (iBody1 f q1 q2 q3 q4) (iScope ["self", f]) dV kV doc pm an cdv ct) args [("self", .ref x), (f, v)])
    (ht : f ∈ fs) (h1 : ("self" == f) = false) (h2 : (f == ("__debug__" : Str)) = false) (h3 : (f == ("self" : Str)) = false)
    (hq : ∀ h' tk dx, (∀ b o, b ≠ x → s.heap.get? b = some o → h'.get? b = some o) → h'.get? x = some { cls := .ref C, dict := some dx, data := .fields #[.ref t0, .none, .none, .none, .bool false, .none] } → s.heap.objs.size ≤ dx → dx ≠ x →
      h'.Ns1 dx (fun y => if y = f then some v else none) → R (.ok (.ret .none)) { s with heap := h', toks := tk }) :
    codeAny (model prog w) A (.call (.ref fI) args) R s := by
  have e1 : ("self" : Str) ≠ f := by simpa using h1
  have look : ∀ y : Str, (y = "self" ∨ y = f) → (iScope ["self", f]).names.lookup y = some .local := by
    intro y hy
    rcases hy with rfl | rfl
    · simp [iScope, List.lookup]
    · simp [iScope, List.lookup, h3]
  refine Att.call_fn (binds := [("self", .ref x), (f, v)]) X lim at_ code room bd (by simp [look]) (fun s₁ IC => ?_) rfl rfl rfl
  obtain ⟨hh, tk1, rfl⟩ := IC.toInCall.same
  have k : ∀ b o, s.heap.get? b = some o → hh.get? b = some o := IC.toInCall.keep
  have hn := IC.toInCall.ns
  have X1 : K.In hh := X.keeps k
  have x1 := k _ _ hx
  have k1 : (PyProof.Rows.envOfC qual (iScope ["self", f]) s.heap.objs.size fI cdv).kindOf "self" = some .local := look _ (.inl rfl)
  have k2 : (PyProof.Rows.envOfC qual (iScope ["self", f]) s.heap.objs.size fI cdv).kindOf f = some .local := look _ (.inr rfl)
  have m1 : bindL (PyProof.Rows.envOfC qual (iScope ["self", f]) s.heap.objs.size fI cdv).kindOf [("self", .ref x), (f, v)] (fun _ => none) "self" = some (.ref x) := by
    simp [bindL, k1, k2, e1]
  have m2 : bindL (PyProof.Rows.envOfC qual (iScope ["self", f]) s.heap.objs.size fI cdv).kindOf [("self", .ref x), (f, v)] (fun _ => none) f = some v := by
    simp [bindL, k1, k2]
  have z : s.heap.objs.size < hh.objs.size := hn.lt
  show wpAny _ _ (execs [.Assign [.Attribute (.Name "self" q1) f q2] (.Name f q3) q4] _) _ _ _
  refine wpAny_execs_cons (plainObj_wpAny_Assign_Attribute ?_)
  refine ld (v := v) hn m2 (ld (v := .ref x) hn m1 ?_ rfl k1 (by decide)) rfl k2 h2
  refine W.set_plain X1 (ox := excO C t0) (od := none) ⟨x1, rfl, rfl, trivial⟩ T.sa (put_new T X1 x1 ht (fun h3 tk3 dx k3 dn dne hx3 hn3 => ?_))
  show wpAny _ _ (execs [] _) _ _ _
  exact wpAny_execs_nil (hq h3 tk3 dx (fun b o hb e => k3 b o hb (k b o e)) hx3 (Nat.le_of_lt (Nat.lt_of_lt_of_le z dn)) dne hn3)
theorem init2 (T : EC K C fI B newId initId bmB fs) {f f2 : Str} {q1 q2 q3 q4 r1 r2 r3 r4 : Pos} {x t0 : Addr} {v v2 : Value} {args : Args} (X : K.In s.heap) (lim : s.heap.NoLimit) (hx : s.heap.get? x = some (excO C t0)) (room : A.depth < recursionLimit)
    (hnx : K.lookup x = none) (at_ : K.lookup fI = some ⟨oc, od, .func (W.fnOf "__init__" qual params (iBody2 f f2 q1 q2 q3 q4 r1 r2 r3 r4) (iScope ["self", f, f2]) dV kV doc pm an cdv ct), osl⟩) (code : W.codeIn K cdv qual = true)
    (bd : BindsTo s (W.fnOf "__init__" qual params (iBody2 f f2 q1 q2 q3 q4 r1 r2 r3 r4) (iScope ["self", f, f2]) dV kV doc pm an cdv ct) args [("self", .ref x), (f, v), (f2, v2)])
    (ht : f ∈ fs) (ht2 : f2 ∈ fs) (h1 : ("self" == f) = false) (h2 : (f == ("__debug__" : Str)) = false) (h3 : (f == ("self" : Str)) = false) (h4 : ("self" == f2) = false) (h5 : (f2 == ("__debug__" : Str)) = false) (h6 : (f2 == ("self" : Str)) = false) (h7 : (f2 == f) = false)
    (hq : ∀ h' tk dx, (∀ b o, b ≠ x → s.heap.get? b = some o → h'.get? b = some o) → h'.get? x = some { cls := .ref C, dict := some dx, data := .fields #[.ref t0, .none, .none, .none, .bool false, .none] } → s.heap.objs.size ≤ dx → dx ≠ x →
      h'.Ns1 dx (fun y => if y = f2 then some v2 else if y = f then some v else none) → R (.ok (.ret .none)) { s with heap := h', toks := tk }) :
    codeAny (model prog w) A (.call (.ref fI) args) R s := by
  have e1 : ("self" : Str) ≠ f := by simpa using h1
  have e4 : ("self" : Str) ≠ f2 := by simpa using h4
  have e7 : f2 ≠ f := by simpa using h7
  have look : ∀ y : Str, (y = "self" ∨ y = f ∨ y = f2) → (iScope ["self", f, f2]).names.lookup y = some .local := by
    intro y hy
    rcases hy with rfl | rfl | rfl
    · simp [iScope, List.lookup]
    · simp [iScope, List.lookup, h3]
    · simp [iScope, List.lookup, h6, h7]
  refine Att.call_fn (binds := [("self", .ref x), (f, v), (f2, v2)]) X lim at_ code room bd (by simp [look]) (fun s₁ IC => ?_) rfl rfl rfl
  obtain ⟨hh, tk1, rfl⟩ := IC.toInCall.same
  have k : ∀ b o, s.heap.get? b = some o → hh.get? b = some o := IC.toInCall.keep
  have hn := IC.toInCall.ns
  have X1 : K.In hh := X.keeps k
  have x1 := k _ _ hx
  have k1 : (PyProof.Rows.envOfC qual (iScope ["self", f, f2]) s.heap.objs.size fI cdv).kindOf "self" = some .local := look _ (.inl rfl)
  have k2 : (PyProof.Rows.envOfC qual (iScope ["self", f, f2]) s.heap.objs.size fI cdv).kindOf f = some .local := look _ (.inr (.inl rfl))
  have k3 : (PyProof.Rows.envOfC qual (iScope ["self", f, f2]) s.heap.objs.size fI cdv).kindOf f2 = some .local := look _ (.inr (.inr rfl))
  have m1 : bindL (PyProof.Rows.envOfC qual (iScope ["self", f, f2]) s.heap.objs.size fI cdv).kindOf [("self", .ref x), (f, v), (f2, v2)] (fun _ => none) "self" = some (.ref x) := by
    simp [bindL, k1, k2, k3, e1, e4]
  have m2 : bindL (PyProof.Rows.envOfC qual (iScope ["self", f, f2]) s.heap.objs.size fI cdv).kindOf [("self", .ref x), (f, v), (f2, v2)] (fun _ => none) f = some v := by
    simp [bindL, k1, k2, k3, Ne.symm e7]
  have m3 : bindL (PyProof.Rows.envOfC qual (iScope ["self", f, f2]) s.heap.objs.size fI cdv).kindOf [("self", .ref x), (f, v), (f2, v2)] (fun _ => none) f2 = some v2 := by
    simp [bindL, k1, k2, k3]
  have z : s.heap.objs.size < hh.objs.size := hn.lt
  have xL : x ≠ s.heap.objs.size := Nat.ne_of_lt (Heap.lt_size hx)
  show wpAny _ _ (execs [.Assign [.Attribute (.Name "self" q1) f q2] (.Name f q3) q4, .Assign [.Attribute (.Name "self" r1) f2 r2] (.Name f2 r3) r4] _) _ _ _
  refine wpAny_execs_cons (plainObj_wpAny_Assign_Attribute ?_)
  refine ld (v := v) hn m2 (ld (v := .ref x) hn m1 ?_ rfl k1 (by decide)) rfl k2 h2
  refine W.set_plain X1 (ox := excO C t0) (od := none) ⟨x1, rfl, rfl, trivial⟩ T.sa (put_new T X1 x1 ht (fun hA tkA dx kA dn dne hxA hnA => ?_))
  obtain ⟨oD, esD, epD, hoD, hdD, _⟩ := hnA.count (Within.cons f v Within.nil)
  have hnL : hA.Ns s.heap.objs.size _ := hn.at fun o q => kA _ o xL.symm q
  have XA : K.In hA := fun b o q => kA b o (fun e => by rw [e, hnx] at q; cases q) (X1 b o q)
  refine wpAny_execs_cons (plainObj_wpAny_Assign_Attribute ?_)
  refine ld (v := v2) hnL m3 (ld (v := .ref x) hnL m1 ?_ rfl k1 (by decide)) rfl k3 h5
  refine W.set_plain XA (ox := { cls := .ref C, dict := some dx, data := .fields #[.ref t0, .none, .none, .none, .bool false, .none] }) (od := some oD) ⟨hxA, rfl, rfl, hoD⟩ T.sa
    (put_old T XA hxA hnA (Within.cons f v Within.nil) (by simp) ht2 (fun hB tkB kB hnB => ?_))
  show wpAny _ _ (execs [] _) _ _ _
  refine wpAny_execs_nil (hq hB tkB dx (fun b o hb e => kB b o ?_ (kA b o hb (k b o e))) (kB x _ (Ne.symm dne) hxA) (Nat.le_of_lt (Nat.lt_of_lt_of_le z dn)) dne hnB)
  exact Nat.ne_of_lt (Nat.lt_of_lt_of_le (Heap.lt_size (k b o e)) dn)
/-- C(..), from what its __init__ does -/
theorem made_by (T : EC K C fI B newId initId bmB fs) {us : List Value} {kw : List (Str × Value)} {m : Str → Option Value} (X : K.In s.heap) (hz : us.length ≤ sizeLine) (room : A.depth + 1 < recursionLimit)
    (hi : ∀ (A' : Around) (s' : Shared) (x t0 : Addr) (R' : Result → Shared → Prop), (∀ b o, s.heap.get? b = some o → s'.heap.get? b = some o) → s'.heap.get? x = some (excO C t0) → K.lookup x = none → A'.depth < recursionLimit →
      (∀ h' tk dx, (∀ b o, b ≠ x → s'.heap.get? b = some o → h'.get? b = some o) → h'.get? x = some { cls := .ref C, dict := some dx, data := .fields #[.ref t0, .none, .none, .none, .bool false, .none] } → s'.heap.objs.size ≤ dx → dx ≠ x →
        h'.Ns1 dx m → R' (.ok (.ret .none)) { s' with heap := h', toks := tk }) → codeAny (model prog w) A' (.call (.ref fI) ⟨.ref x :: us, kw⟩) R' s')
    (hq : ∀ h' tk e d, Made s.heap h' e C d m → R (.ok (.ret (.ref e))) { s with heap := h', toks := tk }) :
    codeAny (model prog w) A (.call (.ref C) ⟨us, kw⟩) R s := by
  obtain ⟨nm, N, qn, bs, bm, hdct, sn, sub, ab, col, dd, k0, k1, k2, k3, k5, hC, hT⟩ := W.excInit_of X T.init
  obtain ⟨hp, g, dr, tk, os⟩ := s
  have k : ∀ b o, hp.get? b = some o → (newHeap hp C us).get? b = some o := fun b o e => Heap.get?_push_of_some _ (Heap.get?_push_of_some _ e)
  have x1 : (newHeap hp C us).get? (hp.objs.size + 1) = some (excO C hp.objs.size) := by (show ((hp.push (W.kdv_tup us)).push (excO C hp.objs.size)).get? (hp.objs.size + 1) = _; heap_get)
  have nx : K.lookup (hp.objs.size + 1) = none := by
    cases e : K.lookup (hp.objs.size + 1) with
    | none => rfl
    | some o => exact absurd (Nat.lt_of_succ_lt (Heap.lt_size (X _ _ e))) (Nat.lt_irrefl _)
  refine call_any T.base hT hC (W.looks_findIn X T.iC) (fun self => W.bind_fn X self T.tI) hz ?_
  refine hi _ ⟨newHeap hp C us, g, dr, tk, os⟩ (hp.objs.size + 1) hp.objs.size _ k x1 nx (by rw [make_depth]; exact room) (fun h' tk' dx k' hx dn dne hns => ?_)
  have z : hp.objs.size + 1 + 1 ≤ dx := by
    have q : (newHeap hp C us).objs.size ≤ dx := dn
    rw [Heap.size_push, Heap.size_push] at q
    exact q
  exact ⟨rfl, hq h' tk' (hp.objs.size + 1) dx ⟨fun b o e => k' b o (Nat.ne_of_lt (Nat.lt_succ_of_lt (Heap.lt_size e))) (k b o e), Nat.le_succ _, ⟨_, hx⟩, (by show hp.objs.size ≤ dx; omega), dne, hns⟩⟩
end

section
variable {X : Cx} {pins : List (Addr × Obj)} {σ : L2.St} {H : Hp} {s : Shared} {C : Addr}
theorem relO_one {v : V} {u : Value} (r : RelV v u) (f y : Str) : RelO (List.lookup y [(f, v)]) (if y = f then some u else none) := relO_put (fs := []) (mA := fun _ => none) r (fun _ => trivial) y
theorem relO_two {v v2 : V} {u u2 : Value} (r : RelV v u) (r2 : RelV v2 u2) (f f2 y : Str) : RelO (List.lookup y [(f2, v2), (f, v)]) (if y = f2 then some u2 else if y = f then some u else none) :=
  relO_put (fs := [(f, v)]) (mA := fun y => if y = f then some u else none) r2 (fun g => relO_one r f g) y
/-- a made error, tracked -/
theorem Inv.err (I : Inv X pins σ H s) {h' : Heap} {tk : Nat} {e d : Addr} {m : Str → Option Value} {fs : List (Str × V)} (M : Made s.heap h' e C d m) (r : ∀ y, RelO (fs.lookup y) (m y)) :
    H e = none ∧ H d = none ∧ Inv X pins σ (upd (upd H d (exd d fs)) e (exo e C (some d))) { s with heap := h', toks := tk } := by
  have ne := I.hok.fresh M.new
  have nd := I.hok.fresh M.dbig
  have be : ∀ {b : Addr} {o : Obj}, s.heap.get? b = some o → b ≠ e := fun q => Nat.ne_of_lt (Nat.lt_of_lt_of_le (Heap.lt_size q) M.new)
  have bd : ∀ {b : Addr} {o : Obj}, s.heap.get? b = some o → b ≠ d := fun q => Nat.ne_of_lt (Nat.lt_of_lt_of_le (Heap.lt_size q) M.dbig)
  have keepH : ∀ {b : Addr} {o : HO}, H b = some o → upd (upd H d (exd d fs)) e (exo e C (some d)) b = some o := fun q => by
    rw [upd_ne (ne_of_none q ne), upd_ne (ne_of_none q nd)]
    exact q
  refine ⟨ne, nd, I.un (t' := tk) { keep := fun b o q _ _ _ => M.keep b o q, slot := fun b o q _ _ _ => ⟨o.slots, M.keep b o q⟩, free := fun b o q n _ => ?_, there := fun b o q _ => ⟨o, M.keep b o q⟩, tups := fun b xs q => keepH q, frzs := fun b o u q => keepH q, tbls := fun b ps q => ⟨#[], by rw [keepH q]; simp⟩ } (fun b o q => ?_)⟩
  · rw [upd_ne (be q), upd_ne (bd q)]
    exact n
  · by_cases hb : b = e
    · subst hb
      rw [upd_same] at q
      cases q
      obtain ⟨t1, ht⟩ := M.obj
      exact exo_ok ht
    · rw [upd_ne hb] at q
      by_cases hd : b = d
      · subst hd
        rw [upd_same] at q
        cases q
        exact exd_ok M.ns r
      · rw [upd_ne hd] at q
        exact (I.hok b o q).stay (fun c v _ z => M.keep c v z) (fun c z => keepH z) fun c xs z => keepH z
end
end Ge

set_option Elab.async false
set_option linter.all false
set_option maxRecDepth 100000
set_option maxHeartbeats 4000000
/-! Rules: an own error made, its field read, isinstance of it. -/
namespace Ge
open PySem PySem.Spec L2 PySem.HandSPX

/-- an error class of one parameter | of two | without an own __init__: what its call makes -/
structure E1 (K : W.Frag) (C : Addr) (f : Str) : Prop where
  keep : W.keepIn K (.ref C) = true
  does : ∀ {prog : Program} {w : World} {A : Around} {R : Result → Shared → Prop} {s : Shared} {us : List Value} {kw : List (Str × Value)} {v : Value}, (us = [v] ∧ kw = []) ∨ (us = [] ∧ kw = [(f, v)]) → K.In s.heap → s.heap.NoLimit → A.depth + 1 < recursionLimit →
    (∀ h' tk e d, Made s.heap h' e C d (fun y => if y = f then some v else none) → R (.ok (.ret (.ref e))) { s with heap := h', toks := tk }) → codeAny (model prog w) A (.call (.ref C) ⟨us, kw⟩) R s
structure E2 (K : W.Frag) (C : Addr) (f f2 : Str) : Prop where
  keep : W.keepIn K (.ref C) = true
  does : ∀ {prog : Program} {w : World} {A : Around} {R : Result → Shared → Prop} {s : Shared} {us : List Value} {kw : List (Str × Value)} {v v2 : Value}, (us = [v, v2] ∧ kw = []) ∨ (us = [] ∧ kw = [(f2, v2), (f, v)]) → K.In s.heap → s.heap.NoLimit → A.depth + 1 < recursionLimit →
    (∀ h' tk e d, Made s.heap h' e C d (fun y => if y = f2 then some v2 else if y = f then some v else none) → R (.ok (.ret (.ref e))) { s with heap := h', toks := tk }) → codeAny (model prog w) A (.call (.ref C) ⟨us, kw⟩) R s
structure E0c (K : W.Frag) (C : Addr) : Prop where
  keep : W.keepIn K (.ref C) = true
  does : ∀ {prog : Program} {w : World} {A : Around} {E : Value → Shared → Prop} {Q : Value → Shared → Prop} {s : Shared}, K.In s.heap →
    (∀ h' e t, (∀ b o, s.heap.get? b = some o → h'.get? b = some o) → s.heap.objs.size ≤ e → h'.get? e = some (W.excObj C t none .none) → Q (.ref e) { s with heap := h' }) → wpAny (model prog w) A (call (.ref C) []) Q E s

section
variable {X : Cx} {C : Addr} {x f f2 : Str} {e e2 : Expr} {es : List Expr} {kws : List Keyword} {te te2 : TE} {ta tk : TA} {p pos kp kp2 : Pos} {k : Nat} {pins : List (Addr × Obj)} {σ : L2.St} {H : Hp} {s : Shared} {Q : VK}
/-- the heap with a new error at e, its dict at d -/
abbrev withErr (H : Hp) (C e d : Addr) (fs : List (Str × V)) : Hp := upd (upd H d (exd d fs)) e (exo e C (some d))
def tMk1 (C : Addr) (f : Str) (ta : TA) : TE := fun σ H Q => ta σ H fun vs H1 => ∃ v, vs = [v] ∧ ∀ e d, H1 e = none → H1 d = none → d ≠ e → Q (.ref e) (withErr H1 C e d [(f, v)])
def tMk2 (C : Addr) (f f2 : Str) (ta : TA) : TE := fun σ H Q => ta σ H fun vs H1 => ∃ v v2, vs = [v, v2] ∧ ∀ e d, H1 e = none → H1 d = none → d ≠ e → Q (.ref e) (withErr H1 C e d [(f2, v2), (f, v)])
def tMk2k (C : Addr) (f f2 : Str) (ta : TA) : TE := fun σ H Q => ta σ H fun vs H1 => ∃ v v2, vs = [v2, v] ∧ ∀ e d, H1 e = none → H1 d = none → d ≠ e → Q (.ref e) (withErr H1 C e d [(f2, v2), (f, v)])
def tMk0 (C : Addr) : TE := fun _ H Q => ∀ e, H e = none → Q (.ref e) (upd H e (exo e C none))
theorem run1 (T : E1 X.K C f) (hr : Room k X.A) (I : Inv X pins σ H s) {us : List Value} {kw : List (Str × Value)} {v : V} {u : Value} (ru : RelV v u) (h : (us = [u] ∧ kw = []) ∨ (us = [] ∧ kw = [(f, u)]))
    (q : ∀ e d, H e = none → H d = none → d ≠ e → Q (.ref e) (withErr H C e d [(f, v)])) : wpAny (model X.prog X.w) X.A (call (.ref C) us kw) (EP X pins σ Q) X.xe s := by
  refine wpAny_call (T.does h I.kIn I.nolimit (by have := hr.dp; omega) (fun h' tk e d M => ?_))
  obtain ⟨ne, nd, J⟩ := Inv.err (tk := tk) I M (relO_one ru f)
  exact ⟨.ref e, _, J, rfl, q e d ne nd M.dne⟩
theorem run2 (T : E2 X.K C f f2) (hr : Room k X.A) (I : Inv X pins σ H s) {us : List Value} {kw : List (Str × Value)} {v v2 : V} {u u2 : Value} (ru : RelV v u) (ru2 : RelV v2 u2) (h : (us = [u, u2] ∧ kw = []) ∨ (us = [] ∧ kw = [(f2, u2), (f, u)]))
    (q : ∀ e d, H e = none → H d = none → d ≠ e → Q (.ref e) (withErr H C e d [(f2, v2), (f, v)])) : wpAny (model X.prog X.w) X.A (call (.ref C) us kw) (EP X pins σ Q) X.xe s := by
  refine wpAny_call (T.does h I.kIn I.nolimit (by have := hr.dp; omega) (fun h' tk e d M => ?_))
  obtain ⟨ne, nd, J⟩ := Inv.err (tk := tk) I M (relO_two ru ru2 f f2)
  exact ⟨.ref e, _, J, rfl, q e d ne nd M.dne⟩
/-- X(e) | X(e, e2) | X() -/
theorem pe_mk1 (T : E1 X.K C f) (hr : Room k X.A) (hg : Gl X x) (hm : X.mg x = some (.ref C)) (ha : PA X (e :: es) ta) (hdb : (x == ("__debug__" : Str)) = false := by decide)
    (hs : starEach (e :: es) X.env = (false, eval e X.env) :: starEach es X.env := by rfl) (hpl : (backTo pos (starEach es X.env)).any (·.1) = false := by rfl) : PE X (.Call (.Name x p) (e :: es) [] pos) (tMk1 C f ta) := by
  refine ⟨fun pins s σ H Q I h => wpAny_Call_Name_kw (ld_glob I hg hm ?_ hdb)⟩
  refine PySem.W.callWith_K (h₀ := X.base) I.ok.mod.kin T.keep (thn (ha.run pos pins s σ H _ I h) fun us s1 ⟨vs, H1, I1, r, v, ev, q⟩ => ⟨I1.kIn, ?_⟩) hs hpl
  subst ev
  obtain ⟨u, rfl, ru⟩ := vals1 r
  exact run1 T hr I1 ru (.inl ⟨rfl, rfl⟩) q
theorem pe_mk2 (T : E2 X.K C f f2) (hr : Room k X.A) (hg : Gl X x) (hm : X.mg x = some (.ref C)) (ha : PA X (e :: es) ta) (hdb : (x == ("__debug__" : Str)) = false := by decide)
    (hs : starEach (e :: es) X.env = (false, eval e X.env) :: starEach es X.env := by rfl) (hpl : (backTo pos (starEach es X.env)).any (·.1) = false := by rfl) : PE X (.Call (.Name x p) (e :: es) [] pos) (tMk2 C f f2 ta) := by
  refine ⟨fun pins s σ H Q I h => wpAny_Call_Name_kw (ld_glob I hg hm ?_ hdb)⟩
  refine PySem.W.callWith_K (h₀ := X.base) I.ok.mod.kin T.keep (thn (ha.run pos pins s σ H _ I h) fun us s1 ⟨vs, H1, I1, r, v, v2, ev, q⟩ => ⟨I1.kIn, ?_⟩) hs hpl
  subst ev
  obtain ⟨u, u2, rfl, ru, ru2⟩ := vals2 r
  exact run2 T hr I1 ru ru2 (.inl ⟨rfl, rfl⟩) q
theorem pe_mk0 (T : E0c X.K C) (hg : Gl X x) (hm : X.mg x = some (.ref C)) (hdb : (x == ("__debug__" : Str)) = false := by decide) : PE X (.Call (.Name x p) [] [] pos) (tMk0 C) := by
  refine ⟨fun pins s σ H Q I h => wpAny_Call_Name_kw (ld_glob I hg hm ?_ hdb)⟩
  refine PySem.W.callWith_K0 I.kIn T.keep ?_
  refine T.does I.kIn (fun h' e t kp new he => ?_)
  obtain ⟨hp, g, dr, tk, os⟩ := s
  exact ⟨.ref e, _, I.laid (t' := tk) kp new (exo_ok he), rfl, h e (I.hok.fresh new)⟩
/-- X(f = e) | X(f2 = e2, f = e) -/
theorem pe_mk1k (T : E1 X.K C f) (hr : Room k X.A) (hg : Gl X x) (hm : X.mg x = some (.ref C)) (hk : PK X kws tk) (hall : (backToKw pos (keywordEach kws X.env)).all (·.1.isSome) = true := by rfl) (hks : (backToKw pos (keywordEach kws X.env)).filterMap (·.1) = [f] := by rfl)
    (hdb : (x == ("__debug__" : Str)) = false := by decide) (hpl : ((backTo pos (starEach [] X.env)).any (·.1) || (backToKw pos (keywordEach kws X.env)).any (·.1.isNone)) = false := by rfl) : PE X (.Call (.Name x p) [] kws pos) (tMk1 C f tk) := by
  refine ⟨fun pins s σ H Q I h => wpAny_Call_Name_kw (ld_glob I hg hm ?_ hdb)⟩
  refine PySem.W.callWith_KW0 (h₀ := X.base) I.ok.mod.kin T.keep hall (thn (hk.run pos pins s σ H _ I h) fun us s1 ⟨vs, H1, I1, r, v, ev, q⟩ => ⟨I1.kIn, ?_⟩) hpl
  subst ev
  obtain ⟨u, rfl, ru⟩ := vals1 r
  rw [hks]
  exact run1 T hr I1 ru (.inr ⟨rfl, rfl⟩) q
theorem pe_mk2k (T : E2 X.K C f f2) (hr : Room k X.A) (hg : Gl X x) (hm : X.mg x = some (.ref C)) (hk : PK X kws tk) (hall : (backToKw pos (keywordEach kws X.env)).all (·.1.isSome) = true := by rfl) (hks : (backToKw pos (keywordEach kws X.env)).filterMap (·.1) = [f2, f] := by rfl)
    (hdb : (x == ("__debug__" : Str)) = false := by decide) (hpl : ((backTo pos (starEach [] X.env)).any (·.1) || (backToKw pos (keywordEach kws X.env)).any (·.1.isNone)) = false := by rfl) : PE X (.Call (.Name x p) [] kws pos) (tMk2k C f f2 tk) := by
  refine ⟨fun pins s σ H Q I h => wpAny_Call_Name_kw (ld_glob I hg hm ?_ hdb)⟩
  refine PySem.W.callWith_KW0 (h₀ := X.base) I.ok.mod.kin T.keep hall (thn (hk.run pos pins s σ H _ I h) fun us s1 ⟨vs, H1, I1, r, v, v2, ev, q⟩ => ⟨I1.kIn, ?_⟩) hpl
  subst ev
  obtain ⟨u2, u, rfl, ru2, ru⟩ := vals2 r
  rw [hks]
  exact run2 T hr I1 ru ru2 (.inr ⟨rfl, rfl⟩) q
end

/-- what a class says, so that its errors are read and asked rightly -/
structure EA (K : W.Frag) (C : Addr) : Prop where
  ga : W.findIn K (.ref C) "__getattribute__" = some (some (.builtin "BaseException.__getattribute__"))
  gg : W.findIn K (.ref C) "__getattr__" = some none
  exC : W.subIn K (.ref C) (.type "BaseException") = some true
  hd : W.hasDictIn K C = true
  cl : W.findIn K (.ref C) "__class__" = some (some (.builtin "object.__class__"))
  ob : W.mroIn K C (.type "object") = some true
  gt : W.specialIn K (.builtin "object.__class__") "__get__" = some (some (.builtin "getset_descriptor.__get__"))
  tk : W.takesIn K (.builtin "object.__class__") = some true
section
variable {X : Cx} {o : Expr} {to : TE} {f : Str} {pos : Pos}
/-- o.f, o an own error -/
def tEf (K : W.Frag) (f : Str) (to : TE) : TE := fun σ H Q => to σ H fun x H1 => ∃ (e C d : Addr) (fs : List (Str × V)) (v : V), x = .ref e ∧ EA K C ∧ W.findIn K (.ref C) f = some none ∧ H1 e = some (exo e C (some d)) ∧ H1 d = some (exd d fs) ∧ fs.lookup f = some v ∧ Q v H1
theorem pe_ef (he : PE X o to) (hb : attributeBase o f X.env (eval o X.env) = eval o X.env := by rfl) : PE X (.Attribute o f pos) (tEf X.K f to) := by
  refine ⟨fun pins s σ H Q I h => ?_⟩
  refine attr_of hb (thn (he.run pins s σ H _ I h) fun u s1 ⟨x, H1, I1, rx, e, C, d, fs, v, ex, T, nf, h1, h2, l, q⟩ => ?_)
  subst ex
  obtain rfl : u = Value.ref e := rx
  obtain ⟨t1, ho⟩ := exo_at I1.hok h1
  obtain ⟨mA, hn, rel⟩ := exd_at I1.hok h2
  obtain ⟨od, hod, lk⟩ := lookIn_ns hn
  obtain ⟨u, hu, ru⟩ := RelO.some_of (v := v) (o := mA f) (by rw [← l]; exact rel f)
  have J : PySem.W.InstAt s1.heap e { cls := .ref C, dict := some d, data := .fields #[.ref t1, .none, .none, .none, .bool false, .none] } C (some od) := ⟨ho, rfl, rfl, hod⟩
  exact HandSPX.exc_get I1.kIn J T.ga T.gg T.exC (PySem.W.findObj_own T.hd nf rfl (by rw [lk, hu])) (handed_of ru) ⟨v, H1, I1.tok _, ru, q⟩
/-- isinstance(e, c), e an own error that is tracked -/
def rIsX (K : W.Frag) : List V → Hp → VK → Prop := fun xs H Q => ∃ (e C : Addr) (d : Option Addr) (c : V) (u : Value) (b : Bool), xs = [.ref e, c] ∧ H e = some (exo e C d) ∧ (∀ dx, d = some dx → ∃ fs, H dx = some (exd dx fs)) ∧ EA K C ∧ ClsV c u ∧ W.kitOne K (.ref C) u = some b ∧ Q (.bl b) H
theorem call_isX : CallR X (.builtin "isinstance") (rIsX X.K) := by
  intro pins s σ H xs us Q I r h
  obtain ⟨e, C, d, c, cu, b, rfl, h1, h2, T, hc, hk, q⟩ := h
  obtain ⟨u1, u2, rfl, r1, r2⟩ := vals2 r
  have e2 := hc.eq r2
  subst e2
  obtain rfl : u1 = Value.ref e := r1
  obtain ⟨t1, ho⟩ := exo_at I.hok h1
  have cl : (PySem.W.clsIn X.K C).isSome = true := by
    obtain ⟨cd, z, _⟩ := PySem.W.any_some T.hd
    rw [z]
    rfl
  have go : ∀ od, PySem.W.InstAt s.heap e { cls := .ref C, dict := d, data := .fields #[.ref t1, .none, .none, .none, .bool false, .none] } C od → wpAny (model X.prog X.w) X.A (call (.builtin "isinstance") [.ref e, u2]) (EP X pins σ Q) X.xe s := fun od J =>
    PySem.W.kia_one (PySem.W.kitx_exc cl T.ga T.gg T.exC T.cl T.gt T.tk T.ob) I.kIn J hk (fun z => nomatch z) fun tk => ⟨.bl b, H, I.tok tk, rfl, q⟩
  cases d with
  | none => exact go none ⟨ho, rfl, rfl, trivial⟩
  | some dx =>
    obtain ⟨fs, hx⟩ := h2 dx rfl
    obtain ⟨mA, hn, _⟩ := exd_at I.hok hx
    obtain ⟨od, hod, _⟩ := lookIn_ns hn
    exact go (some od) ⟨ho, rfl, rfl, hod⟩
end

/-! ### from the text's facts -/
section
variable {K : W.Frag} {C fI : Addr} {B newId initId : String} {bmB : List Value} {fs : List Str} {f f2 qual : Str} {params : Arguments} {oc dV kV doc pm cdv ct : Value} {an od : Option Addr} {osl : Array (Option Value)} {q1 q2 q3 q4 r1 r2 r3 r4 : Pos}
theorem e1_of (T : EC K C fI B newId initId bmB fs) (ht : f ∈ fs) (code : W.codeIn K cdv qual = true)
    (at_ : K.lookup fI = some ⟨oc, od, .func (W.fnOf "__init__" qual params (iBody1 f q1 q2 q3 q4) (iScope ["self", f]) dV kV doc pm an cdv ct), osl⟩)
    (bp : ∀ x v, bindArgs (W.fnOf "__init__" qual params (iBody1 f q1 q2 q3 q4) (iScope ["self", f]) dV kV doc pm an cdv ct) ⟨[x, v], []⟩ = pure [(("self" : Str), x), (f, v)])
    (bk : ∀ x v, bindArgs (W.fnOf "__init__" qual params (iBody1 f q1 q2 q3 q4) (iScope ["self", f]) dV kV doc pm an cdv ct) ⟨[x], [(f, v)]⟩ = pure [(("self" : Str), x), (f, v)])
    (h1 : ("self" == f) = false := by decide) (h2 : (f == ("__debug__" : Str)) = false := by decide) (h3 : (f == ("self" : Str)) = false := by decide) : E1 K C f where
  keep := T.keep
  does := by
    intro prog w A R s us kw v h X lim room hq
    have hz : us.length ≤ sizeLine := by
      rcases h with ⟨rfl, _⟩ | ⟨rfl, _⟩
      · show 1 ≤ sizeLine
        decide
      · exact Nat.zero_le _
    refine made_by T X hz room (fun A' s' x t0 R' kp hx nx room' fin => ?_) hq
    refine init1 T (X.keeps kp) (lim.keeps kp) hx room' at_ code ?_ ht h1 h2 h3 fin
    rcases h with ⟨rfl, rfl⟩ | ⟨rfl, rfl⟩
    · exact .of_eq (bp _ _)
    · exact .of_eq (bk _ _)
theorem e2_of (T : EC K C fI B newId initId bmB fs) (ht : f ∈ fs) (ht2 : f2 ∈ fs) (code : W.codeIn K cdv qual = true)
    (at_ : K.lookup fI = some ⟨oc, od, .func (W.fnOf "__init__" qual params (iBody2 f f2 q1 q2 q3 q4 r1 r2 r3 r4) (iScope ["self", f, f2]) dV kV doc pm an cdv ct), osl⟩)
    (bp : ∀ x v v2, bindArgs (W.fnOf "__init__" qual params (iBody2 f f2 q1 q2 q3 q4 r1 r2 r3 r4) (iScope ["self", f, f2]) dV kV doc pm an cdv ct) ⟨[x, v, v2], []⟩ = pure [(("self" : Str), x), (f, v), (f2, v2)])
    (bk : ∀ x v v2, bindArgs (W.fnOf "__init__" qual params (iBody2 f f2 q1 q2 q3 q4 r1 r2 r3 r4) (iScope ["self", f, f2]) dV kV doc pm an cdv ct) ⟨[x], [(f2, v2), (f, v)]⟩ = pure [(("self" : Str), x), (f, v), (f2, v2)])
    (h1 : ("self" == f) = false := by decide) (h2 : (f == ("__debug__" : Str)) = false := by decide) (h3 : (f == ("self" : Str)) = false := by decide) (h4 : ("self" == f2) = false := by decide) (h5 : (f2 == ("__debug__" : Str)) = false := by decide)
    (h6 : (f2 == ("self" : Str)) = false := by decide) (h7 : (f2 == f) = false := by decide) : E2 K C f f2 where
  keep := T.keep
  does := by
    intro prog w A R s us kw v v2 h X lim room hq
    have hz : us.length ≤ sizeLine := by
      rcases h with ⟨rfl, _⟩ | ⟨rfl, _⟩
      · show 2 ≤ sizeLine
        decide
      · exact Nat.zero_le _
    refine made_by T X hz room (fun A' s' x t0 R' kp hx nx room' fin => ?_) hq
    refine init2 T (X.keeps kp) (lim.keeps kp) hx room' nx at_ code ?_ ht ht2 h1 h2 h3 h4 h5 h6 h7 fin
    rcases h with ⟨rfl, rfl⟩ | ⟨rfl, rfl⟩
    · exact .of_eq (bp _ _ _)
    · exact .of_eq (bk _ _ _)
theorem e0_of (F : ExcBaseFacts B newId initId bmB) (hi : W.findIn K (.ref C) "__init__" = some (some (.builtin initId))) (q : W.excInitIn K C bmB newId = true) (kp : W.keepIn K (.ref C) = true) : E0c K C where
  keep := kp
  does := by
    intro prog w A E Q s X hq
    obtain ⟨nm, N, qn, bs, bm, hdct, sn, sub, ab, col, dd, k0, k1, k2, k3, k5, hC, hT⟩ := W.excInit_of X q
    obtain ⟨hp, g, dr, tk, os⟩ := s
    exact W.call_B F hT hC (W.looks_findIn X hi) (Nat.zero_le _) (fun h' k he _ => hq h' _ _ k (Nat.le_succ _) he)
end
end Ge

set_option Elab.async false
set_option linter.all false
set_option maxRecDepth 100000
set_option maxHeartbeats 4000000
/-! Rules that want no types told; a def by its name. -/
namespace Gd
open PySem PySem.Spec L2
section
variable {X : Cx}
theorem op_addA : OpR X (binaryOp .Add) (fun x y H Q => (rI0 (fun i j => .int (i + j)) x y H Q) ∨ (∃ i j, x = .str i ∧ y = .str j ∧ i.length + j.length ≤ sizeLine ∧ Q (.str (i ++ j)) H) ∨ rCat x y H Q) := op_add.or (op_add_str.or op_cat)
theorem op_mulA : OpR X (binaryOp .Mult) (fun x y H Q => (rI CMulW (fun i j => .int (i * j)) x y H Q) ∨ rRep x y H Q) := op_mulW.or op_rep
theorem op_eqA {k : Nat} (hr : Room k X.A) : OpR X (compareOp .Eq) (fun x y H Q => rEq x y H Q ∨ rEqD X.K x y H Q) := op_eq.or (op_eqD hr.units)
theorem op_neA {k : Nat} (hr : Room k X.A) : OpR X (compareOp .NotEq) (fun x y H Q => rNe x y H Q ∨ rNeD X.K x y H Q) := op_ne.or (op_neD hr.units)
theorem call_lenA : CallR X (.builtin "len") (fun xs H Q => (∃ p ys, xs = [.ref p] ∧ (SqL X.K H p ys ∨ SqT X.K H p ys) ∧ Q (.int ys.length) H) ∨ (∃ z, xs = [.str z] ∧ z.length ≤ sizeLine ∧ Q (.int z.length) H)) := call_len_seq.or call_len_str
end
/-- the written part, told by a letter of its own -/
structure IsK (K : W.Frag) : Prop where
  t : True
section
variable {X : Cx} {K : W.Frag}
theorem ixK (_ : IsK K) (h : X.K = K := by rfl) : IxR X (rIx K) := h ▸ ix_seq
theorem inK (_ : IsK K) (h : X.K = K := by rfl) : OpR X (compareOp .In) (rIn K false) := h ▸ op_in_seq
theorem niK (_ : IsK K) (h : X.K = K := by rfl) : OpR X (compareOp .NotIn) (rIn K true) := h ▸ op_notIn_seq
theorem eqK (_ : IsK K) {k : Nat} (hr : Room k X.A) (h : X.K = K := by rfl) : OpR X (compareOp .Eq) (fun x y H Q => rEq x y H Q ∨ rEqD K x y H Q) := h ▸ op_eqA hr
theorem neK (_ : IsK K) {k : Nat} (hr : Room k X.A) (h : X.K = K := by rfl) : OpR X (compareOp .NotEq) (fun x y H Q => rNe x y H Q ∨ rNeD K x y H Q) := h ▸ op_neA hr
def rLenK (K : W.Frag) : List V → Hp → VK → Prop := fun xs H Q => (∃ p ys, xs = [.ref p] ∧ (SqL K H p ys ∨ SqT K H p ys) ∧ Q (.int ys.length) H) ∨ (∃ z, xs = [.str z] ∧ z.length ≤ sizeLine ∧ Q (.int z.length) H)
theorem lenK (_ : IsK K) (h : X.K = K := by rfl) : CallR X (.builtin "len") (rLenK K) := h ▸ call_lenA
theorem allK (_ : IsK K) (hc : X.calm = true) (h : X.K = K := by rfl) : CallR X (.builtin "all") (rAll K) := h ▸ cr_all hc
def rTupK (K : W.Frag) : List V → Hp → VK → Prop := fun xs H Q => ∃ p ys, xs = [.ref p] ∧ ((SqL K H p ys ∧ ∀ l, H l = none → Q (.ref l) (upd H l (.tup ys))) ∨ (SqT K H p ys ∧ Q (.ref p) H))
theorem tupK (_ : IsK K) (h : X.K = K := by rfl) : CallR X (.type "tuple") (rTupK K) := h ▸ call_tuple_of
theorem isXK (_ : IsK K) (h : X.K = K := by rfl) : CallR X (.builtin "isinstance") (Ge.rIsX K) := h ▸ Ge.call_isX
theorem efK (_ : IsK K) {o : Expr} {to : TE} {f : Str} {pos : Pos} (he : PE X o to) (hb : attributeBase o f X.env (eval o X.env) = eval o X.env := by rfl) (h : X.K = K := by rfl) : PE X (.Attribute o f pos) (Ge.tEf K f to) := h ▸ Ge.pe_ef he hb
theorem listK (_ : IsK K) {tg l : Expr} {tl : TE} (hl : PE X l tl) (h : X.K = K := by rfl) : PI X tg l (iList K tl) := h ▸ pi_list hl
theorem tupiK (_ : IsK K) {tg l : Expr} {tl : TE} (hl : PE X l tl) (h : X.K = K := by rfl) : PI X tg l (iTup K tl) := h ▸ pi_tup hl
def rJoinK (K : W.Frag) : V → List V → Hp → VK → Prop := fun x xs H Q => ∃ a p, ∃ ys : List Str, x = .str a ∧ xs = [.ref p] ∧ (SqL K H p (ys.map V.str) ∨ SqT K H p (ys.map V.str)) ∧ (ys.map (·.length)).sum + ys.length * a.length ≤ 16777216 ∧ Q (.str (Txt.join a ys)) H
theorem joinK (_ : IsK K) {o e : Expr} {to te : TE} {apos pos : Pos} (ho : PE X o to) (he : PE X e te) (hs : starEach [e] X.env = [(false, eval e X.env)] := by rfl) (hbase : attributeBase o "join" X.env (eval o X.env) = eval o X.env := by rfl) (hline : (apos.endLine == pos.line) = true := by rfl) (h : X.K = K := by rfl) :
    PE X (.Call (.Attribute o "join" apos) [e] [] pos) (tM1 (rJoinK K) to te) := h ▸ pe_join ho he hs hbase hline
end
structure Frees (mg : Str → Option Value) : Prop where
  h : ∀ x, frees.contains x = true → mg x = none
/-- names of the module's own objects -/
structure Globs (K : W.Frag) (names : List Str) (mg : Str → Option Value) : Prop where
  h : ∀ x, names.contains x = true → mg x = some (.ref (He.ga K x))
/-- a def by its name: somewhere, keeping sp at level k, wherever it is called | where no repr is under way -/
def Dn (P : Program) (w : World) (K : W.Frag) (mg : Str → Option Value) (base : Heap) (CX : CXT) (k : Nat) (x : Str) (ps : List Str) (sp : Sp) : Prop :=
  ∃ f fd, FnOk P w K mg base CX k f fd ps sp ∧ mg x = some (.ref f) ∧ W.keepIn K (.ref f) = true ∧ Binds K fd ps []
def DnG (P : Program) (w : World) (K : W.Frag) (mg : Str → Option Value) (base : Heap) (k : Nat) (x : Str) (ps : List Str) (sp : Sp) : Prop :=
  ∃ f fd, FnG P w K mg base CX0 k f fd ps sp ∧ mg x = some (.ref f) ∧ W.keepIn K (.ref f) = true ∧ Binds K fd ps []
section
variable {X : Cx} {j k : Nat} {x : Str} {ps : List Str} {sp : Sp} {p pos : Pos} {e : Expr} {es : List Expr} {t : TA}
theorem pe_dn (D : Dn X.prog X.w X.K X.mg X.base CX0 j x ps sp) (hr : Room k X.A) (hg : Gl X x) (hj : j ≤ k) (ha : PA X (e :: es) t) (hdb : (x == ("__debug__" : Str)) = false := by decide)
    (he : starEach (e :: es) X.env = (false, eval e X.env) :: starEach es X.env := by rfl) (hpl : (backTo pos (starEach es X.env)).any (·.1) = false := by rfl) : PE X (.Call (.Name x p) (e :: es) [] pos) (tCall sp [] E0 t) := by
  obtain ⟨f, fd, F, hm, hk, hb⟩ := D
  exact pe_call F (hr.mono hj) hg hm hk hb .nil pass0 ha hdb he hpl
theorem pe_dnG (D : DnG X.prog X.w X.K X.mg X.base j x ps sp) (hG : Bare X.A) (hr : Room k X.A) (hg : Gl X x) (hj : j ≤ k) (ha : PA X (e :: es) t) (hdb : (x == ("__debug__" : Str)) = false := by decide)
    (he : starEach (e :: es) X.env = (false, eval e X.env) :: starEach es X.env := by rfl) (hpl : (backTo pos (starEach es X.env)).any (·.1) = false := by rfl) : PE X (.Call (.Name x p) (e :: es) [] pos) (tCall sp [] E0 t) := by
  obtain ⟨f, fd, F, hm, hk, hb⟩ := D
  exact pe_callG hG F (hr.mono hj) hg hm hk hb .nil pass0 ha hdb he hpl
end

/-! ### the pot -/
/-- at p the pot: what is left of the cell, and the mixed number -/
def Pot (H : Hp) (p : Addr) : Prop := ∃ a b : Int, H p = some (.lst [.int a, .int b]) ∧ 0 ≤ a ∧ 0 ≤ b ∧ b < 2147483648
/-- all but p stands, at p the pot -/
def Kp (p : Addr) (H H' : Hp) : Prop := (∀ b o, b ≠ p → H b = some o → H' b = some o) ∧ Pot H' p
theorem Kp.refl {p : Addr} {H : Hp} (h : Pot H p) : Kp p H H := ⟨fun _ _ _ h => h, h⟩
theorem Kp.trans {p : Addr} {H H1 H2 : Hp} (a : Kp p H H1) (b : Kp p H1 H2) : Kp p H H2 := ⟨fun c o n h => b.1 c o n (a.1 c o n h), b.2⟩
theorem Pot.there {p : Addr} {H : Hp} (h : Pot H p) : ∃ o, H p = some o := let ⟨_, _, e, _⟩ := h; ⟨_, e⟩
theorem Pot.new {p q : Addr} {H : Hp} {o : HO} (h : Pot H p) (n : H q = none) : Pot (upd H q o) p := by
  obtain ⟨a, b, e, r⟩ := h
  exact ⟨a, b, by rw [upd_ne (ne_of_none e n)]; exact e, r⟩
theorem Kp.new {p q : Addr} {H : Hp} {o : HO} (h : Pot H p) (n : H q = none) : Kp p H (upd H q o) := ⟨fun b u _ e => by rw [upd_ne (ne_of_none e n)]; exact e, h.new n⟩
theorem Kp.put {p : Addr} {H : Hp} {a b : Int} (h0 : 0 ≤ a) (h2 : 0 ≤ b) (h3 : b < 2147483648) : Kp p H (upd H p (.lst [.int a, .int b])) := ⟨fun c o n e => by rw [upd_ne n]; exact e, a, b, upd_same, h0, h2, h3⟩
theorem Kp.at {p q : Addr} {H H' : Hp} {o : HO} (k : Kp p H H') (n : q ≠ p) (h : H q = some o) : H' q = some o := k.1 q o n h
theorem Kp.seq {K : W.Frag} {p q : Addr} {H H' : Hp} {xs : List V} (k : Kp p H H') (n : q ≠ p) (h : SqL K H q xs) : SqL K H' q xs := by
  rcases h with (h | ⟨o, h⟩) | h
  · exact .inl (.inl (k.1 _ _ n h))
  · exact .inl (.inr ⟨o, k.1 _ _ n h⟩)
  · exact .inr h
theorem Kp.gone {p q : Addr} {H H' : Hp} (k : Kp p H H') (n : q ≠ p) (h : H' q = none) : H q = none := by
  cases z : H q with
  | none => rfl
  | some o => rw [k.1 q o n z] at h; cases h
theorem Kp.over {p q : Addr} {H H' : Hp} {o : HO} (k : Kp p H H') (n : q ≠ p) (h : H q = none) : Kp p H (upd H' q o) := by
  refine ⟨fun b u nb e => ?_, ?_⟩
  · rw [upd_ne (ne_of_none e h)]
    exact k.1 b u nb e
  · obtain ⟨a, b, e, r⟩ := k.2
    exact ⟨a, b, by rw [upd_ne (Ne.symm n)]; exact e, r⟩
theorem Kp.pot {p : Addr} {H H' : Hp} (k : Kp p H H') : Pot H' p := k.2
theorem ne_pot {p q : Addr} {H : Hp} (h : Pot H p) (n : H q = none) : q ≠ p := fun e => by
  obtain ⟨o, z⟩ := h.there
  rw [← e, n] at z
  cases z
theorem ix0 {K : W.Frag} {H : Hp} {p : Addr} {a b : Int} {Q : VK} (h : H p = some (.lst [.int a, .int b])) (q : Q (.int a) H) : rIx K (.ref p) (.int 0) H Q := .inl ⟨p, _, 0, _, rfl, rfl, SqL.of h, rfl, q⟩
theorem ix1 {K : W.Frag} {H : Hp} {p : Addr} {a b : Int} {Q : VK} (h : H p = some (.lst [.int a, .int b])) (q : Q (.int b) H) : rIx K (.ref p) (.int 1) H Q := .inl ⟨p, _, 1, _, rfl, rfl, SqL.of h, rfl, q⟩
theorem log_lt {n : Int} (h : n.natAbs < 2 ^ 80) : n.natAbs.log2 < 80 := by
  by_cases z : n.natAbs = 0
  · rw [z]
    decide
  · exact (Nat.log2_lt z).mpr h
theorem mulW {i j : Int} (hi : i.natAbs < 2 ^ 80) (hj : j.natAbs < 2 ^ 80) : CMulW i j := by
  have a := log_lt hi
  have b := log_lt hj
  show i.natAbs.log2 + j.natAbs.log2 < 1000000
  omega
theorem divW {i j : Int} (h0 : 0 < j) (h : j.natAbs < 2 ^ 80) : CDivW i j := ⟨h0, by have := log_lt h; omega⟩
theorem ne_of_none' {H : Hp} {a b : Addr} {o : HO} (h : H a = some o) (h' : H b = none) : b ≠ a := fun e => ne_of_none h h' e.symm
theorem atI_int {α : Type} {xs : List α} {i : Int} {x : α} (h0 : 0 ≤ i) (h : xs[i.toNat]? = some x) : atI xs i = some x := by
  have e : ((i.toNat : Nat) : Int) = i := Int.toNat_of_nonneg h0
  have z := atI_nat h
  rw [e] at z
  exact z
/-- draw(pot, sides) -/
def spDraw : Sp := fun vs H Q _ => ∃ (p : Addr) (n : Int), vs = [.ref p, .int n] ∧ Pot H p ∧ 0 < n ∧ n ≤ 1000000000 ∧ ∀ (d : Int) (H' : Hp), 0 ≤ d → d < n → Kp p H H' → Q (.int d) H'
/-- pick(pot, some) -/
def spPick (K : W.Frag) : Sp := fun vs H Q _ => ∃ (p l : Addr) (xs : List V), vs = [.ref p, .ref l] ∧ Pot H p ∧ l ≠ p ∧ SqL K H l xs ∧ xs ≠ [] ∧ xs.length ≤ 1000000 ∧ ∀ (x : V) (H' : Hp), x ∈ xs → Kp p H H' → Q x H'
/-- pot(script, k) -/
def spPot (K : W.Frag) : Sp := fun vs H Q _ => ∃ (a : Addr) (ns : List Int) (k : Int), vs = [.ref a, .int k] ∧ SqL K H a (ns.map V.int) ∧ 0 ≤ k ∧ k < 100 ∧ ∀ (p : Addr) (H' : Hp), H p = none → Same H H' → Pot H' p → Q (.ref p) H'
/-- a short plain text -/
def Sm (n : Nat) (x : Str) : Prop := x.length ≤ n ∧ ∀ c ∈ x.cps.toList, c < 1000
theorem Sm.repr {n : Nat} {x : Str} (h : Sm n x) : (reprText x).length ≤ 10 * n + 2 := by
  have z := StrLaws.reprText_len x (fun c hc => Nat.lt_of_lt_of_le (h.2 c hc) (by decide))
  have := h.1
  omega
/-- named(pot, 1, []) -/
def spNamed (K : W.Frag) : Sp := fun vs H Q _ => ∃ (p t : Addr), vs = [.ref p, .int 1, .ref t] ∧ Pot H p ∧ t ≠ p ∧ SqL K H t [] ∧ ∀ (r : Addr) (x : Str) (H' : Hp), H' r = some (.lst [.str x]) → Sm 8 x → Kp p H H' → Q (.ref r) H'
/-- far(pot) -/
def spFar : Sp := fun vs H Q _ => ∃ p : Addr, vs = [.ref p] ∧ Pot H p ∧ ∀ (n : Int) (H' : Hp), n.natAbs < 2 ^ 200 → Kp p H H' → Q (.int n) H'
end Gd

set_option Elab.async false
set_option linter.all false
set_option maxRecDepth 100000
set_option maxHeartbeats 4000000
namespace K10
open PySem PySem.Spec L2 Gd

/-! ### derivations by the text's shape -/
local macro_rules | `(tactic| walk_at "gd nd") => `(tactic| assumption)
local macro_rules | `(tactic| walk_at "gd lo") => `(tactic| first | exact Or.inl rfl | exact Or.inr rfl)
local macro_rules | `(tactic| walk_at "gd var") => `(tactic| first | exact pv 0 | exact pv 1 | exact pv 2 | exact pv 3 | exact pv 4 | exact pv 5 | exact pv 6 | exact pv 7 | exact pv 8 | exact pv 9 | exact pv 10 | exact pv 11 | exact pv 12 | exact pv 13 | exact pe_glob rfl (by assumption) rfl | exact pe_glob rfl (Globs.h (by assumption) _ (by decide +kernel)) rfl | exact pe_bltn rfl (Frees.h (by assumption) _ (by decide +kernel)) (by decide +kernel) rfl)
local macro_rules | `(tactic| walk_at "gd a") => `(tactic| first | exact pa_nil | (refine' pa_cons ?k1 ?k2; (case k1 => walk_at "gd e"); (case k2 => walk_at "gd a")))
local macro_rules | `(tactic| walk_at "gd blt") => `(tactic| first
  | ((with_reducible show PE _ (Expr.Call (Expr.Name "abs" _) _ _ _) _); refine' pe_callB call_abs rfl (Frees.h (by assumption) _ (by decide +kernel)) (by decide +kernel) ?k1; (case k1 => walk_at "gd a"))
  | ((with_reducible show PE _ (Expr.Call (Expr.Name "max" _) _ _ _) _); refine' pe_callB (call_max2 rfl) rfl (Frees.h (by assumption) _ (by decide +kernel)) (by decide +kernel) ?k1; (case k1 => walk_at "gd a"))
  | ((with_reducible show PE _ (Expr.Call (Expr.Name "min" _) _ _ _) _); refine' pe_callB (call_min2 rfl) rfl (Frees.h (by assumption) _ (by decide +kernel)) (by decide +kernel) ?k1; (case k1 => walk_at "gd a"))
  | ((with_reducible show PE _ (Expr.Call (Expr.Name "len" _) _ _ _) _); refine' pe_callB (lenK (by assumption)) rfl (Frees.h (by assumption) _ (by decide +kernel)) (by decide +kernel) ?k1; (case k1 => walk_at "gd a"))
  | ((with_reducible show PE _ (Expr.Call (Expr.Name "divmod" _) _ _ _) _); refine' pe_callB call_divmod rfl (Frees.h (by assumption) _ (by decide +kernel)) (by decide +kernel) ?k1; (case k1 => walk_at "gd a"))
  | ((with_reducible show PE _ (Expr.Call (Expr.Name "all" _) _ _ _) _); refine' pe_callB (allK (by assumption) rfl) rfl (Frees.h (by assumption) _ (by decide +kernel)) (by decide +kernel) ?k1; (case k1 => walk_at "gd a"))
  | ((with_reducible show PE _ (Expr.Call (Expr.Name "isinstance" _) _ _ _) _); refine' pe_callB (isXK (by assumption)) rfl (Frees.h (by assumption) _ (by decide +kernel)) (by decide +kernel) ?k1; (case k1 => walk_at "gd a"))
  | ((with_reducible show PE _ (Expr.Call (Expr.Name "repr" _) _ _ _) _); refine' pe_callB (call_repr (by assumption) (by assumption)) rfl (Frees.h (by assumption) _ (by decide +kernel)) (by decide +kernel) ?k1; (case k1 => walk_at "gd a"))
  | ((with_reducible show PE _ (Expr.Call (Expr.Name "int" _) _ _ _) _); refine' pe_callTy call_int1 rfl (Frees.h (by assumption) _ (by decide +kernel)) (by decide +kernel) ?k1; (case k1 => walk_at "gd a"))
  | ((with_reducible show PE _ (Expr.Call (Expr.Name "tuple" _) _ _ _) _); refine' pe_callTy (tupK (by assumption)) rfl (Frees.h (by assumption) _ (by decide +kernel)) (by decide +kernel) ?k1; (case k1 => walk_at "gd a")))
local macro_rules | `(tactic| walk_at "gd call") => `(tactic| first
  | walk_at "gd blt"
  | (refine' pe_dn (by assumption) (by assumption) rfl (by decide) ?k1; (case k1 => walk_at "gd a"))
  | (refine' pe_dnG (by assumption) (by assumption) (by assumption) rfl (by decide) ?k1; (case k1 => walk_at "gd a"))
  | walk_at "gd own")
local macro_rules | `(tactic| walk_at "gd own") => `(tactic| fail)
local macro_rules | `(tactic| walk_at "gd it") => `(tactic| fail)
local macro_rules | `(tactic| walk_at "gd i") => `(tactic| first
  | ((with_reducible show PI _ _ (Expr.Call (Expr.Name "range" _) [_] _ _) _); refine' pi_range1 rfl (Frees.h (by assumption) _ (by decide +kernel)) ?k1; (case k1 => walk_at "gd a"))
  | walk_at "gd it")
local macro_rules | `(tactic| walk_at "gd cv") => `(tactic| fail)
local macro_rules | `(tactic| walk_at "gd lc") => `(tactic| walk_at "gd cv")
local macro_rules | `(tactic| walk_at "gd e") => `(tactic| first
  | ((with_reducible show PE _ (Expr.Constant _ _ _) _); first | exact pe_int | exact pe_str | exact pe_bl | exact pe_non)
  | ((with_reducible show PE _ (Expr.Name _ _) _); walk_at "gd var")
  | ((with_reducible show PE _ (Expr.BinOp _ Operator.Add _ _) _); refine' pe_op op_addA ?k1 ?k2; (case k1 => walk_at "gd e"); (case k2 => walk_at "gd e"))
  | ((with_reducible show PE _ (Expr.BinOp _ Operator.Sub _ _) _); refine' pe_op op_sub ?k1 ?k2; (case k1 => walk_at "gd e"); (case k2 => walk_at "gd e"))
  | ((with_reducible show PE _ (Expr.BinOp _ Operator.Mult _ _) _); refine' pe_op op_mulA ?k1 ?k2; (case k1 => walk_at "gd e"); (case k2 => walk_at "gd e"))
  | ((with_reducible show PE _ (Expr.BinOp _ Operator.Mod _ _) _); refine' pe_op op_mod ?k1 ?k2; (case k1 => walk_at "gd e"); (case k2 => walk_at "gd e"))
  | ((with_reducible show PE _ (Expr.BinOp _ Operator.FloorDiv _ _) _); refine' pe_op op_fdivW ?k1 ?k2; (case k1 => walk_at "gd e"); (case k2 => walk_at "gd e"))
  | ((with_reducible show PE _ (Expr.BinOp _ Operator.Pow _ _) _); refine' pe_op op_pow ?k1 ?k2; (case k1 => walk_at "gd e"); (case k2 => walk_at "gd e"))
  | ((with_reducible show PE _ (Expr.UnaryOp UnaryOp.USub _ _) _); refine' pe_un un_neg ?k1; (case k1 => walk_at "gd e"))
  | ((with_reducible show PE _ (Expr.UnaryOp UnaryOp.Not _ _) _); refine' pe_not ?k1; (case k1 => walk_at "gd e"))
  | ((with_reducible show PE _ (Expr.Compare _ [CmpOp.Lt] _ _) _); refine' pe_cmpR op_lt ?k1 ?k2 (by rfl); (case k1 => walk_at "gd e"); (case k2 => walk_at "gd e"))
  | ((with_reducible show PE _ (Expr.Compare _ [CmpOp.LtE] _ _) _); refine' pe_cmpR op_le ?k1 ?k2 (by rfl); (case k1 => walk_at "gd e"); (case k2 => walk_at "gd e"))
  | ((with_reducible show PE _ (Expr.Compare _ [CmpOp.Gt] _ _) _); refine' pe_cmpR op_gt ?k1 ?k2 (by rfl); (case k1 => walk_at "gd e"); (case k2 => walk_at "gd e"))
  | ((with_reducible show PE _ (Expr.Compare _ [CmpOp.GtE] _ _) _); refine' pe_cmpR op_ge ?k1 ?k2 (by rfl); (case k1 => walk_at "gd e"); (case k2 => walk_at "gd e"))
  | ((with_reducible show PE _ (Expr.Compare _ [CmpOp.Eq] _ _) _); refine' pe_cmpR (eqK (by assumption) (by assumption)) ?k1 ?k2 (by rfl); (case k1 => walk_at "gd e"); (case k2 => walk_at "gd e"))
  | ((with_reducible show PE _ (Expr.Compare _ [CmpOp.NotEq] _ _) _); refine' pe_cmpR (neK (by assumption) (by assumption)) ?k1 ?k2 (by rfl); (case k1 => walk_at "gd e"); (case k2 => walk_at "gd e"))
  | ((with_reducible show PE _ (Expr.Compare _ [CmpOp.In] _ _) _); refine' pe_cmpR (inK (by assumption)) ?k1 ?k2 (by rfl); (case k1 => walk_at "gd e"); (case k2 => walk_at "gd e"))
  | ((with_reducible show PE _ (Expr.Compare _ [CmpOp.NotIn] _ _) _); refine' pe_cmpR (niK (by assumption)) ?k1 ?k2 (by rfl); (case k1 => walk_at "gd e"); (case k2 => walk_at "gd e"))
  | ((with_reducible show PE _ (Expr.IfExp _ _ _ _) _); refine' pe_ifExp ?k1 ?k2 ?k3; (case k1 => walk_at "gd t"); (case k2 => walk_at "gd e"); (case k3 => walk_at "gd e"))
  | ((with_reducible show PE _ (Expr.Subscript _ (Expr.Slice none (some _) none _) _) _); refine' pe_slice sl_str ?k1 po_none (po_some ?k2); (case k1 => walk_at "gd e"); (case k2 => walk_at "gd e"))
  | ((with_reducible show PE _ (Expr.Subscript _ _ _) _); refine' pe_ix (ixK (by assumption)) ?k1 ?k2 (fun _ _ => rfl); (case k1 => walk_at "gd e"); (case k2 => walk_at "gd e"))
  | ((with_reducible show PE _ (Expr.List _ _) _); refine' pe_lst ?k1; (case k1 => walk_at "gd a"))
  | ((with_reducible show PE _ (Expr.Tuple _ _ _) _); refine' pe_tup ?k1; (case k1 => walk_at "gd a"))
  | ((with_reducible show PE _ (Expr.Dict [] [] _) _); exact pe_dnewK)
  | ((with_reducible show PE _ (Expr.Dict [_] [_] _) _); refine' pe_disp (pps_cons ?k1 ?k2 pps_nil) rfl rfl (fun z => by cases z) (by decide); (case k1 => walk_at "gd e"); (case k2 => walk_at "gd e"))
  | ((with_reducible show PE _ (Expr.Call (Expr.Attribute _ "join" _) _ _ _) _); refine' joinK (by assumption) ?k1 ?k2; (case k1 => walk_at "gd e"); (case k2 => walk_at "gd e"))
  | ((with_reducible show PE _ (Expr.Call (Expr.Attribute _ "append" _) _ _ _) _); refine' pe_bm PySem.F.plainAttrs_list PySem.F.slot_list_append PySem.F.type_list_append mt_append ?k1 ?k2; (case k1 => walk_at "gd e"); (case k2 => walk_at "gd a"))
  | ((with_reducible show PE _ (Expr.Attribute _ _ _) _); refine' efK (by assumption) ?k1; (case k1 => walk_at "gd e"))
  | ((with_reducible show PE _ (Expr.ListComp _ _ _ _) _); walk_at "gd lc")
  | walk_at "gd call")
local macro_rules | `(tactic| walk_at "gd t") => `(tactic| first
  | ((with_reducible show PT _ (Expr.UnaryOp UnaryOp.Not _ _) _); refine' pt_not ?k1; (case k1 => walk_at "gd t"))
  | ((with_reducible show PT _ (Expr.BoolOp BoolOp.And [_, _] _) _); refine' PW.pt (pw_and ?k1 (pw_and1 ?k2)); (case k1 => walk_at "gd t"); (case k2 => walk_at "gd t"))
  | ((with_reducible show PT _ (Expr.BoolOp BoolOp.Or [_, _] _) _); refine' PW.pt (pw_or ?k1 (pw_or1 ?k2)); (case k1 => walk_at "gd t"); (case k2 => walk_at "gd t"))
  | ((with_reducible show PT _ (Expr.Compare _ [CmpOp.Lt] _ _) _); refine' pt_cmpR op_lt ?k1 ?k2 (by rfl); (case k1 => walk_at "gd e"); (case k2 => walk_at "gd e"))
  | ((with_reducible show PT _ (Expr.Compare _ [CmpOp.LtE] _ _) _); refine' pt_cmpR op_le ?k1 ?k2 (by rfl); (case k1 => walk_at "gd e"); (case k2 => walk_at "gd e"))
  | ((with_reducible show PT _ (Expr.Compare _ [CmpOp.Gt] _ _) _); refine' pt_cmpR op_gt ?k1 ?k2 (by rfl); (case k1 => walk_at "gd e"); (case k2 => walk_at "gd e"))
  | ((with_reducible show PT _ (Expr.Compare _ [CmpOp.GtE] _ _) _); refine' pt_cmpR op_ge ?k1 ?k2 (by rfl); (case k1 => walk_at "gd e"); (case k2 => walk_at "gd e"))
  | ((with_reducible show PT _ (Expr.Compare _ [CmpOp.Eq] _ _) _); refine' pt_cmpR (eqK (by assumption) (by assumption)) ?k1 ?k2 (by rfl); (case k1 => walk_at "gd e"); (case k2 => walk_at "gd e"))
  | ((with_reducible show PT _ (Expr.Compare _ [CmpOp.NotEq] _ _) _); refine' pt_cmpR (neK (by assumption) (by assumption)) ?k1 ?k2 (by rfl); (case k1 => walk_at "gd e"); (case k2 => walk_at "gd e"))
  | ((with_reducible show PT _ (Expr.Compare _ [CmpOp.In] _ _) _); refine' pt_cmpR (inK (by assumption)) ?k1 ?k2 (by rfl); (case k1 => walk_at "gd e"); (case k2 => walk_at "gd e"))
  | ((with_reducible show PT _ (Expr.Compare _ [CmpOp.NotIn] _ _) _); refine' pt_cmpR (niK (by assumption)) ?k1 ?k2 (by rfl); (case k1 => walk_at "gd e"); (case k2 => walk_at "gd e"))
  | (refine' pt_val ?k1; (case k1 => walk_at "gd e")))
local macro_rules | `(tactic| walk_at "gd g") => `(tactic| first
  | ((with_reducible show PG _ (Expr.Name _ _) _); first | exact pg_name (i := 0) (by walk_at "gd nd") rfl (by walk_at "gd lo") | exact pg_name (i := 1) (by walk_at "gd nd") rfl (by walk_at "gd lo") | exact pg_name (i := 2) (by walk_at "gd nd") rfl (by walk_at "gd lo") | exact pg_name (i := 3) (by walk_at "gd nd") rfl (by walk_at "gd lo") | exact pg_name (i := 4) (by walk_at "gd nd") rfl (by walk_at "gd lo") | exact pg_name (i := 5) (by walk_at "gd nd") rfl (by walk_at "gd lo") | exact pg_name (i := 6) (by walk_at "gd nd") rfl (by walk_at "gd lo") | exact pg_name (i := 7) (by walk_at "gd nd") rfl (by walk_at "gd lo") | exact pg_name (i := 8) (by walk_at "gd nd") rfl (by walk_at "gd lo") | exact pg_name (i := 9) (by walk_at "gd nd") rfl (by walk_at "gd lo") | exact pg_name (i := 10) (by walk_at "gd nd") rfl (by walk_at "gd lo") | exact pg_name (i := 11) (by walk_at "gd nd") rfl (by walk_at "gd lo") | exact pg_name (i := 12) (by walk_at "gd nd") rfl (by walk_at "gd lo") | exact pg_name (i := 13) (by walk_at "gd nd") rfl (by walk_at "gd lo"))
  | ((with_reducible show PG _ (Expr.Subscript _ _ _) _); refine' pg_sub ?k1 ?k2 set_list; (case k1 => walk_at "gd e"); (case k2 => walk_at "gd e"))
  | ((with_reducible show PG _ (Expr.Tuple _ _ _) _); refine' pg_tup rfl ?k1; (case k1 => walk_at "gd gs")))
local macro_rules | `(tactic| walk_at "gd gs") => `(tactic| first | exact pgs_nil | (refine' pgs_cons ?k1 ?k2; (case k1 => walk_at "gd g"); (case k2 => walk_at "gd gs")))
local macro_rules | `(tactic| walk_at "gd set") => `(tactic| first | (refine' ps_set (i := 0) (by walk_at "gd nd") rfl (by walk_at "gd lo") ?k1; (case k1 => walk_at "gd e")) | (refine' ps_set (i := 1) (by walk_at "gd nd") rfl (by walk_at "gd lo") ?k1; (case k1 => walk_at "gd e")) | (refine' ps_set (i := 2) (by walk_at "gd nd") rfl (by walk_at "gd lo") ?k1; (case k1 => walk_at "gd e")) | (refine' ps_set (i := 3) (by walk_at "gd nd") rfl (by walk_at "gd lo") ?k1; (case k1 => walk_at "gd e")) | (refine' ps_set (i := 4) (by walk_at "gd nd") rfl (by walk_at "gd lo") ?k1; (case k1 => walk_at "gd e")) | (refine' ps_set (i := 5) (by walk_at "gd nd") rfl (by walk_at "gd lo") ?k1; (case k1 => walk_at "gd e")) | (refine' ps_set (i := 6) (by walk_at "gd nd") rfl (by walk_at "gd lo") ?k1; (case k1 => walk_at "gd e")) | (refine' ps_set (i := 7) (by walk_at "gd nd") rfl (by walk_at "gd lo") ?k1; (case k1 => walk_at "gd e")) | (refine' ps_set (i := 8) (by walk_at "gd nd") rfl (by walk_at "gd lo") ?k1; (case k1 => walk_at "gd e")) | (refine' ps_set (i := 9) (by walk_at "gd nd") rfl (by walk_at "gd lo") ?k1; (case k1 => walk_at "gd e")) | (refine' ps_set (i := 10) (by walk_at "gd nd") rfl (by walk_at "gd lo") ?k1; (case k1 => walk_at "gd e")) | (refine' ps_set (i := 11) (by walk_at "gd nd") rfl (by walk_at "gd lo") ?k1; (case k1 => walk_at "gd e")) | (refine' ps_set (i := 12) (by walk_at "gd nd") rfl (by walk_at "gd lo") ?k1; (case k1 => walk_at "gd e")) | (refine' ps_set (i := 13) (by walk_at "gd nd") rfl (by walk_at "gd lo") ?k1; (case k1 => walk_at "gd e")))
local macro_rules | `(tactic| walk_at "gd os") => `(tactic| fail)
local macro_rules | `(tactic| walk_at "gd slc") => `(tactic| fail)
local macro_rules | `(tactic| walk_at "gd par") => `(tactic| fail)
local macro_rules | `(tactic| walk_at "gd s") => `(tactic| first
  | ((with_reducible show PS _ (Stmt.Return (some _) _) _); refine' ps_ret ?k1; (case k1 => walk_at "gd e"))
  | ((with_reducible show PS _ (Stmt.If _ _ _ _) _); refine' ps_if ?k1 ?k2 ?k3; (case k1 => walk_at "gd t"); (case k2 => walk_at "gd ss"); (case k3 => walk_at "gd ss"))
  | ((with_reducible show PS _ (Stmt.Assign [Expr.Name _ _] (Expr.ListComp _ _ _ _) _) _); walk_at "gd slc")
  | ((with_reducible show PS _ (Stmt.Assign [Expr.Name _ _] _ _) _); walk_at "gd set")
  | ((with_reducible show PS _ (Stmt.Assign [_] _ _) _); refine' ps_asg ?k1 ?k2; (case k1 => walk_at "gd e"); (case k2 => walk_at "gd g"))
  | ((with_reducible show PS _ (Stmt.Assign [_] _ _) _); walk_at "gd par")
  | ((with_reducible show PS _ (Stmt.For _ _ _ _ _) _); refine' ps_for PassesOwn.never rfl ?k1 ?k2 ?k3; (case k1 => walk_at "gd i"); (case k2 => walk_at "gd g"); (case k3 => walk_at "gd ss"))
  | ((with_reducible show PS _ (Stmt.Expr _ _) _); refine' ps_expr ?k1; (case k1 => walk_at "gd e"))
  | walk_at "gd os")
local macro_rules | `(tactic| walk_at "gd ss") => `(tactic| first | exact pss_nil | (refine' pss_one ?k1; (case k1 => walk_at "gd s")) | (refine' pss_cons ?k1 ?k2; (case k1 => walk_at "gd s"); (case k2 => walk_at "gd ss")))
abbrev sPot : Stmt := top 41
abbrev sDraw : Stmt := top 42
abbrev sPick : Stmt := top 43
theorem scPot : FnScope ["_law_script", "_law_k", "_law_cell"] ["_law_script", "_law_k"] (defScope sPot) := ⟨rfl, rfl, rfl, by decide +kernel, rfl, by decide +kernel, by decide +kernel⟩
theorem scDraw : FnScope ["_law_pot_here", "_law_sides", "_law_digit"] ["_law_pot_here", "_law_sides"] (defScope sDraw) := ⟨rfl, rfl, rfl, by decide +kernel, rfl, by decide +kernel, by decide +kernel⟩
theorem scPick : FnScope ["_law_pot_here", "_law_some"] ["_law_pot_here", "_law_some"] (defScope sPick) := ⟨rfl, rfl, rfl, by decide +kernel, rfl, by decide +kernel, by decide +kernel⟩
section
variable {P : Program} {w : World} {K : W.Frag} {mg : Str → Option Value} {base : Heap} {f : Addr} {fd : FuncData}
theorem ok_draw (fr : Frees mg) (F : Fun K "_law_draw" "_law_draw" sDraw f fd) : FnOk P w K mg base CX0 1 f fd ["_law_pot_here", "_law_sides"] spDraw := by
  refine F.ok scDraw (fun vs H Q E h => ?_) (fun cdv A outer s H vs Q E hr h => ⟨?t, ?d, ?r⟩)
  · obtain ⟨p, n, rfl, _⟩ := h
    rfl
  case d =>
    have nd := scDraw.nd
    have isk : IsK K := ⟨trivial⟩
    walk_at "gd ss"
  case r =>
    obtain ⟨p, n, rfl, ⟨a, b, hp, ha, hb0, hb1⟩, hn0, hn1, k⟩ := h
    refine ⟨_, rfl, ix0 hp ⟨a, 0, rfl, rfl, _, rfl, ite2 (fun c => ?_) (fun c => ?_)⟩⟩
    · refine ⟨_, rfl, ix0 hp ⟨_, rfl, a, n, rfl, ⟨hn0, by omega⟩, fun t ht => ?_⟩⟩
      have tp : t ≠ p := ne_of_none' hp ht
      refine ⟨t, _, rfl, SqT.of upd_same, rfl, _, _, rfl, _, rfl, p, _, 0, 0, rfl, rfl, (upd_ne (Ne.symm tp)).trans hp, rfl, _, _, rfl, rfl, _, rfl, ?_⟩
      refine k (a % n) _ (Int.emod_nonneg _ (by omega)) (Int.emod_lt_of_pos _ hn0) ⟨fun c o nc hc => ?_, a / n, b, upd_same, Int.ediv_nonneg ha (by omega), hb0, hb1⟩
      rw [upd_ne nc, upd_ne (ne_of_none hc ht)]
      exact hc
    · refine ⟨_, rfl, ix1 hp (.inl ⟨b, 40009, rfl, rfl, mulW (by omega) (by decide), .inl ⟨_, 15013, rfl, rfl, .inl ⟨_, rfl, _, 2147483587, rfl, rfl, (by show (0 : Int) < _; decide), ?_⟩⟩⟩)⟩
      refine ⟨_, rfl, p, _, 1, 1, rfl, rfl, hp, rfl, ?_⟩
      have m0 : 0 ≤ (b * 40009 + 15013) % 2147483587 := Int.emod_nonneg _ (by decide)
      have m1 : (b * 40009 + 15013) % 2147483587 < 2147483587 := Int.emod_lt_of_pos _ (by decide)
      refine ⟨_, rfl, ix1 upd_same ⟨_, rfl, ix1 upd_same (.inl ⟨_, _, rfl, rfl, mulW (by omega) (by omega), .inl ⟨_, rfl, _, 2147483549, rfl, rfl, (by show (0 : Int) < _; decide), _, 13, rfl, rfl, divW (by decide) (by decide), .inl ⟨_, rfl, _, rfl, _, n, rfl, rfl, hn0, ?_⟩⟩⟩)⟩⟩
      exact k _ _ (Int.emod_nonneg _ (by omega)) (Int.emod_lt_of_pos _ hn0) (Kp.put ha m0 (by omega))
theorem ok_pick (fr : Frees mg) (D1 : Dn P w K mg base CX0 1 "_law_draw" ["_law_pot_here", "_law_sides"] spDraw) (F : Fun K "_law_pick" "_law_pick" sPick f fd) : FnOk P w K mg base CX0 2 f fd ["_law_pot_here", "_law_some"] (spPick K) := by
  refine F.ok scPick (fun vs H Q E h => ?_) (fun cdv A outer s H vs Q E hr h => ⟨?t, ?d, ?r⟩)
  · obtain ⟨p, l, xs, rfl, _⟩ := h
    rfl
  case d =>
    have nd := scPick.nd
    have isk : IsK K := ⟨trivial⟩
    walk_at "gd ss"
  case r =>
    obtain ⟨p, l, xs, rfl, hp, ne, hl, h0, h1, k⟩ := h
    have pos : 0 < xs.length := List.length_pos_iff.mpr h0
    refine ⟨_, rfl, _, rfl, _, rfl, .inl ⟨l, xs, rfl, .inl hl, p, xs.length, rfl, hp, by omega, by omega, fun d H' d0 d1 kp => ?_⟩⟩
    have hd : d.toNat < xs.length := by omega
    refine .inl ⟨l, xs, d, xs[d.toNat], rfl, rfl, kp.seq ne hl, ?_, k _ _ (List.getElem_mem _) kp⟩
    exact atI_int d0 (List.getElem?_eq_getElem hd)
theorem cube {z : Int} (h0 : 0 ≤ z) (h1 : z ≤ 300) : (z ^ 3).natAbs < 2 ^ 80 := by
  rw [Int.natAbs_pow]
  exact Nat.lt_of_le_of_lt (Nat.pow_le_pow_left (show z.natAbs ≤ 300 by omega) 3) (by decide)
theorem ok_pot (fr : Frees mg) (F : Fun K "_law_pot" "_law_pot" sPot f fd) : FnOk P w K mg base CX0 1 f fd ["_law_script", "_law_k"] (spPot K) := by
  refine F.ok scPot (fun vs H Q E h => ?_) (fun cdv A outer s H vs Q E hr h => ⟨?t, ?d, ?r⟩)
  · obtain ⟨a, ns, k, rfl, _⟩ := h
    rfl
  case d =>
    have nd := scPot.nd
    have isk : IsK K := ⟨trivial⟩
    walk_at "gd ss"
  case r =>
    obtain ⟨a, ns, k, rfl, hs, k0, k1, q⟩ := h
    have tail : ∀ (c : Int) (p : Addr), H p = none → Q (.ref p) (upd H p (.lst [.int (if c - 10 ^ (18 : Int).toNat > 0 then c - 10 ^ (18 : Int).toNat else 0), .int ((c % 2147483549 + 3) * (2 * k + 5) ^ (3 : Int).toNat % 2147483477 + 1)])) := by
      intro c p hp
      have m0 := Int.emod_nonneg ((c % 2147483549 + 3) * (2 * k + 5) ^ (3 : Int).toNat) (b := 2147483477) (by decide)
      have m1 := Int.emod_lt_of_pos ((c % 2147483549 + 3) * (2 * k + 5) ^ (3 : Int).toNat) (b := 2147483477) (by decide)
      refine q p _ hp (fun b o e => by rw [upd_ne (ne_of_none e hp)]; exact e) ⟨_, _, upd_same, ?_, by omega, by omega⟩
      split <;> omega
    have rest : ∀ c : Int, CMulW (c % 2147483549 + 3) ((2 * k + 5) ^ (3 : Int).toNat) := fun c => by
      have m0 := Int.emod_nonneg c (b := 2147483549) (by decide)
      have m1 := Int.emod_lt_of_pos c (b := 2147483549) (by decide)
      exact mulW (by omega) (cube (by omega) (by omega))
    refine ⟨_, rfl, .inl ⟨13, k, rfl, rfl, mulW (by decide) (by omega), .inl ⟨_, 7, rfl, rfl, _, rfl, _, rfl, .inl ⟨a, _, rfl, .inl hs, k, _, rfl, rfl, _, rfl, ite2 (fun c => ?_) (fun c => ?_)⟩⟩⟩⟩
    · have hk : k.toNat < ns.length := by
        have c' := of_decide_eq_true c
        rw [List.length_map] at c'
        omega
      refine ⟨_, rfl, _, rfl, .inl ⟨a, _, k, .int (ns[k.toNat]), rfl, rfl, hs, ?_, _, rfl, ?_⟩⟩
      · exact atI_int k0 (by rw [List.getElem?_map, List.getElem?_eq_getElem hk]; rfl)
      · refine ⟨_, rfl, 10, 18, rfl, rfl, ⟨by decide, by decide, by decide⟩, _, _, rfl, rfl, 0, _, rfl, _, rfl, .inl ⟨_, rfl, _, 2147483549, rfl, rfl, (by show (0 : Int) < _; decide), .inl ⟨_, 3, rfl, rfl, .inl ⟨_, rfl, _, rfl, .inl ⟨2, k, rfl, rfl, mulW (by decide) (by omega), .inl ⟨_, 5, rfl, rfl, _, 3, rfl, rfl, ⟨by decide, by decide, by omega⟩, .inl ⟨_, _, rfl, rfl, rest _, _, 2147483477, rfl, rfl, (by show (0 : Int) < _; decide), .inl ⟨_, 1, rfl, rfl, (by show 2 ≤ sizeLine; decide), fun p hp => tail _ p hp⟩⟩⟩⟩⟩⟩⟩⟩
    · refine ⟨_, rfl, 10, 18, rfl, rfl, ⟨by decide, by decide, by decide⟩, _, _, rfl, rfl, 0, _, rfl, _, rfl, .inl ⟨_, rfl, _, 2147483549, rfl, rfl, (by show (0 : Int) < _; decide), .inl ⟨_, 3, rfl, rfl, .inl ⟨_, rfl, _, rfl, .inl ⟨2, k, rfl, rfl, mulW (by decide) (by omega), .inl ⟨_, 5, rfl, rfl, _, 3, rfl, rfl, ⟨by decide, by decide, by omega⟩, .inl ⟨_, _, rfl, rfl, rest _, _, 2147483477, rfl, rfl, (by show (0 : Int) < _; decide), .inl ⟨_, 1, rfl, rfl, (by show 2 ≤ sizeLine; decide), fun p hp => tail _ p hp⟩⟩⟩⟩⟩⟩⟩⟩
end
end K10

set_option Elab.async false
set_option linter.all false
set_option maxRecDepth 100000
set_option maxHeartbeats 4000000
namespace K10
open PySem PySem.Spec L2 Gd

/-! ### derivations by the text's shape -/
local macro_rules | `(tactic| walk_at "gd nd") => `(tactic| assumption)
local macro_rules | `(tactic| walk_at "gd lo") => `(tactic| first | exact Or.inl rfl | exact Or.inr rfl)
local macro_rules | `(tactic| walk_at "gd var") => `(tactic| first | exact pv 0 | exact pv 1 | exact pv 2 | exact pv 3 | exact pv 4 | exact pv 5 | exact pv 6 | exact pv 7 | exact pv 8 | exact pv 9 | exact pv 10 | exact pv 11 | exact pv 12 | exact pv 13 | exact pe_glob rfl (by assumption) rfl | exact pe_glob rfl (Globs.h (by assumption) _ (by decide +kernel)) rfl | exact pe_bltn rfl (Frees.h (by assumption) _ (by decide +kernel)) (by decide +kernel) rfl)
local macro_rules | `(tactic| walk_at "gd a") => `(tactic| first | exact pa_nil | (refine' pa_cons ?k1 ?k2; (case k1 => walk_at "gd e"); (case k2 => walk_at "gd a")))
local macro_rules | `(tactic| walk_at "gd blt") => `(tactic| first
  | ((with_reducible show PE _ (Expr.Call (Expr.Name "abs" _) _ _ _) _); refine' pe_callB call_abs rfl (Frees.h (by assumption) _ (by decide +kernel)) (by decide +kernel) ?k1; (case k1 => walk_at "gd a"))
  | ((with_reducible show PE _ (Expr.Call (Expr.Name "max" _) _ _ _) _); refine' pe_callB (call_max2 rfl) rfl (Frees.h (by assumption) _ (by decide +kernel)) (by decide +kernel) ?k1; (case k1 => walk_at "gd a"))
  | ((with_reducible show PE _ (Expr.Call (Expr.Name "min" _) _ _ _) _); refine' pe_callB (call_min2 rfl) rfl (Frees.h (by assumption) _ (by decide +kernel)) (by decide +kernel) ?k1; (case k1 => walk_at "gd a"))
  | ((with_reducible show PE _ (Expr.Call (Expr.Name "len" _) _ _ _) _); refine' pe_callB (lenK (by assumption)) rfl (Frees.h (by assumption) _ (by decide +kernel)) (by decide +kernel) ?k1; (case k1 => walk_at "gd a"))
  | ((with_reducible show PE _ (Expr.Call (Expr.Name "divmod" _) _ _ _) _); refine' pe_callB call_divmod rfl (Frees.h (by assumption) _ (by decide +kernel)) (by decide +kernel) ?k1; (case k1 => walk_at "gd a"))
  | ((with_reducible show PE _ (Expr.Call (Expr.Name "all" _) _ _ _) _); refine' pe_callB (allK (by assumption) rfl) rfl (Frees.h (by assumption) _ (by decide +kernel)) (by decide +kernel) ?k1; (case k1 => walk_at "gd a"))
  | ((with_reducible show PE _ (Expr.Call (Expr.Name "isinstance" _) _ _ _) _); refine' pe_callB (isXK (by assumption)) rfl (Frees.h (by assumption) _ (by decide +kernel)) (by decide +kernel) ?k1; (case k1 => walk_at "gd a"))
  | ((with_reducible show PE _ (Expr.Call (Expr.Name "repr" _) _ _ _) _); refine' pe_callB (call_repr (by assumption) (by assumption)) rfl (Frees.h (by assumption) _ (by decide +kernel)) (by decide +kernel) ?k1; (case k1 => walk_at "gd a"))
  | ((with_reducible show PE _ (Expr.Call (Expr.Name "int" _) _ _ _) _); refine' pe_callTy call_int1 rfl (Frees.h (by assumption) _ (by decide +kernel)) (by decide +kernel) ?k1; (case k1 => walk_at "gd a"))
  | ((with_reducible show PE _ (Expr.Call (Expr.Name "tuple" _) _ _ _) _); refine' pe_callTy (tupK (by assumption)) rfl (Frees.h (by assumption) _ (by decide +kernel)) (by decide +kernel) ?k1; (case k1 => walk_at "gd a")))
local macro_rules | `(tactic| walk_at "gd call") => `(tactic| first
  | walk_at "gd blt"
  | (refine' pe_dn (by assumption) (by assumption) rfl (by decide) ?k1; (case k1 => walk_at "gd a"))
  | (refine' pe_dnG (by assumption) (by assumption) (by assumption) rfl (by decide) ?k1; (case k1 => walk_at "gd a"))
  | walk_at "gd own")
local macro_rules | `(tactic| walk_at "gd own") => `(tactic| fail)
local macro_rules | `(tactic| walk_at "gd it") => `(tactic| fail)
local macro_rules | `(tactic| walk_at "gd i") => `(tactic| first
  | ((with_reducible show PI _ _ (Expr.Call (Expr.Name "range" _) [_] _ _) _); refine' pi_range1 rfl (Frees.h (by assumption) _ (by decide +kernel)) ?k1; (case k1 => walk_at "gd a"))
  | walk_at "gd it")
local macro_rules | `(tactic| walk_at "gd cv") => `(tactic| fail)
local macro_rules | `(tactic| walk_at "gd lc") => `(tactic| walk_at "gd cv")
local macro_rules | `(tactic| walk_at "gd e") => `(tactic| first
  | ((with_reducible show PE _ (Expr.Constant _ _ _) _); first | exact pe_int | exact pe_str | exact pe_bl | exact pe_non)
  | ((with_reducible show PE _ (Expr.Name _ _) _); walk_at "gd var")
  | ((with_reducible show PE _ (Expr.BinOp _ Operator.Add _ _) _); refine' pe_op op_addA ?k1 ?k2; (case k1 => walk_at "gd e"); (case k2 => walk_at "gd e"))
  | ((with_reducible show PE _ (Expr.BinOp _ Operator.Sub _ _) _); refine' pe_op op_sub ?k1 ?k2; (case k1 => walk_at "gd e"); (case k2 => walk_at "gd e"))
  | ((with_reducible show PE _ (Expr.BinOp _ Operator.Mult _ _) _); refine' pe_op op_mulA ?k1 ?k2; (case k1 => walk_at "gd e"); (case k2 => walk_at "gd e"))
  | ((with_reducible show PE _ (Expr.BinOp _ Operator.Mod _ _) _); refine' pe_op op_mod ?k1 ?k2; (case k1 => walk_at "gd e"); (case k2 => walk_at "gd e"))
  | ((with_reducible show PE _ (Expr.BinOp _ Operator.FloorDiv _ _) _); refine' pe_op op_fdivW ?k1 ?k2; (case k1 => walk_at "gd e"); (case k2 => walk_at "gd e"))
  | ((with_reducible show PE _ (Expr.BinOp _ Operator.Pow _ _) _); refine' pe_op op_pow ?k1 ?k2; (case k1 => walk_at "gd e"); (case k2 => walk_at "gd e"))
  | ((with_reducible show PE _ (Expr.UnaryOp UnaryOp.USub _ _) _); refine' pe_un un_neg ?k1; (case k1 => walk_at "gd e"))
  | ((with_reducible show PE _ (Expr.UnaryOp UnaryOp.Not _ _) _); refine' pe_not ?k1; (case k1 => walk_at "gd e"))
  | ((with_reducible show PE _ (Expr.Compare _ [CmpOp.Lt] _ _) _); refine' pe_cmpR op_lt ?k1 ?k2 (by rfl); (case k1 => walk_at "gd e"); (case k2 => walk_at "gd e"))
  | ((with_reducible show PE _ (Expr.Compare _ [CmpOp.LtE] _ _) _); refine' pe_cmpR op_le ?k1 ?k2 (by rfl); (case k1 => walk_at "gd e"); (case k2 => walk_at "gd e"))
  | ((with_reducible show PE _ (Expr.Compare _ [CmpOp.Gt] _ _) _); refine' pe_cmpR op_gt ?k1 ?k2 (by rfl); (case k1 => walk_at "gd e"); (case k2 => walk_at "gd e"))
  | ((with_reducible show PE _ (Expr.Compare _ [CmpOp.GtE] _ _) _); refine' pe_cmpR op_ge ?k1 ?k2 (by rfl); (case k1 => walk_at "gd e"); (case k2 => walk_at "gd e"))
  | ((with_reducible show PE _ (Expr.Compare _ [CmpOp.Eq] _ _) _); refine' pe_cmpR (eqK (by assumption) (by assumption)) ?k1 ?k2 (by rfl); (case k1 => walk_at "gd e"); (case k2 => walk_at "gd e"))
  | ((with_reducible show PE _ (Expr.Compare _ [CmpOp.NotEq] _ _) _); refine' pe_cmpR (neK (by assumption) (by assumption)) ?k1 ?k2 (by rfl); (case k1 => walk_at "gd e"); (case k2 => walk_at "gd e"))
  | ((with_reducible show PE _ (Expr.Compare _ [CmpOp.In] _ _) _); refine' pe_cmpR (inK (by assumption)) ?k1 ?k2 (by rfl); (case k1 => walk_at "gd e"); (case k2 => walk_at "gd e"))
  | ((with_reducible show PE _ (Expr.Compare _ [CmpOp.NotIn] _ _) _); refine' pe_cmpR (niK (by assumption)) ?k1 ?k2 (by rfl); (case k1 => walk_at "gd e"); (case k2 => walk_at "gd e"))
  | ((with_reducible show PE _ (Expr.IfExp _ _ _ _) _); refine' pe_ifExp ?k1 ?k2 ?k3; (case k1 => walk_at "gd t"); (case k2 => walk_at "gd e"); (case k3 => walk_at "gd e"))
  | ((with_reducible show PE _ (Expr.Subscript _ (Expr.Slice none (some _) none _) _) _); refine' pe_slice sl_str ?k1 po_none (po_some ?k2); (case k1 => walk_at "gd e"); (case k2 => walk_at "gd e"))
  | ((with_reducible show PE _ (Expr.Subscript _ _ _) _); refine' pe_ix (ixK (by assumption)) ?k1 ?k2 (fun _ _ => rfl); (case k1 => walk_at "gd e"); (case k2 => walk_at "gd e"))
  | ((with_reducible show PE _ (Expr.List _ _) _); refine' pe_lst ?k1; (case k1 => walk_at "gd a"))
  | ((with_reducible show PE _ (Expr.Tuple _ _ _) _); refine' pe_tup ?k1; (case k1 => walk_at "gd a"))
  | ((with_reducible show PE _ (Expr.Dict [] [] _) _); exact pe_dnewK)
  | ((with_reducible show PE _ (Expr.Dict [_] [_] _) _); refine' pe_disp (pps_cons ?k1 ?k2 pps_nil) rfl rfl (fun z => by cases z) (by decide); (case k1 => walk_at "gd e"); (case k2 => walk_at "gd e"))
  | ((with_reducible show PE _ (Expr.Call (Expr.Attribute _ "join" _) _ _ _) _); refine' joinK (by assumption) ?k1 ?k2; (case k1 => walk_at "gd e"); (case k2 => walk_at "gd e"))
  | ((with_reducible show PE _ (Expr.Call (Expr.Attribute _ "append" _) _ _ _) _); refine' pe_bm PySem.F.plainAttrs_list PySem.F.slot_list_append PySem.F.type_list_append mt_append ?k1 ?k2; (case k1 => walk_at "gd e"); (case k2 => walk_at "gd a"))
  | ((with_reducible show PE _ (Expr.Attribute _ _ _) _); refine' efK (by assumption) ?k1; (case k1 => walk_at "gd e"))
  | ((with_reducible show PE _ (Expr.ListComp _ _ _ _) _); walk_at "gd lc")
  | walk_at "gd call")
local macro_rules | `(tactic| walk_at "gd t") => `(tactic| first
  | ((with_reducible show PT _ (Expr.UnaryOp UnaryOp.Not _ _) _); refine' pt_not ?k1; (case k1 => walk_at "gd t"))
  | ((with_reducible show PT _ (Expr.BoolOp BoolOp.And [_, _] _) _); refine' PW.pt (pw_and ?k1 (pw_and1 ?k2)); (case k1 => walk_at "gd t"); (case k2 => walk_at "gd t"))
  | ((with_reducible show PT _ (Expr.BoolOp BoolOp.Or [_, _] _) _); refine' PW.pt (pw_or ?k1 (pw_or1 ?k2)); (case k1 => walk_at "gd t"); (case k2 => walk_at "gd t"))
  | ((with_reducible show PT _ (Expr.Compare _ [CmpOp.Lt] _ _) _); refine' pt_cmpR op_lt ?k1 ?k2 (by rfl); (case k1 => walk_at "gd e"); (case k2 => walk_at "gd e"))
  | ((with_reducible show PT _ (Expr.Compare _ [CmpOp.LtE] _ _) _); refine' pt_cmpR op_le ?k1 ?k2 (by rfl); (case k1 => walk_at "gd e"); (case k2 => walk_at "gd e"))
  | ((with_reducible show PT _ (Expr.Compare _ [CmpOp.Gt] _ _) _); refine' pt_cmpR op_gt ?k1 ?k2 (by rfl); (case k1 => walk_at "gd e"); (case k2 => walk_at "gd e"))
  | ((with_reducible show PT _ (Expr.Compare _ [CmpOp.GtE] _ _) _); refine' pt_cmpR op_ge ?k1 ?k2 (by rfl); (case k1 => walk_at "gd e"); (case k2 => walk_at "gd e"))
  | ((with_reducible show PT _ (Expr.Compare _ [CmpOp.Eq] _ _) _); refine' pt_cmpR (eqK (by assumption) (by assumption)) ?k1 ?k2 (by rfl); (case k1 => walk_at "gd e"); (case k2 => walk_at "gd e"))
  | ((with_reducible show PT _ (Expr.Compare _ [CmpOp.NotEq] _ _) _); refine' pt_cmpR (neK (by assumption) (by assumption)) ?k1 ?k2 (by rfl); (case k1 => walk_at "gd e"); (case k2 => walk_at "gd e"))
  | ((with_reducible show PT _ (Expr.Compare _ [CmpOp.In] _ _) _); refine' pt_cmpR (inK (by assumption)) ?k1 ?k2 (by rfl); (case k1 => walk_at "gd e"); (case k2 => walk_at "gd e"))
  | ((with_reducible show PT _ (Expr.Compare _ [CmpOp.NotIn] _ _) _); refine' pt_cmpR (niK (by assumption)) ?k1 ?k2 (by rfl); (case k1 => walk_at "gd e"); (case k2 => walk_at "gd e"))
  | (refine' pt_val ?k1; (case k1 => walk_at "gd e")))
local macro_rules | `(tactic| walk_at "gd g") => `(tactic| first
  | ((with_reducible show PG _ (Expr.Name _ _) _); first | exact pg_name (i := 0) (by walk_at "gd nd") rfl (by walk_at "gd lo") | exact pg_name (i := 1) (by walk_at "gd nd") rfl (by walk_at "gd lo") | exact pg_name (i := 2) (by walk_at "gd nd") rfl (by walk_at "gd lo") | exact pg_name (i := 3) (by walk_at "gd nd") rfl (by walk_at "gd lo") | exact pg_name (i := 4) (by walk_at "gd nd") rfl (by walk_at "gd lo") | exact pg_name (i := 5) (by walk_at "gd nd") rfl (by walk_at "gd lo") | exact pg_name (i := 6) (by walk_at "gd nd") rfl (by walk_at "gd lo") | exact pg_name (i := 7) (by walk_at "gd nd") rfl (by walk_at "gd lo") | exact pg_name (i := 8) (by walk_at "gd nd") rfl (by walk_at "gd lo") | exact pg_name (i := 9) (by walk_at "gd nd") rfl (by walk_at "gd lo") | exact pg_name (i := 10) (by walk_at "gd nd") rfl (by walk_at "gd lo") | exact pg_name (i := 11) (by walk_at "gd nd") rfl (by walk_at "gd lo") | exact pg_name (i := 12) (by walk_at "gd nd") rfl (by walk_at "gd lo") | exact pg_name (i := 13) (by walk_at "gd nd") rfl (by walk_at "gd lo"))
  | ((with_reducible show PG _ (Expr.Subscript _ _ _) _); refine' pg_sub ?k1 ?k2 set_list; (case k1 => walk_at "gd e"); (case k2 => walk_at "gd e"))
  | ((with_reducible show PG _ (Expr.Tuple _ _ _) _); refine' pg_tup rfl ?k1; (case k1 => walk_at "gd gs")))
local macro_rules | `(tactic| walk_at "gd gs") => `(tactic| first | exact pgs_nil | (refine' pgs_cons ?k1 ?k2; (case k1 => walk_at "gd g"); (case k2 => walk_at "gd gs")))
local macro_rules | `(tactic| walk_at "gd set") => `(tactic| first | (refine' ps_set (i := 0) (by walk_at "gd nd") rfl (by walk_at "gd lo") ?k1; (case k1 => walk_at "gd e")) | (refine' ps_set (i := 1) (by walk_at "gd nd") rfl (by walk_at "gd lo") ?k1; (case k1 => walk_at "gd e")) | (refine' ps_set (i := 2) (by walk_at "gd nd") rfl (by walk_at "gd lo") ?k1; (case k1 => walk_at "gd e")) | (refine' ps_set (i := 3) (by walk_at "gd nd") rfl (by walk_at "gd lo") ?k1; (case k1 => walk_at "gd e")) | (refine' ps_set (i := 4) (by walk_at "gd nd") rfl (by walk_at "gd lo") ?k1; (case k1 => walk_at "gd e")) | (refine' ps_set (i := 5) (by walk_at "gd nd") rfl (by walk_at "gd lo") ?k1; (case k1 => walk_at "gd e")) | (refine' ps_set (i := 6) (by walk_at "gd nd") rfl (by walk_at "gd lo") ?k1; (case k1 => walk_at "gd e")) | (refine' ps_set (i := 7) (by walk_at "gd nd") rfl (by walk_at "gd lo") ?k1; (case k1 => walk_at "gd e")) | (refine' ps_set (i := 8) (by walk_at "gd nd") rfl (by walk_at "gd lo") ?k1; (case k1 => walk_at "gd e")) | (refine' ps_set (i := 9) (by walk_at "gd nd") rfl (by walk_at "gd lo") ?k1; (case k1 => walk_at "gd e")) | (refine' ps_set (i := 10) (by walk_at "gd nd") rfl (by walk_at "gd lo") ?k1; (case k1 => walk_at "gd e")) | (refine' ps_set (i := 11) (by walk_at "gd nd") rfl (by walk_at "gd lo") ?k1; (case k1 => walk_at "gd e")) | (refine' ps_set (i := 12) (by walk_at "gd nd") rfl (by walk_at "gd lo") ?k1; (case k1 => walk_at "gd e")) | (refine' ps_set (i := 13) (by walk_at "gd nd") rfl (by walk_at "gd lo") ?k1; (case k1 => walk_at "gd e")))
local macro_rules | `(tactic| walk_at "gd os") => `(tactic| fail)
local macro_rules | `(tactic| walk_at "gd slc") => `(tactic| fail)
local macro_rules | `(tactic| walk_at "gd par") => `(tactic| fail)
local macro_rules | `(tactic| walk_at "gd s") => `(tactic| first
  | ((with_reducible show PS _ (Stmt.Return (some _) _) _); refine' ps_ret ?k1; (case k1 => walk_at "gd e"))
  | ((with_reducible show PS _ (Stmt.If _ _ _ _) _); refine' ps_if ?k1 ?k2 ?k3; (case k1 => walk_at "gd t"); (case k2 => walk_at "gd ss"); (case k3 => walk_at "gd ss"))
  | ((with_reducible show PS _ (Stmt.Assign [Expr.Name _ _] (Expr.ListComp _ _ _ _) _) _); walk_at "gd slc")
  | ((with_reducible show PS _ (Stmt.Assign [Expr.Name _ _] _ _) _); walk_at "gd set")
  | ((with_reducible show PS _ (Stmt.Assign [_] _ _) _); refine' ps_asg ?k1 ?k2; (case k1 => walk_at "gd e"); (case k2 => walk_at "gd g"))
  | ((with_reducible show PS _ (Stmt.Assign [_] _ _) _); walk_at "gd par")
  | ((with_reducible show PS _ (Stmt.For _ _ _ _ _) _); refine' ps_for PassesOwn.never rfl ?k1 ?k2 ?k3; (case k1 => walk_at "gd i"); (case k2 => walk_at "gd g"); (case k3 => walk_at "gd ss"))
  | ((with_reducible show PS _ (Stmt.Expr _ _) _); refine' ps_expr ?k1; (case k1 => walk_at "gd e"))
  | walk_at "gd os")
local macro_rules | `(tactic| walk_at "gd ss") => `(tactic| first | exact pss_nil | (refine' pss_one ?k1; (case k1 => walk_at "gd s")) | (refine' pss_cons ?k1 ?k2; (case k1 => walk_at "gd s"); (case k2 => walk_at "gd ss")))
abbrev sNamed : Stmt := top 44
abbrev nNamed : List Str := ["_law_pot_here", "_law_size", "_law_taken", "_law_signs", "_law_found", "_law_turn", "_law_label", "_law_spare", "_law_step", "_law_letter", "_law_near"]
theorem scNamed : FnScope nNamed ["_law_pot_here", "_law_size", "_law_taken"] (defScope sNamed) := ⟨rfl, rfl, rfl, by decide +kernel, rfl, by decide +kernel, by decide +kernel⟩
local macro_rules | `(tactic| walk_at "gd cv") => `(tactic| ((with_reducible show PE _ (Expr.ListComp _ [⟨Expr.Name "_law_step" _, _, _, _⟩] _ _) _); refine' pe_lc (own := [("_law_step", 8)]) (g := gName 8) (tt := tYes) rfl (by assumption) ?k1 (blkOk_by (N := nNamed) (sc := defScope sNamed) (by decide +kernel)) (fun _ _ _ _ _ => pg_name (i := 8) (by assumption) rfl (Or.inl rfl)) (fun _ _ _ _ _ => pts_nil) (fun _ _ _ _ _ => ?k2); (case k1 => walk_at "gd i"); (case k2 => walk_at "gd e")))
local macro_rules | `(tactic| walk_at "gd cv") => `(tactic| ((with_reducible show PE _ (Expr.ListComp _ [⟨Expr.Name "_law_letter" _, _, _, _⟩] _ _) _); refine' pe_lc (own := [("_law_letter", 9)]) (g := gName 9) (tt := tYes) rfl (by assumption) ?k1 (blkOk_by (N := nNamed) (sc := defScope sNamed) (by decide +kernel)) (fun _ _ _ _ _ => pg_name (i := 9) (by assumption) rfl (Or.inl rfl)) (fun _ _ _ _ _ => pts_nil) (fun _ _ _ _ _ => ?k2); (case k1 => (refine' pi_str ?k3; (case k3 => walk_at "gd e"))); (case k2 => walk_at "gd e")))
local macro_rules | `(tactic| walk_at "gd cv") => `(tactic| ((with_reducible show PE _ (Expr.ListComp _ [⟨Expr.Name "_law_near" _, _, _, _⟩] _ _) _); refine' pe_lc (own := [("_law_near", 10)]) (g := gName 10) rfl (by assumption) ?k1 (blkOk_by (N := nNamed) (sc := defScope sNamed) (by decide +kernel)) (fun _ _ _ _ _ => pg_name (i := 10) (by assumption) rfl (Or.inl rfl)) (fun _ _ _ _ _ => pts_one ?k4) (fun _ _ _ _ _ => ?k2); (case k1 => (refine' listK (by assumption) ?k3; (case k3 => walk_at "gd e"))); (case k4 => walk_at "gd t"); (case k2 => walk_at "gd e")))
local macro_rules | `(tactic| walk_at "gd ss") => `(tactic| first | exact pss_nil | (refine' pss_one ?k1; (case k1 => walk_at "gd s")) | ((with_reducible show PSs _ (Stmt.If _ _ _ _ :: _) _); refine' C8.pss_cut ?k1 ?k2; (case k1 => walk_at "gd s"); (case k2 => walk_at "gd ss")) | (refine' pss_cons ?k1 ?k2; (case k1 => walk_at "gd s"); (case k2 => walk_at "gd ss")))
section
variable {P : Program} {w : World} {K : W.Frag} {mg : Str → Option Value} {base : Heap} {f : Addr} {fd : FuncData}
theorem sm_app {n m : Nat} {x y : Str} (hx : Sm n x) (hy : Sm m y) : Sm (n + m) (x ++ y) := by
  refine ⟨by rw [strLen_append]; have := hx.1; have := hy.1; omega, fun c hc => ?_⟩
  have e : (x ++ y).cps.toList = x.cps.toList ++ y.cps.toList := TL.tl_append x y
  rw [e] at hc
  exact (List.mem_append.mp hc).elim (hx.2 c) (hy.2 c)
theorem sm_more {n m : Nat} {x : Str} (h : Sm n x) (l : n ≤ m) : Sm m x := ⟨Nat.le_trans h.1 l, h.2⟩
theorem sm_join : ∀ ys : List Str, (∀ y ∈ ys, Sm 1 y) → Sm ys.length (Str.join (Str.ofString "") ys)
  | [], _ => ⟨by decide, by decide⟩
  | [x], h => h x List.mem_cons_self
  | x :: z :: r, h => by
    have a := sm_app (sm_app (h x List.mem_cons_self) (show Sm 0 (Str.ofString "") from ⟨by decide, by decide⟩)) (sm_join (z :: r) fun y hy => h y (List.mem_cons_of_mem _ hy))
    have e : 1 + 0 + (z :: r).length = (x :: z :: r).length := by simp only [List.length_cons]; omega
    rw [e] at a
    exact a
theorem sum_one : ∀ ys : List Str, (∀ y ∈ ys, Sm 1 y) → (ys.map (·.length)).sum ≤ ys.length
  | [], _ => Nat.le_refl _
  | x :: r, h => by
    have a := (h x List.mem_cons_self).1
    have b := sum_one r fun y hy => h y (List.mem_cons_of_mem _ hy)
    simp only [List.map_cons, List.sum_cons, List.length_cons]
    omega
/-- the 36 signs -/
def sg : Str := "abcdefghijklmnopqrstuvwxyz0123456789"
theorem sg_sm {i : Int} {c : Nat} (h : atI sg.cps.toList i = some c) : Sm 1 ⟨#[c]⟩ := by
  have m : c ∈ sg.cps.toList := by
    unfold atI at h
    obtain ⟨j, _, hj⟩ := Option.bind_eq_some_iff.mp h
    exact List.mem_of_getElem? hj
  have all : ∀ c ∈ sg.cps.toList, c < 1000 := by decide +kernel
  refine ⟨by show 1 ≤ 1; decide, fun d hd => ?_⟩
  have e : d = c := by simpa using hd
  rw [e]
  exact all c m
theorem sg_at {i : Int} (h0 : 0 ≤ i) (h1 : i < 36) : ∃ c, atI sg.cps.toList i = some c := by
  have l : sg.cps.toList.length = 36 := by decide +kernel
  have hi : i.toNat < sg.cps.toList.length := by omega
  exact ⟨_, atI_int h0 (List.getElem?_eq_getElem hi)⟩
theorem ok_named (fr : Frees mg) (D1 : Dn P w K mg base CX0 1 "_law_draw" ["_law_pot_here", "_law_sides"] spDraw) (D2 : Dn P w K mg base CX0 2 "_law_pick" ["_law_pot_here", "_law_some"] (spPick K)) (F : Fun K "_law_named" "_law_named" sNamed f fd) :
    FnOk P w K mg base CX0 3 f fd ["_law_pot_here", "_law_size", "_law_taken"] (spNamed K) := by
  refine F.ok scNamed (fun vs H Q E h => ?_) (fun cdv A outer s H vs Q E hr h => ⟨?t, ?d, ?r⟩)
  · obtain ⟨p, t, rfl, _⟩ := h
    rfl
  case d =>
    have nd := scNamed.nd
    have isk : IsK K := ⟨trivial⟩
    walk_at "gd ss"
  case r =>
    obtain ⟨p, t, rfl, hp, nt, ht, q⟩ := h
    refine ⟨Nat.zero_le _, fun fo hfo => ⟨(by show 2 ≤ sizeLine; decide), fun tp htp => ⟨tp, _, rfl, SqT.of upd_same, rfl, _, _, rfl, _, _, rfl, rfl, ?_⟩⟩⟩
    have nfo : fo ≠ p := ne_pot hp hfo
    have k1 := (Kp.new (o := .lst []) hp hfo).trans (Kp.new (o := .tup [.str sg, .ref fo]) (hp.new hfo) htp)
    have f1 : upd (upd H fo (.lst [])) tp (.tup [.str sg, .ref fo]) fo = some (.lst []) := by
      rw [upd_ne (ne_of_none upd_same htp)]
      exact upd_same
    have t1 := k1.seq nt ht
    refine ⟨_, rfl, 1, rfl, by decide, by decide, for_range (lo := 0) (n := 1) (fun i σ H' => (i = 0 ∧ σ = ((L2.start nNamed [V.ref p, V.int 1, V.ref t]).set 3 (some (V.str sg))).set 4 (some (V.ref fo)) ∧ H' = upd (upd H fo (.lst [])) tp (.tup [.str sg, .ref fo])) ∨ (i = 1 ∧ ∃ x, Sm 8 x ∧ σ[4]? = some (some (.ref fo)) ∧ H' fo = some (.lst [.str x]) ∧ Kp p H H')) (.inl ⟨rfl, rfl, rfl⟩) ?_ ?_⟩
    rotate_left
    · rintro σ H' (⟨z, _⟩ | ⟨_, x, sx, s4, hfo', kp⟩)
      · cases z
      · exact ⟨_, s4, q fo x H' hfo' sx kp⟩
    rintro i σ H' hi (⟨rfl, rfl, rfl⟩ | ⟨rfl, _⟩)
    rotate_left
    · exact absurd hi (by decide)
    generalize upd (upd H fo (.lst [])) tp (.tup [.str sg, .ref fo]) = H1 at k1 f1 t1 ⊢
    refine ⟨_, rfl, (by show 8 ≤ sizeLine; decide), fun l hl => ⟨p, l, _, rfl, k1.pot.new hl, ne_pot k1.pot hl, SqL.of upd_same, (fun z => by cases z), (by show 8 ≤ 1000000; decide), fun x H2 hx kp2 => ?_⟩⟩
    have k2 := k1.trans ((Kp.new k1.pot hl).trans kp2)
    have f2 : H2 fo = some (.lst []) := kp2.at nfo (by rw [upd_ne (ne_of_none f1 hl)]; exact f1)
    have lab : ∃ z, x = .str z ∧ Sm 8 z := by
      have one : ∀ z : String, (Str.ofString z).length ≤ 8 → ((Str.ofString z).cps.toList.all (· < 1000)) = true → Sm 8 (Str.ofString z) := fun z a b => ⟨a, fun c hc => of_decide_eq_true (List.all_eq_true.mp b c hc)⟩
      simp only [List.mem_cons, List.not_mem_nil, or_false] at hx
      rcases hx with rfl | rfl | rfl | rfl | rfl | rfl | rfl | rfl <;> exact ⟨_, rfl, one _ (by decide +kernel) (by decide +kernel)⟩
    obtain ⟨z, rfl, sz⟩ := lab
    clear hx
    refine ⟨fun σ H' => ∃ y, Sm 8 y ∧ σ = ((((L2.start nNamed [V.ref p, V.int 1, V.ref t]).set 3 (some (V.str sg))).set 4 (some (V.ref fo))).set 5 (some (.int 0))).set 6 (some (.str y)) ∧ H' fo = some (.lst []) ∧ Kp p H H', ?_, ?_⟩
    · refine ⟨_, rfl, p, 8, rfl, k2.pot, by decide, by decide, fun d H3 d0 d1 kp3 => ⟨d, 0, rfl, rfl, _, rfl, ite2 (fun _ => ?_) (fun _ => ?_)⟩⟩
      rotate_left
      · exact ⟨z, sz, rfl, kp3.at nfo f2, k2.trans kp3⟩
      have k3 := k2.trans kp3
      have f3 := kp3.at nfo f2
      clear kp3 kp2 d0 d1
      refine ⟨_, rfl, _, rfl, p, 26, rfl, k3.pot, by decide, by decide, fun e H4 e0 e1 kp4 => ?_⟩
      obtain ⟨c, hc⟩ := sg_at (i := e) e0 (by omega)
      refine .inr (.inr ⟨sg, e, c, rfl, rfl, by decide +kernel, hc, ?_⟩)
      have sc := sg_sm hc
      have k4 := k3.trans kp4
      have f4 := kp4.at nfo f3
      clear kp4 e0 e1
      refine ⟨_, rfl, ⟨_, rfl⟩, _, rfl, (by show 5 ≤ sizeLine; decide), fun m hm => ⟨p, m, _, rfl, k4.pot.new hm, ne_pot k4.pot hm, SqL.of upd_same, (fun z => by cases z), (by show 5 ≤ 1000000; decide), fun y H5 hy kp5 => ?_⟩⟩
      have num : ∃ n : Int, y = .int n ∧ 0 ≤ n ∧ n ≤ 7 := by
        simp only [List.mem_cons, List.not_mem_nil, or_false] at hy
        rcases hy with rfl | rfl | rfl | rfl | rfl <;> exact ⟨_, rfl, by decide, by decide⟩
      obtain ⟨n, rfl, n0, n7⟩ := num
      have k5 := k4.trans ((Kp.new k4.pot hm).trans kp5)
      have f5 : H5 fo = some (.lst []) := kp5.at nfo (by rw [upd_ne (ne_of_none f4 hm)]; exact f4)
      clear hy kp5
      refine ⟨n, rfl, by omega, by omega, fun D hD => ?_⟩
      have nDp := ne_pot k5.pot hD
      have nfD := ne_of_none f5 hD
      refine lc_range (lo := 0) (n := n.toNat) (fun i H' => ∃ ys : List Str, ys.length = i ∧ (∀ y ∈ ys, Sm 1 y) ∧ H' D = some (.lst (ys.map V.str)) ∧ H' fo = some (.lst []) ∧ Kp p H H') ?_ ?_ ?_
      · exact ⟨[], rfl, fun _ h => (nomatch h), upd_same, by rw [upd_ne (ne_of_none f5 hD)]; exact f5, k5.trans (Kp.new k5.pot hD)⟩
      · rintro i H6 hi ⟨ys, ly, sy, hD6, f6, k6⟩
        refine ⟨rfl, _, rfl, _, rfl, p, 36, rfl, k6.pot, by decide, by decide, fun e H7 e0 e1 kp7 => ?_⟩
        obtain ⟨c, hc⟩ := sg_at (i := e) e0 e1
        refine .inr (.inr ⟨sg, e, c, rfl, rfl, by decide +kernel, hc, ?_⟩)
        have h7 := kp7.at nDp hD6
        have f7 := kp7.at nfo f6
        have k7 := k6.trans kp7
        refine ⟨_, h7, ?_, ys ++ [⟨#[c]⟩], by simp [ly], ?_, ?_, ?_, ?_⟩
        · rw [List.length_map, ly]
          show i < sizeLine
          have : (7 : Nat) < sizeLine := by decide
          omega
        · intro y hy
          rcases List.mem_append.mp hy with h | h
          · exact sy y h
          · rw [List.mem_singleton.mp h]
            exact sg_sm hc
        · rw [upd_same, List.map_append]
          rfl
        · rw [upd_ne nfD]
          exact f7
        · exact k7.over nDp (k5.gone nDp hD)
      · rintro H6 ⟨ys, ly, sy, hD6, f6, k6⟩
        have sj := sm_join ys sy
        have bl := sum_one ys sy
        refine ⟨_, D, ys, rfl, rfl, .inl (SqL.of hD6), ?_, .inr (.inl ⟨_, _, rfl, rfl, ?_, ?_⟩)⟩
        · have e0 : (Str.ofString "").length = 0 := by decide
          rw [e0]
          omega
        · have l1 : (Str.length ⟨#[c]⟩) = 1 := rfl
          have l2 : (Txt.join (Str.ofString "") ys).length ≤ ys.length := by rw [TL.join_eq]; exact sj.1
          have : (8 : Nat) < sizeLine := by decide
          omega
        · refine ⟨_, ?_, rfl, f6, k6⟩
          rw [TL.join_eq]
          exact sm_more (sm_app sc sj) (by omega)
    · rintro σ H3 ⟨y, sy, rfl, f3, k3⟩
      refine ⟨_, rfl, (by show 1 ≤ sizeLine; decide), fun a ha => ⟨_, rfl, sg, rfl, fun D hD => ?_⟩⟩
      have ka := k3.trans (Kp.new (o := .lst [.str y]) k3.pot ha)
      have aa : upd H3 a (.lst [.str y]) a = some (.lst [.str y]) := upd_same
      have fA : upd H3 a (.lst [.str y]) fo = some (.lst []) := by rw [upd_ne (ne_of_none f3 ha)]; exact f3
      generalize upd H3 a (HO.lst [.str y]) = Ha at hD ka aa fA ⊢
      have nDp := ne_pot ka.pot hD
      have nfD := ne_of_none fA hD
      have naD := ne_of_none aa hD
      have n36 : sg.cps.size = 36 := by decide +kernel
      have big : (1000 : Nat) < sizeLine := by decide
      refine lc_it walk_str (fun i H' => ∃ xs : List V, xs.length = i ∧ (∀ x ∈ xs, ∃ z, x = .str z) ∧ H' D = some (.lst xs) ∧ H' a = some (.lst [.str y]) ∧ H' fo = some (.lst []) ∧ Kp p H H') ?_ (fun _ _ _ _ => trivial) ?_ ?_
      · exact ⟨[], rfl, fun _ h => (nomatch h), upd_same, by rw [upd_ne naD]; exact aa, by rw [upd_ne nfD]; exact fA, ka.over nDp (ka.gone nDp hD)⟩
      · rintro i v H4 H4' hi ⟨xs, lx, ax, hD4, a4, f4, k4⟩ ⟨rfl, c, hc, rfl⟩
        have lc := cutS_length y none (some 6)
        have ly := sy.1
        have l1 : (Str.length ⟨#[c]⟩) = 1 := rfl
        have l2 : (Str.ofString "z").length = 1 := rfl
        refine ⟨rfl, _, rfl, 6, rfl, y, rfl, by omega, _, rfl, .inr (.inl ⟨_, _, rfl, rfl, by omega, .inr (.inl ⟨_, _, rfl, rfl, ?_, xs, hD4, ?_, xs ++ [_], ?_, ?_, upd_same, ?_, ?_, ?_⟩)⟩)⟩
        · rw [strLen_append]
          omega
        · omega
        · simp [lx]
        · intro x hx
          rcases List.mem_append.mp hx with h | h
          · exact ax x h
          · exact ⟨_, List.mem_singleton.mp h⟩
        · rw [upd_ne naD]; exact a4
        · rw [upd_ne nfD]; exact f4
        · exact k4.over nDp (ka.gone nDp hD)
      rintro H4 ⟨xs, lx, ax, hD4, a4, f4, k4⟩
      refine .inr (.inr ⟨a, D, _, xs, rfl, rfl, a4, hD4, (by show 1 + xs.length ≤ sizeLine; omega), fun m hm => ?_⟩)
      have km := k4.trans (Kp.new (o := .lst ([V.str y] ++ xs)) k4.pot hm)
      have mm : upd H4 m (.lst ([V.str y] ++ xs)) m = some (.lst (.str y :: xs)) := upd_same
      have fm : upd H4 m (.lst ([V.str y] ++ xs)) fo = some (.lst []) := by rw [upd_ne (ne_of_none f4 hm)]; exact f4
      generalize upd H4 m (HO.lst ([V.str y] ++ xs)) = Hm at km mm fm ⊢
      refine ⟨_, rfl, .inl ⟨rfl, _, SqL.of fm⟩, _, rfl, m, rfl, ⟨_, SqL.of mm⟩, fun D2 hD2 => ?_⟩
      have nDp2 := ne_pot km.pot hD2
      have nfD2 := ne_of_none fm hD2
      have nmD2 := ne_of_none mm hD2
      refine lc_list (xs := .str y :: xs) (fun i H' => H' D2 = some (.lst ((V.str y :: xs).take i)) ∧ H' m = some (.lst (.str y :: xs)) ∧ H' fo = some (.lst []) ∧ Kp p H H') ?_ (fun i H' _ h => SqL.of h.2.1) ?_ ?_
      · exact ⟨upd_same, by rw [upd_ne nmD2]; exact mm, by rw [upd_ne nfD2]; exact fm, km.over nDp2 (km.gone nDp2 hD2)⟩
      · rintro i x H5 hx ⟨d5, m5, f5, k5⟩
        obtain ⟨u, rfl⟩ : ∃ u, x = .str u := by
          rcases List.mem_cons.mp (List.mem_of_getElem? hx) with h | h
          · exact ⟨_, h⟩
          · exact ax x h
        have hi : i < xs.length + 1 := (List.getElem?_eq_some_iff.mp hx).1
        refine ⟨rfl, _, rfl, _, rfl, fo, [], rfl, .inl (SqL.of f5), rfl, rfl, true, rfl, ?_⟩
        refine ⟨_, rfl, _, rfl, t, [], rfl, .inl (k5.seq nt ht), rfl, rfl, true, rfl, ?_⟩
        refine ⟨_, rfl, _, d5, ?_, ?_, ?_, ?_, ?_⟩
        · rw [List.length_take]
          omega
        · rw [upd_same, List.take_add_one, hx]
          rfl
        · rw [upd_ne nmD2]; exact m5
        · rw [upd_ne nfD2]; exact f5
        · exact k5.over nDp2 (km.gone nDp2 hD2)
      rintro H5 ⟨d5, m5, f5, k5⟩
      rw [List.take_length] at d5
      refine .inl ⟨D2, _, 0, .str y, rfl, rfl, SqL.of d5, atI_int (by decide) rfl, fo, [], _, rfl, rfl, f5, by decide, .inr ⟨rfl, y, sy, rfl, upd_same, ?_⟩⟩
      exact k5.over nfo hfo
end
end K10

set_option Elab.async false
set_option linter.all false
set_option maxRecDepth 100000
set_option maxHeartbeats 4000000
/-! New data of bounded size. -/
namespace Gd
open PySem PySem.Spec PyProof.Rows L2
def bdT (k : Nat) : Nat := 250 * 4 ^ k
theorem bdT_pos (k : Nat) : 250 ≤ bdT k := by
  have : 0 < 4 ^ k := Nat.pow_pos (by decide)
  unfold bdT
  omega
theorem bdT_succ (k : Nat) : bdT (k + 1) = 4 * bdT k := by
  unfold bdT
  rw [Nat.pow_succ]
  omega
/-- at H' x is data of depth k, made of what was not there at H -/
def Fr (H H' : Hp) (k : Nat) (x : V) : Prop := ∃ as t, Rp H' as (2 * k + 1) x t ∧ t.length ≤ bdT k ∧ ∀ b ∈ as, H b = none ∧ ∃ o, H' b = some o
/-- so are all of xs -/
def Frs (H H' : Hp) (k : Nat) (xs : List V) : Prop := ∃ as, ∃ ts : List Str, ts.length = xs.length ∧ (∀ (i : Nat) (x : V) (t : Str), xs[i]? = some x → ts[i]? = some t → Rp H' as (2 * k + 1) x t) ∧ piled ts ≤ xs.length * (bdT k + 2) ∧ ∀ b ∈ as, H b = none ∧ ∃ o, H' b = some o
/-- nothing went -/
def Dom (H H' : Hp) : Prop := ∀ b, H' b = none → H b = none
theorem Kp.dom {p : Addr} {H H' : Hp} (k : Kp p H H') : Dom H H' := by
  intro b hb
  by_cases e : b = p
  · subst e
    obtain ⟨o, z⟩ := k.2.there
    rw [z] at hb
    cases hb
  · exact k.gone e hb
theorem Dom.trans {H H1 H2 : Hp} (a : Dom H H1) (b : Dom H1 H2) : Dom H H2 := fun c h => a c (b c h)
theorem Dom.upd {H : Hp} {a : Addr} {o : HO} : Dom H (upd H a o) := by
  intro b hb
  by_cases e : b = a
  · subst e
    rw [upd_same] at hb
    cases hb
  · rwa [upd_ne e] at hb
section
variable {H H0 H' H2 : Hp} {k : Nat} {x : V} {xs : List V} {p : Addr}
theorem Fr.flat {t : Str} (r : ∀ d, Rp H' [] d x t) (l : t.length ≤ 250) : Fr H H' k x := ⟨[], t, r _, Nat.le_trans l (bdT_pos k), fun _ h => nomatch h⟩
theorem Fr.int {n : Int} (h : n.natAbs < 2 ^ 200) : Fr H H' k (.int n) := by
  have l : n.natAbs.log2 < 200 := by
    by_cases z : n.natAbs = 0
    · rw [z]
      decide
    · exact (Nat.log2_lt z).mpr h
  refine .flat (fun d => .int n (by omega)) ?_
  have e := int_text_length_le (a := n) (k := 200) (by decide) l
  have e2 : (Str.ofString (toString n)).length = (toString n).length := PySem.ofString_length _
  show (Str.ofString (toString n)).length ≤ 250
  omega
theorem Fr.str {z : Str} {n : Nat} (h : Sm n z) (hn : n ≤ 20) : Fr H H' k (.str z) := by
  have l := h.repr
  have b : (1000 : Nat) < sizeLine := by decide
  exact .flat (fun d => .str z (by omega)) (by omega)
/-- what was there at H stands on -/
theorem Fr.on (f : Fr H H' k x) (s : ∀ b o, H b = none → H' b = some o → H2 b = some o) : Fr H H2 k x := by
  obtain ⟨as, t, r, l, n⟩ := f
  refine ⟨as, t, r.keep fun b hb o ho => s b o (n b hb).1 ho, l, fun b hb => ⟨(n b hb).1, ?_⟩⟩
  obtain ⟨o, ho⟩ := (n b hb).2
  exact ⟨o, s b o (n b hb).1 ho⟩
theorem Frs.on (f : Frs H H' k xs) (s : ∀ b o, H b = none → H' b = some o → H2 b = some o) : Frs H H2 k xs := by
  obtain ⟨as, ts, e, r, l, n⟩ := f
  refine ⟨as, ts, e, fun i x t h1 h2 => (r i x t h1 h2).keep fun b hb o ho => s b o (n b hb).1 ho, l, fun b hb => ⟨(n b hb).1, ?_⟩⟩
  obtain ⟨o, ho⟩ := (n b hb).2
  exact ⟨o, s b o (n b hb).1 ho⟩
theorem Fr.ahead (f : Fr H H' k x) (d : Dom H0 H) : Fr H0 H' k x := by
  obtain ⟨as, t, r, l, n⟩ := f
  exact ⟨as, t, r, l, fun b hb => ⟨d b (n b hb).1, (n b hb).2⟩⟩
theorem Frs.ahead (f : Frs H H' k xs) (d : Dom H0 H) : Frs H0 H' k xs := by
  obtain ⟨as, t, e, r, l, n⟩ := f
  exact ⟨as, t, e, r, l, fun b hb => ⟨d b (n b hb).1, (n b hb).2⟩⟩
theorem Fr.kp (f : Fr H H' k x) (kp : Kp p H' H2) (hp : Pot H p) : Fr H H2 k x := f.on fun b o e h => kp.1 b o (fun z => by
  obtain ⟨u, hu⟩ := hp.there
  rw [← z, e] at hu
  cases hu) h
theorem Frs.kp (f : Frs H H' k xs) (kp : Kp p H' H2) (hp : Pot H p) : Frs H H2 k xs := f.on fun b o e h => kp.1 b o (fun z => by
  obtain ⟨u, hu⟩ := hp.there
  rw [← z, e] at hu
  cases hu) h
theorem Frs.put {a : Addr} {o u : HO} (f : Frs H H' k xs) (h : H a = some u) : Frs H (upd H' a o) k xs := f.on fun b w e hb => by
  rw [upd_ne (fun z => by rw [z, h] at e; cases e)]
  exact hb
theorem Fr.put {a : Addr} {o u : HO} (f : Fr H H' k x) (h : H a = some u) : Fr H (upd H' a o) k x := f.on fun b w e hb => by
  rw [upd_ne (fun z => by rw [z, h] at e; cases e)]
  exact hb
theorem Fr.new {a : Addr} {o : HO} (f : Fr H H' k x) (h : H' a = none) : Fr H (upd H' a o) k x := f.on fun b w e hb => by
  rw [upd_ne (ne_of_none hb h)]
  exact hb
theorem Frs.nil : Frs H H' k [] := ⟨[], [], rfl, fun i x t h _ => (by simp at h), Nat.zero_le _, fun _ h => nomatch h⟩
theorem Frs.snoc (f : Frs H H' k xs) (g : Fr H H' k x) : Frs H H' k (xs ++ [x]) := by
  obtain ⟨as, ts, e, r, l, n⟩ := f
  obtain ⟨bs, t, r1, l1, n1⟩ := g
  refine ⟨as ++ bs, ts ++ [t], by simp [e], fun i y u h1 h2 => ?_, ?_, fun b hb => (List.mem_append.mp hb).elim (n b) (n1 b)⟩
  · by_cases c : i < xs.length
    · rw [List.getElem?_append_left c] at h1
      rw [List.getElem?_append_left (by omega)] at h2
      exact (r i y u h1 h2).more fun b hb => List.mem_append_left _ hb
    · rw [List.getElem?_append_right (by omega)] at h1
      rw [List.getElem?_append_right (by omega)] at h2
      have c1 := (List.getElem?_eq_some_iff.mp h1).1
      have c0 : i - xs.length = 0 := by simp at c1; omega
      rw [c0] at h1
      rw [show i - ts.length = 0 by omega] at h2
      cases h1
      cases h2
      exact r1.more fun b hb => List.mem_append_right _ hb
  · rw [piled_append, List.length_append, Nat.add_mul]
    have : piled [t] = t.length + 2 := by simp [piled]
    simp only [List.length_singleton, Nat.one_mul]
    omega
theorem listText_le : ∀ ts : List Str, (listText ts).length ≤ piled ts + 2
  | [] => by decide
  | t :: r => by
    have h := textFrom_length_pos r 1 (("[" : Str) ++ (if (0 : Nat) > 0 then ", " else "" : String) ++ t) (Nat.succ_pos 0)
    have e : (listText (t :: r)).length = (textFrom 1 (("[" : Str) ++ (if (0 : Nat) > 0 then ", " else "" : String) ++ t) r).length + 1 := strLen_append _ _
    have e2 : (("[" : Str) ++ (if (0 : Nat) > 0 then ", " else "" : String) ++ t).length = 1 + t.length := by
      rw [strLen_append, strLen_append]
      rfl
    rw [e, h, e2, piled_cons]
    omega
theorem tupleText_le (ts : List Str) : (tupleText ts).length ≤ piled ts + 3 := by
  unfold tupleText
  rw [strLen_append, strLen_append]
  have e1 : ((("(" : String) : Str)).length = 1 := rfl
  have e3 : (((if ts.length == 1 then ",)" else ")" : String) : Str)).length ≤ 2 := by split <;> decide
  by_cases z : ts = []
  · subst z
    have : (Str.join (", " : String) ([] : List Str)).length = 0 := rfl
    omega
  · have := join_length_add ts z
    omega
theorem Frs.bound {k : Nat} {n : Nat} (hn : n ≤ 3) : n * (bdT k + 2) + 20 ≤ bdT (k + 1) := by
  rw [bdT_succ]
  have := bdT_pos k
  have : n * (bdT k + 2) ≤ 3 * (bdT k + 2) := Nat.mul_le_mul_right _ hn
  omega
theorem Frs.list {a : Addr} (f : Frs H H' k xs) (n3 : xs.length ≤ 3) (h : H' a = some (.lst xs)) (d : Dom H0 H) (h0 : H0 a = none) {u : HO} (ha : H a = some u) : Fr H0 H' (k + 1) (.ref a) := by
  obtain ⟨as, ts, e, r, l, n⟩ := f
  refine ⟨a :: as, _, (Rp.lst (as0 := as) h (fun z => by rw [(n a z).1] at ha; cases ha) (fun _ h => h) e r).deep _ (by omega), ?_, fun b hb => ?_⟩
  · have := listText_le ts
    have := Frs.bound (k := k) n3
    omega
  · rcases List.mem_cons.mp hb with rfl | hb
    · exact ⟨h0, _, h⟩
    · exact ⟨d b (n b hb).1, (n b hb).2⟩
theorem Frs.tuple {a : Addr} (f : Frs H H' k xs) (n3 : xs.length ≤ 3) (h : H' a = none) (d : Dom H0 H') (d' : Dom H0 H) : Fr H0 (upd H' a (.tup xs)) (k + 1) (.ref a) := by
  obtain ⟨as, ts, e, r, l, n⟩ := f
  have r' : ∀ (i : Nat) (x : V) (t : Str), xs[i]? = some x → ts[i]? = some t → Rp (upd H' a (.tup xs)) as (2 * k + 1) x t := fun i x t h1 h2 => (r i x t h1 h2).keep fun b _ o hb => by rw [upd_ne (ne_of_none hb h)]; exact hb
  have na : a ∉ as := fun z => by
    obtain ⟨o, ho⟩ := (n a z).2
    rw [h] at ho
    cases ho
  refine ⟨a :: as, _, (Rp.tup (as0 := as) upd_same na (fun _ h => h) e r').deep _ (by omega), ?_, fun b hb => ?_⟩
  · have := tupleText_le ts
    have := Frs.bound (k := k) n3
    omega
  · rcases List.mem_cons.mp hb with rfl | hb
    · exact ⟨d _ h, _, upd_same⟩
    · obtain ⟨o, ho⟩ := (n b hb).2
      exact ⟨d' b (n b hb).1, o, by rw [upd_ne (ne_of_none ho h)]; exact ho⟩
/-- {"a": xs} -/
theorem Frs.dict {a c : Addr} (f : Frs H H' k xs) (n3 : xs.length ≤ 3) (h : H' a = some (.lst xs)) (d' : Dom H0 H) (h0 : H0 a = none) {u : HO} (ha : H a = some u) (hc : H' c = none) (d : Dom H0 H') (H3 : Hp) (hs : ∀ b o, H' b = some o → H3 b = some o)
    (h3 : H3 c = some (.dK [(.inr "a", .ref a)])) : Fr H0 H3 (k + 1) (.ref c) := by
  obtain ⟨as, ts, e, r, l, n⟩ := f
  have r' : ∀ (i : Nat) (x : V) (t : Str), xs[i]? = some x → ts[i]? = some t → Rp H3 as (2 * k + 1) x t := fun i x t h1 h2 => (r i x t h1 h2).keep fun b _ o hb => hs b o hb
  have na : a ∉ as := fun z => by
    rw [(n a z).1] at ha
    cases ha
  have in1 := Rp.lst (as := a :: as) (as0 := as) (hs a _ h) na (fun _ h => h) e r'
  have nc : c ∉ a :: as := fun z => by
    rcases List.mem_cons.mp z with rfl | z
    · rw [h] at hc; cases hc
    · obtain ⟨o, ho⟩ := (n c z).2
      rw [hc] at ho
      cases ho
  have sa : Sm 1 "a" := ⟨by decide, by decide⟩
  have la := sa.repr
  have big : (1000 : Nat) < sizeLine := by decide
  refine ⟨c :: a :: as, _, Rp.dic (as0 := a :: as) (ps := [(reprText "a", listText ts)]) h3 nc (fun _ h => h) rfl (fun i q p h1 h2 => ?_) (fun i q p h1 h2 => ?_), ?_, fun b hb => ?_⟩
  · cases i with
    | zero => cases h1; cases h2; exact .str _ (by omega)
    | succ i => simp at h1
  · cases i with
    | zero => cases h1; cases h2; exact in1
    | succ i => simp at h1
  · have := listText_le ts
    have := Frs.bound (k := k) n3
    have e : (dictText [reprText "a" ++ ": " ++ listText ts]).length = 1 + ((reprText "a").length + 2 + (listText ts).length) + 1 := by
      unfold dictText
      rw [strLen_append, strLen_append]
      show 1 + (reprText "a" ++ ": " ++ listText ts).length + 1 = _
      rw [strLen_append, strLen_append]
      rfl
    show (dictText [reprText "a" ++ ": " ++ listText ts]).length ≤ _
    omega
  · rcases List.mem_cons.mp hb with rfl | hb
    · exact ⟨d _ hc, _, h3⟩
    · rcases List.mem_cons.mp hb with rfl | hb
      · exact ⟨h0, _, hs _ _ h⟩
      · obtain ⟨o, ho⟩ := (n b hb).2
        exact ⟨d' b (n b hb).1, o, hs _ _ ho⟩
theorem Fr.emptyT {a : Addr} (h : H' a = some (.tup [])) (h0 : H a = none) : Fr H H' k (.ref a) :=
  ⟨[a], _, Rp.tup (as0 := []) (ts := []) h (by simp) (fun _ h => h) rfl (fun i x t h _ => by simp at h), Nat.le_trans (show _ ≤ 250 by decide) (bdT_pos k), fun b hb => by rw [List.mem_singleton.mp hb]; exact ⟨h0, _, h⟩⟩
theorem Fr.emptyL {a : Addr} (h : H' a = some (.lst [])) (h0 : H a = none) : Fr H H' k (.ref a) :=
  ⟨[a], _, Rp.lst (as0 := []) (ts := []) h (by simp) (fun _ h => h) rfl (fun i x t h _ => by simp at h), Nat.le_trans (show _ ≤ 250 by decide) (bdT_pos k), fun b hb => by rw [List.mem_singleton.mp hb]; exact ⟨h0, _, h⟩⟩
theorem Fr.emptyD {a : Addr} (h : H' a = some (.dK [])) (h0 : H a = none) : Fr H H' k (.ref a) :=
  ⟨[a], _, Rp.dic (as0 := []) (ps := []) h (by simp) (fun _ h => h) rfl (fun i x t h _ => by simp at h) (fun i x t h _ => by simp at h), Nat.le_trans (show _ ≤ 250 by decide) (bdT_pos k), fun b hb => by rw [List.mem_singleton.mp hb]; exact ⟨h0, _, h⟩⟩
end
end Gd

set_option Elab.async false
set_option linter.all false
set_option maxRecDepth 100000
set_option maxHeartbeats 4000000
namespace K10
open PySem PySem.Spec L2 Gd

/-! ### derivations by the text's shape -/
local macro_rules | `(tactic| walk_at "gd nd") => `(tactic| assumption)
local macro_rules | `(tactic| walk_at "gd lo") => `(tactic| first | exact Or.inl rfl | exact Or.inr rfl)
local macro_rules | `(tactic| walk_at "gd var") => `(tactic| first | exact pv 0 | exact pv 1 | exact pv 2 | exact pv 3 | exact pv 4 | exact pv 5 | exact pv 6 | exact pv 7 | exact pv 8 | exact pv 9 | exact pv 10 | exact pv 11 | exact pv 12 | exact pv 13 | exact pe_glob rfl (by assumption) rfl | exact pe_glob rfl (Globs.h (by assumption) _ (by decide +kernel)) rfl | exact pe_bltn rfl (Frees.h (by assumption) _ (by decide +kernel)) (by decide +kernel) rfl)
local macro_rules | `(tactic| walk_at "gd a") => `(tactic| first | exact pa_nil | (refine' pa_cons ?k1 ?k2; (case k1 => walk_at "gd e"); (case k2 => walk_at "gd a")))
local macro_rules | `(tactic| walk_at "gd blt") => `(tactic| first
  | ((with_reducible show PE _ (Expr.Call (Expr.Name "abs" _) _ _ _) _); refine' pe_callB call_abs rfl (Frees.h (by assumption) _ (by decide +kernel)) (by decide +kernel) ?k1; (case k1 => walk_at "gd a"))
  | ((with_reducible show PE _ (Expr.Call (Expr.Name "max" _) _ _ _) _); refine' pe_callB (call_max2 rfl) rfl (Frees.h (by assumption) _ (by decide +kernel)) (by decide +kernel) ?k1; (case k1 => walk_at "gd a"))
  | ((with_reducible show PE _ (Expr.Call (Expr.Name "min" _) _ _ _) _); refine' pe_callB (call_min2 rfl) rfl (Frees.h (by assumption) _ (by decide +kernel)) (by decide +kernel) ?k1; (case k1 => walk_at "gd a"))
  | ((with_reducible show PE _ (Expr.Call (Expr.Name "len" _) _ _ _) _); refine' pe_callB (lenK (by assumption)) rfl (Frees.h (by assumption) _ (by decide +kernel)) (by decide +kernel) ?k1; (case k1 => walk_at "gd a"))
  | ((with_reducible show PE _ (Expr.Call (Expr.Name "divmod" _) _ _ _) _); refine' pe_callB call_divmod rfl (Frees.h (by assumption) _ (by decide +kernel)) (by decide +kernel) ?k1; (case k1 => walk_at "gd a"))
  | ((with_reducible show PE _ (Expr.Call (Expr.Name "all" _) _ _ _) _); refine' pe_callB (allK (by assumption) rfl) rfl (Frees.h (by assumption) _ (by decide +kernel)) (by decide +kernel) ?k1; (case k1 => walk_at "gd a"))
  | ((with_reducible show PE _ (Expr.Call (Expr.Name "isinstance" _) _ _ _) _); refine' pe_callB (isXK (by assumption)) rfl (Frees.h (by assumption) _ (by decide +kernel)) (by decide +kernel) ?k1; (case k1 => walk_at "gd a"))
  | ((with_reducible show PE _ (Expr.Call (Expr.Name "repr" _) _ _ _) _); refine' pe_callB (call_repr (by assumption) (by assumption)) rfl (Frees.h (by assumption) _ (by decide +kernel)) (by decide +kernel) ?k1; (case k1 => walk_at "gd a"))
  | ((with_reducible show PE _ (Expr.Call (Expr.Name "int" _) _ _ _) _); refine' pe_callTy call_int1 rfl (Frees.h (by assumption) _ (by decide +kernel)) (by decide +kernel) ?k1; (case k1 => walk_at "gd a"))
  | ((with_reducible show PE _ (Expr.Call (Expr.Name "tuple" _) _ _ _) _); refine' pe_callTy (tupK (by assumption)) rfl (Frees.h (by assumption) _ (by decide +kernel)) (by decide +kernel) ?k1; (case k1 => walk_at "gd a")))
local macro_rules | `(tactic| walk_at "gd call") => `(tactic| first
  | walk_at "gd blt"
  | (refine' pe_dn (by assumption) (by assumption) rfl (by first | decide | omega) ?k1; (case k1 => walk_at "gd a"))
  | (refine' pe_dnG (by assumption) (by assumption) (by assumption) rfl (by first | decide | omega) ?k1; (case k1 => walk_at "gd a"))
  | walk_at "gd own")
local macro_rules | `(tactic| walk_at "gd own") => `(tactic| fail)
local macro_rules | `(tactic| walk_at "gd it") => `(tactic| fail)
local macro_rules | `(tactic| walk_at "gd i") => `(tactic| first
  | ((with_reducible show PI _ _ (Expr.Call (Expr.Name "range" _) [_] _ _) _); refine' pi_range1 rfl (Frees.h (by assumption) _ (by decide +kernel)) ?k1; (case k1 => walk_at "gd a"))
  | walk_at "gd it")
local macro_rules | `(tactic| walk_at "gd cv") => `(tactic| fail)
local macro_rules | `(tactic| walk_at "gd lc") => `(tactic| walk_at "gd cv")
local macro_rules | `(tactic| walk_at "gd e") => `(tactic| first
  | ((with_reducible show PE _ (Expr.Constant _ _ _) _); first | exact pe_int | exact pe_str | exact pe_bl | exact pe_non)
  | ((with_reducible show PE _ (Expr.Name _ _) _); walk_at "gd var")
  | ((with_reducible show PE _ (Expr.BinOp _ Operator.Add _ _) _); refine' pe_op op_addA ?k1 ?k2; (case k1 => walk_at "gd e"); (case k2 => walk_at "gd e"))
  | ((with_reducible show PE _ (Expr.BinOp _ Operator.Sub _ _) _); refine' pe_op op_sub ?k1 ?k2; (case k1 => walk_at "gd e"); (case k2 => walk_at "gd e"))
  | ((with_reducible show PE _ (Expr.BinOp _ Operator.Mult _ _) _); refine' pe_op op_mulA ?k1 ?k2; (case k1 => walk_at "gd e"); (case k2 => walk_at "gd e"))
  | ((with_reducible show PE _ (Expr.BinOp _ Operator.Mod _ _) _); refine' pe_op op_mod ?k1 ?k2; (case k1 => walk_at "gd e"); (case k2 => walk_at "gd e"))
  | ((with_reducible show PE _ (Expr.BinOp _ Operator.FloorDiv _ _) _); refine' pe_op op_fdivW ?k1 ?k2; (case k1 => walk_at "gd e"); (case k2 => walk_at "gd e"))
  | ((with_reducible show PE _ (Expr.BinOp _ Operator.Pow _ _) _); refine' pe_op op_pow ?k1 ?k2; (case k1 => walk_at "gd e"); (case k2 => walk_at "gd e"))
  | ((with_reducible show PE _ (Expr.UnaryOp UnaryOp.USub _ _) _); refine' pe_un un_neg ?k1; (case k1 => walk_at "gd e"))
  | ((with_reducible show PE _ (Expr.UnaryOp UnaryOp.Not _ _) _); refine' pe_not ?k1; (case k1 => walk_at "gd e"))
  | ((with_reducible show PE _ (Expr.Compare _ [CmpOp.Lt] _ _) _); refine' pe_cmpR op_lt ?k1 ?k2 (by rfl); (case k1 => walk_at "gd e"); (case k2 => walk_at "gd e"))
  | ((with_reducible show PE _ (Expr.Compare _ [CmpOp.LtE] _ _) _); refine' pe_cmpR op_le ?k1 ?k2 (by rfl); (case k1 => walk_at "gd e"); (case k2 => walk_at "gd e"))
  | ((with_reducible show PE _ (Expr.Compare _ [CmpOp.Gt] _ _) _); refine' pe_cmpR op_gt ?k1 ?k2 (by rfl); (case k1 => walk_at "gd e"); (case k2 => walk_at "gd e"))
  | ((with_reducible show PE _ (Expr.Compare _ [CmpOp.GtE] _ _) _); refine' pe_cmpR op_ge ?k1 ?k2 (by rfl); (case k1 => walk_at "gd e"); (case k2 => walk_at "gd e"))
  | ((with_reducible show PE _ (Expr.Compare _ [CmpOp.Eq] _ _) _); refine' pe_cmpR (eqK (by assumption) (by assumption)) ?k1 ?k2 (by rfl); (case k1 => walk_at "gd e"); (case k2 => walk_at "gd e"))
  | ((with_reducible show PE _ (Expr.Compare _ [CmpOp.NotEq] _ _) _); refine' pe_cmpR (neK (by assumption) (by assumption)) ?k1 ?k2 (by rfl); (case k1 => walk_at "gd e"); (case k2 => walk_at "gd e"))
  | ((with_reducible show PE _ (Expr.Compare _ [CmpOp.In] _ _) _); refine' pe_cmpR (inK (by assumption)) ?k1 ?k2 (by rfl); (case k1 => walk_at "gd e"); (case k2 => walk_at "gd e"))
  | ((with_reducible show PE _ (Expr.Compare _ [CmpOp.NotIn] _ _) _); refine' pe_cmpR (niK (by assumption)) ?k1 ?k2 (by rfl); (case k1 => walk_at "gd e"); (case k2 => walk_at "gd e"))
  | ((with_reducible show PE _ (Expr.IfExp _ _ _ _) _); refine' pe_ifExp ?k1 ?k2 ?k3; (case k1 => walk_at "gd t"); (case k2 => walk_at "gd e"); (case k3 => walk_at "gd e"))
  | ((with_reducible show PE _ (Expr.Subscript _ (Expr.Slice none (some _) none _) _) _); refine' pe_slice sl_str ?k1 po_none (po_some ?k2); (case k1 => walk_at "gd e"); (case k2 => walk_at "gd e"))
  | ((with_reducible show PE _ (Expr.Subscript _ _ _) _); refine' pe_ix (ixK (by assumption)) ?k1 ?k2 (fun _ _ => rfl); (case k1 => walk_at "gd e"); (case k2 => walk_at "gd e"))
  | ((with_reducible show PE _ (Expr.List _ _) _); refine' pe_lst ?k1; (case k1 => walk_at "gd a"))
  | ((with_reducible show PE _ (Expr.Tuple _ _ _) _); refine' pe_tup ?k1; (case k1 => walk_at "gd a"))
  | ((with_reducible show PE _ (Expr.Dict [] [] _) _); exact pe_dnewK)
  | ((with_reducible show PE _ (Expr.Dict [_] [_] _) _); refine' pe_disp (pps_cons ?k1 ?k2 pps_nil) rfl rfl (fun z => by cases z) (by decide); (case k1 => walk_at "gd e"); (case k2 => walk_at "gd e"))
  | ((with_reducible show PE _ (Expr.Call (Expr.Attribute _ "join" _) _ _ _) _); refine' joinK (by assumption) ?k1 ?k2; (case k1 => walk_at "gd e"); (case k2 => walk_at "gd e"))
  | ((with_reducible show PE _ (Expr.Call (Expr.Attribute _ "append" _) _ _ _) _); refine' pe_bm PySem.F.plainAttrs_list PySem.F.slot_list_append PySem.F.type_list_append mt_append ?k1 ?k2; (case k1 => walk_at "gd e"); (case k2 => walk_at "gd a"))
  | ((with_reducible show PE _ (Expr.Attribute _ _ _) _); refine' efK (by assumption) ?k1; (case k1 => walk_at "gd e"))
  | ((with_reducible show PE _ (Expr.ListComp _ _ _ _) _); walk_at "gd lc")
  | walk_at "gd call")
local macro_rules | `(tactic| walk_at "gd t") => `(tactic| first
  | ((with_reducible show PT _ (Expr.UnaryOp UnaryOp.Not _ _) _); refine' pt_not ?k1; (case k1 => walk_at "gd t"))
  | ((with_reducible show PT _ (Expr.BoolOp BoolOp.And [_, _] _) _); refine' PW.pt (pw_and ?k1 (pw_and1 ?k2)); (case k1 => walk_at "gd t"); (case k2 => walk_at "gd t"))
  | ((with_reducible show PT _ (Expr.BoolOp BoolOp.Or [_, _] _) _); refine' PW.pt (pw_or ?k1 (pw_or1 ?k2)); (case k1 => walk_at "gd t"); (case k2 => walk_at "gd t"))
  | ((with_reducible show PT _ (Expr.Compare _ [CmpOp.Lt] _ _) _); refine' pt_cmpR op_lt ?k1 ?k2 (by rfl); (case k1 => walk_at "gd e"); (case k2 => walk_at "gd e"))
  | ((with_reducible show PT _ (Expr.Compare _ [CmpOp.LtE] _ _) _); refine' pt_cmpR op_le ?k1 ?k2 (by rfl); (case k1 => walk_at "gd e"); (case k2 => walk_at "gd e"))
  | ((with_reducible show PT _ (Expr.Compare _ [CmpOp.Gt] _ _) _); refine' pt_cmpR op_gt ?k1 ?k2 (by rfl); (case k1 => walk_at "gd e"); (case k2 => walk_at "gd e"))
  | ((with_reducible show PT _ (Expr.Compare _ [CmpOp.GtE] _ _) _); refine' pt_cmpR op_ge ?k1 ?k2 (by rfl); (case k1 => walk_at "gd e"); (case k2 => walk_at "gd e"))
  | ((with_reducible show PT _ (Expr.Compare _ [CmpOp.Eq] _ _) _); refine' pt_cmpR (eqK (by assumption) (by assumption)) ?k1 ?k2 (by rfl); (case k1 => walk_at "gd e"); (case k2 => walk_at "gd e"))
  | ((with_reducible show PT _ (Expr.Compare _ [CmpOp.NotEq] _ _) _); refine' pt_cmpR (neK (by assumption) (by assumption)) ?k1 ?k2 (by rfl); (case k1 => walk_at "gd e"); (case k2 => walk_at "gd e"))
  | ((with_reducible show PT _ (Expr.Compare _ [CmpOp.In] _ _) _); refine' pt_cmpR (inK (by assumption)) ?k1 ?k2 (by rfl); (case k1 => walk_at "gd e"); (case k2 => walk_at "gd e"))
  | ((with_reducible show PT _ (Expr.Compare _ [CmpOp.NotIn] _ _) _); refine' pt_cmpR (niK (by assumption)) ?k1 ?k2 (by rfl); (case k1 => walk_at "gd e"); (case k2 => walk_at "gd e"))
  | (refine' pt_val ?k1; (case k1 => walk_at "gd e")))
local macro_rules | `(tactic| walk_at "gd g") => `(tactic| first
  | ((with_reducible show PG _ (Expr.Name _ _) _); first | exact pg_name (i := 0) (by walk_at "gd nd") rfl (by walk_at "gd lo") | exact pg_name (i := 1) (by walk_at "gd nd") rfl (by walk_at "gd lo") | exact pg_name (i := 2) (by walk_at "gd nd") rfl (by walk_at "gd lo") | exact pg_name (i := 3) (by walk_at "gd nd") rfl (by walk_at "gd lo") | exact pg_name (i := 4) (by walk_at "gd nd") rfl (by walk_at "gd lo") | exact pg_name (i := 5) (by walk_at "gd nd") rfl (by walk_at "gd lo") | exact pg_name (i := 6) (by walk_at "gd nd") rfl (by walk_at "gd lo") | exact pg_name (i := 7) (by walk_at "gd nd") rfl (by walk_at "gd lo") | exact pg_name (i := 8) (by walk_at "gd nd") rfl (by walk_at "gd lo") | exact pg_name (i := 9) (by walk_at "gd nd") rfl (by walk_at "gd lo") | exact pg_name (i := 10) (by walk_at "gd nd") rfl (by walk_at "gd lo") | exact pg_name (i := 11) (by walk_at "gd nd") rfl (by walk_at "gd lo") | exact pg_name (i := 12) (by walk_at "gd nd") rfl (by walk_at "gd lo") | exact pg_name (i := 13) (by walk_at "gd nd") rfl (by walk_at "gd lo"))
  | ((with_reducible show PG _ (Expr.Subscript _ _ _) _); refine' pg_sub ?k1 ?k2 set_list; (case k1 => walk_at "gd e"); (case k2 => walk_at "gd e"))
  | ((with_reducible show PG _ (Expr.Tuple _ _ _) _); refine' pg_tup rfl ?k1; (case k1 => walk_at "gd gs")))
local macro_rules | `(tactic| walk_at "gd gs") => `(tactic| first | exact pgs_nil | (refine' pgs_cons ?k1 ?k2; (case k1 => walk_at "gd g"); (case k2 => walk_at "gd gs")))
local macro_rules | `(tactic| walk_at "gd set") => `(tactic| first | (refine' ps_set (i := 0) (by walk_at "gd nd") rfl (by walk_at "gd lo") ?k1; (case k1 => walk_at "gd e")) | (refine' ps_set (i := 1) (by walk_at "gd nd") rfl (by walk_at "gd lo") ?k1; (case k1 => walk_at "gd e")) | (refine' ps_set (i := 2) (by walk_at "gd nd") rfl (by walk_at "gd lo") ?k1; (case k1 => walk_at "gd e")) | (refine' ps_set (i := 3) (by walk_at "gd nd") rfl (by walk_at "gd lo") ?k1; (case k1 => walk_at "gd e")) | (refine' ps_set (i := 4) (by walk_at "gd nd") rfl (by walk_at "gd lo") ?k1; (case k1 => walk_at "gd e")) | (refine' ps_set (i := 5) (by walk_at "gd nd") rfl (by walk_at "gd lo") ?k1; (case k1 => walk_at "gd e")) | (refine' ps_set (i := 6) (by walk_at "gd nd") rfl (by walk_at "gd lo") ?k1; (case k1 => walk_at "gd e")) | (refine' ps_set (i := 7) (by walk_at "gd nd") rfl (by walk_at "gd lo") ?k1; (case k1 => walk_at "gd e")) | (refine' ps_set (i := 8) (by walk_at "gd nd") rfl (by walk_at "gd lo") ?k1; (case k1 => walk_at "gd e")) | (refine' ps_set (i := 9) (by walk_at "gd nd") rfl (by walk_at "gd lo") ?k1; (case k1 => walk_at "gd e")) | (refine' ps_set (i := 10) (by walk_at "gd nd") rfl (by walk_at "gd lo") ?k1; (case k1 => walk_at "gd e")) | (refine' ps_set (i := 11) (by walk_at "gd nd") rfl (by walk_at "gd lo") ?k1; (case k1 => walk_at "gd e")) | (refine' ps_set (i := 12) (by walk_at "gd nd") rfl (by walk_at "gd lo") ?k1; (case k1 => walk_at "gd e")) | (refine' ps_set (i := 13) (by walk_at "gd nd") rfl (by walk_at "gd lo") ?k1; (case k1 => walk_at "gd e")))
local macro_rules | `(tactic| walk_at "gd os") => `(tactic| fail)
local macro_rules | `(tactic| walk_at "gd slc") => `(tactic| fail)
local macro_rules | `(tactic| walk_at "gd par") => `(tactic| fail)
local macro_rules | `(tactic| walk_at "gd s") => `(tactic| first
  | ((with_reducible show PS _ (Stmt.Return (some _) _) _); refine' ps_ret ?k1; (case k1 => walk_at "gd e"))
  | ((with_reducible show PS _ (Stmt.If _ _ _ _) _); refine' ps_if ?k1 ?k2 ?k3; (case k1 => walk_at "gd t"); (case k2 => walk_at "gd ss"); (case k3 => walk_at "gd ss"))
  | ((with_reducible show PS _ (Stmt.Assign [Expr.Name _ _] (Expr.ListComp _ _ _ _) _) _); walk_at "gd slc")
  | ((with_reducible show PS _ (Stmt.Assign [Expr.Name _ _] _ _) _); walk_at "gd set")
  | ((with_reducible show PS _ (Stmt.Assign [_] _ _) _); refine' ps_asg ?k1 ?k2; (case k1 => walk_at "gd e"); (case k2 => walk_at "gd g"))
  | ((with_reducible show PS _ (Stmt.Assign [_] _ _) _); walk_at "gd par")
  | ((with_reducible show PS _ (Stmt.For _ _ _ _ _) _); refine' ps_for PassesOwn.never rfl ?k1 ?k2 ?k3; (case k1 => walk_at "gd i"); (case k2 => walk_at "gd g"); (case k3 => walk_at "gd ss"))
  | ((with_reducible show PS _ (Stmt.Expr _ _) _); refine' ps_expr ?k1; (case k1 => walk_at "gd e"))
  | walk_at "gd os")
local macro_rules | `(tactic| walk_at "gd ss") => `(tactic| first | exact pss_nil | (refine' pss_one ?k1; (case k1 => walk_at "gd s")) | (refine' pss_cons ?k1 ?k2; (case k1 => walk_at "gd s"); (case k2 => walk_at "gd ss")))
abbrev sFar : Stmt := top 45
abbrev sThing : Stmt := top 46
abbrev nThing : List Str := ["_law_pot_here", "_law_deep", "_law_way", "_law_inner", "_law_turn"]
theorem scFar : FnScope ["_law_pot_here", "_law_size"] ["_law_pot_here"] (defScope sFar) := ⟨rfl, rfl, rfl, by decide +kernel, rfl, by decide +kernel, by decide +kernel⟩
theorem scThing : FnScope nThing ["_law_pot_here", "_law_deep"] (defScope sThing) := ⟨rfl, rfl, rfl, by decide +kernel, rfl, by decide +kernel, by decide +kernel⟩
local macro_rules | `(tactic| walk_at "gd cv") => `(tactic| ((with_reducible show PE _ (Expr.ListComp _ [⟨Expr.Name "_law_turn" _, _, _, _⟩] _ _) _); refine' pe_lc (own := [("_law_turn", 4)]) (g := gName 4) (tt := tYes) rfl (by assumption) ?k1 (blkOk_by (N := nThing) (sc := defScope sThing) (by decide +kernel)) (fun _ _ _ _ _ => pg_name (i := 4) (by assumption) rfl (Or.inl rfl)) (fun _ _ _ _ _ => pts_nil) (fun _ _ _ _ _ => ?k2); (case k1 => walk_at "gd i"); (case k2 => walk_at "gd e")))
section
variable {P : Program} {w : World} {K : W.Frag} {mg : Str → Option Value} {base : Heap} {f : Addr} {fd : FuncData}
theorem mulX {i j : Int} {a b : Nat} (h0 : 0 < a ∧ 0 < b) (hi : i.natAbs < 2 ^ a) (hj : j.natAbs < 2 ^ b) (h : a + b < 1000) : CMulW i j := by
  have lg : ∀ {n : Int} {k : Nat}, 0 < k → n.natAbs < 2 ^ k → n.natAbs.log2 < k := by
    intro n k hk hn
    by_cases z : n.natAbs = 0
    · rw [z]
      exact hk
    · exact (Nat.log2_lt z).mpr hn
  have := lg h0.1 hi
  have := lg h0.2 hj
  show i.natAbs.log2 + j.natAbs.log2 < 1000000
  omega
theorem ok_far (fr : Frees mg) (D1 : Dn P w K mg base CX0 1 "_law_draw" ["_law_pot_here", "_law_sides"] spDraw) (D2 : Dn P w K mg base CX0 2 "_law_pick" ["_law_pot_here", "_law_some"] (spPick K)) (F : Fun K "_law_far" "_law_far" sFar f fd) :
    FnOk P w K mg base CX0 3 f fd ["_law_pot_here"] spFar := by
  refine F.ok scFar (fun vs H Q E h => ?_) (fun cdv A outer s H vs Q E hr h => ⟨?t, ?d, ?r⟩)
  · obtain ⟨p, rfl, _⟩ := h
    rfl
  case d =>
    have nd := scFar.nd
    have isk : IsK K := ⟨trivial⟩
    walk_at "gd ss"
  case r =>
    obtain ⟨p, rfl, hp, q⟩ := h
    refine ⟨_, rfl, 10, 9, rfl, rfl, ⟨by decide, by decide, by decide⟩, 10, 20, rfl, rfl, ⟨by decide, by decide, by decide⟩, 10, 30, rfl, rfl, ⟨by decide, by decide, by decide⟩, (by show 5 ≤ sizeLine; decide), fun l hl => ⟨p, l, _, rfl, hp.new hl, ne_pot hp hl, SqL.of upd_same, (fun z => by cases z), (by show 5 ≤ 1000000; decide), fun x H1 hx k1 => ?_⟩⟩
    have num : ∃ z : Int, x = .int z ∧ 0 ≤ z ∧ z ≤ 10 ^ 30 := by
      simp only [List.mem_cons, List.not_mem_nil, or_false] at hx
      rcases hx with rfl | rfl | rfl | rfl | rfl <;> exact ⟨_, rfl, by decide, by decide⟩
    obtain ⟨z, rfl, z0, z1⟩ := num
    have k1' := (Kp.new hp hl).trans k1
    refine ⟨_, rfl, 1, rfl, (by show 3 ≤ sizeLine; decide), fun m hm => ⟨p, m, _, rfl, k1.pot.new hm, ne_pot k1.pot hm, SqL.of upd_same, (fun z => by cases z), (by show 3 ≤ 1000000; decide), fun y H2 hy k2 => ?_⟩⟩
    have sgn : ∃ e : Int, y = .int e ∧ e.natAbs = 1 := by
      simp only [List.mem_cons, List.not_mem_nil, or_false] at hy
      rcases hy with rfl | rfl | rfl <;> exact ⟨_, rfl, by decide⟩
    obtain ⟨e, rfl, e1⟩ := sgn
    have k2' := k1'.trans ((Kp.new k1.pot hm).trans k2)
    refine ⟨_, rfl, 10, 9, rfl, rfl, ⟨by decide, by decide, by decide⟩, p, _, rfl, k2.pot, (by show (0 : Int) < 10 ^ (9 : Int).toNat; decide), (by show (10 : Int) ^ (9 : Int).toNat ≤ 1000000000; decide), fun a H3 a0 a1 k3 => ?_⟩
    have a2 : a < 1000000000 := a1
    clear a1
    have za : a.natAbs < 2 ^ 30 := by omega
    have zz : z.natAbs < 2 ^ 101 := Nat.lt_of_le_of_lt (show z.natAbs ≤ 10 ^ 30 by omega) (by decide)
    have az : (a * z).natAbs < 2 ^ 131 := by
      rw [Int.natAbs_mul]
      exact Nat.lt_of_lt_of_le (Nat.mul_lt_mul_of_lt_of_lt za zz) (by decide)
    refine ⟨_, rfl, .inl ⟨a, z, rfl, rfl, mulX (a := 30) (b := 101) (by decide) za zz (by decide), _, rfl, p, 10, rfl, k3.pot, by decide, by decide, fun b H4 b0 b1 k4 => .inl ⟨_, b, rfl, rfl, .inl ⟨e, _, rfl, rfl, ?_, q _ _ ?_ (k2'.trans (k3.trans k4))⟩⟩⟩⟩
    · refine mulX (a := 1) (b := 140) (by decide) (by omega) (Nat.lt_of_le_of_lt (Int.natAbs_add_le _ _) ?_) (by decide)
      have : b.natAbs < 10 := by omega
      omega
    · have bb : b.natAbs < 10 := by omega
      rw [Int.natAbs_mul, e1, Nat.one_mul]
      refine Nat.lt_of_le_of_lt (Int.natAbs_add_le _ _) ?_
      omega
end
end K10

set_option Elab.async false
set_option linter.all false
set_option maxRecDepth 100000
set_option maxHeartbeats 4000000
namespace K10
open PySem PySem.Spec L2 Gd

/-! ### derivations by the text's shape -/
local macro_rules | `(tactic| walk_at "gd nd") => `(tactic| assumption)
local macro_rules | `(tactic| walk_at "gd lo") => `(tactic| first | exact Or.inl rfl | exact Or.inr rfl)
local macro_rules | `(tactic| walk_at "gd var") => `(tactic| first | exact pv 0 | exact pv 1 | exact pv 2 | exact pv 3 | exact pv 4 | exact pv 5 | exact pv 6 | exact pv 7 | exact pv 8 | exact pv 9 | exact pv 10 | exact pv 11 | exact pv 12 | exact pv 13 | exact pe_glob rfl (by assumption) rfl | exact pe_glob rfl (Globs.h (by assumption) _ (by decide +kernel)) rfl | exact pe_bltn rfl (Frees.h (by assumption) _ (by decide +kernel)) (by decide +kernel) rfl)
local macro_rules | `(tactic| walk_at "gd a") => `(tactic| first | exact pa_nil | (refine' pa_cons ?k1 ?k2; (case k1 => walk_at "gd e"); (case k2 => walk_at "gd a")))
local macro_rules | `(tactic| walk_at "gd blt") => `(tactic| first
  | ((with_reducible show PE _ (Expr.Call (Expr.Name "abs" _) _ _ _) _); refine' pe_callB call_abs rfl (Frees.h (by assumption) _ (by decide +kernel)) (by decide +kernel) ?k1; (case k1 => walk_at "gd a"))
  | ((with_reducible show PE _ (Expr.Call (Expr.Name "max" _) _ _ _) _); refine' pe_callB (call_max2 rfl) rfl (Frees.h (by assumption) _ (by decide +kernel)) (by decide +kernel) ?k1; (case k1 => walk_at "gd a"))
  | ((with_reducible show PE _ (Expr.Call (Expr.Name "min" _) _ _ _) _); refine' pe_callB (call_min2 rfl) rfl (Frees.h (by assumption) _ (by decide +kernel)) (by decide +kernel) ?k1; (case k1 => walk_at "gd a"))
  | ((with_reducible show PE _ (Expr.Call (Expr.Name "len" _) _ _ _) _); refine' pe_callB (lenK (by assumption)) rfl (Frees.h (by assumption) _ (by decide +kernel)) (by decide +kernel) ?k1; (case k1 => walk_at "gd a"))
  | ((with_reducible show PE _ (Expr.Call (Expr.Name "divmod" _) _ _ _) _); refine' pe_callB call_divmod rfl (Frees.h (by assumption) _ (by decide +kernel)) (by decide +kernel) ?k1; (case k1 => walk_at "gd a"))
  | ((with_reducible show PE _ (Expr.Call (Expr.Name "all" _) _ _ _) _); refine' pe_callB (allK (by assumption) rfl) rfl (Frees.h (by assumption) _ (by decide +kernel)) (by decide +kernel) ?k1; (case k1 => walk_at "gd a"))
  | ((with_reducible show PE _ (Expr.Call (Expr.Name "isinstance" _) _ _ _) _); refine' pe_callB (isXK (by assumption)) rfl (Frees.h (by assumption) _ (by decide +kernel)) (by decide +kernel) ?k1; (case k1 => walk_at "gd a"))
  | ((with_reducible show PE _ (Expr.Call (Expr.Name "repr" _) _ _ _) _); refine' pe_callB (call_repr (by assumption) (by assumption)) rfl (Frees.h (by assumption) _ (by decide +kernel)) (by decide +kernel) ?k1; (case k1 => walk_at "gd a"))
  | ((with_reducible show PE _ (Expr.Call (Expr.Name "int" _) _ _ _) _); refine' pe_callTy call_int1 rfl (Frees.h (by assumption) _ (by decide +kernel)) (by decide +kernel) ?k1; (case k1 => walk_at "gd a"))
  | ((with_reducible show PE _ (Expr.Call (Expr.Name "tuple" _) _ _ _) _); refine' pe_callTy (tupK (by assumption)) rfl (Frees.h (by assumption) _ (by decide +kernel)) (by decide +kernel) ?k1; (case k1 => walk_at "gd a")))
local macro_rules | `(tactic| walk_at "gd call") => `(tactic| first
  | walk_at "gd blt"
  | (refine' pe_dn (by assumption) (by assumption) rfl (by first | decide | omega) ?k1; (case k1 => walk_at "gd a"))
  | (refine' pe_dnG (by assumption) (by assumption) (by assumption) rfl (by first | decide | omega) ?k1; (case k1 => walk_at "gd a"))
  | walk_at "gd own")
local macro_rules | `(tactic| walk_at "gd own") => `(tactic| fail)
local macro_rules | `(tactic| walk_at "gd it") => `(tactic| fail)
local macro_rules | `(tactic| walk_at "gd i") => `(tactic| first
  | ((with_reducible show PI _ _ (Expr.Call (Expr.Name "range" _) [_] _ _) _); refine' pi_range1 rfl (Frees.h (by assumption) _ (by decide +kernel)) ?k1; (case k1 => walk_at "gd a"))
  | walk_at "gd it")
local macro_rules | `(tactic| walk_at "gd cv") => `(tactic| fail)
local macro_rules | `(tactic| walk_at "gd lc") => `(tactic| walk_at "gd cv")
local macro_rules | `(tactic| walk_at "gd e") => `(tactic| first
  | ((with_reducible show PE _ (Expr.Constant _ _ _) _); first | exact pe_int | exact pe_str | exact pe_bl | exact pe_non)
  | ((with_reducible show PE _ (Expr.Name _ _) _); walk_at "gd var")
  | ((with_reducible show PE _ (Expr.BinOp _ Operator.Add _ _) _); refine' pe_op op_addA ?k1 ?k2; (case k1 => walk_at "gd e"); (case k2 => walk_at "gd e"))
  | ((with_reducible show PE _ (Expr.BinOp _ Operator.Sub _ _) _); refine' pe_op op_sub ?k1 ?k2; (case k1 => walk_at "gd e"); (case k2 => walk_at "gd e"))
  | ((with_reducible show PE _ (Expr.BinOp _ Operator.Mult _ _) _); refine' pe_op op_mulA ?k1 ?k2; (case k1 => walk_at "gd e"); (case k2 => walk_at "gd e"))
  | ((with_reducible show PE _ (Expr.BinOp _ Operator.Mod _ _) _); refine' pe_op op_mod ?k1 ?k2; (case k1 => walk_at "gd e"); (case k2 => walk_at "gd e"))
  | ((with_reducible show PE _ (Expr.BinOp _ Operator.FloorDiv _ _) _); refine' pe_op op_fdivW ?k1 ?k2; (case k1 => walk_at "gd e"); (case k2 => walk_at "gd e"))
  | ((with_reducible show PE _ (Expr.BinOp _ Operator.Pow _ _) _); refine' pe_op op_pow ?k1 ?k2; (case k1 => walk_at "gd e"); (case k2 => walk_at "gd e"))
  | ((with_reducible show PE _ (Expr.UnaryOp UnaryOp.USub _ _) _); refine' pe_un un_neg ?k1; (case k1 => walk_at "gd e"))
  | ((with_reducible show PE _ (Expr.UnaryOp UnaryOp.Not _ _) _); refine' pe_not ?k1; (case k1 => walk_at "gd e"))
  | ((with_reducible show PE _ (Expr.Compare _ [CmpOp.Lt] _ _) _); refine' pe_cmpR op_lt ?k1 ?k2 (by rfl); (case k1 => walk_at "gd e"); (case k2 => walk_at "gd e"))
  | ((with_reducible show PE _ (Expr.Compare _ [CmpOp.LtE] _ _) _); refine' pe_cmpR op_le ?k1 ?k2 (by rfl); (case k1 => walk_at "gd e"); (case k2 => walk_at "gd e"))
  | ((with_reducible show PE _ (Expr.Compare _ [CmpOp.Gt] _ _) _); refine' pe_cmpR op_gt ?k1 ?k2 (by rfl); (case k1 => walk_at "gd e"); (case k2 => walk_at "gd e"))
  | ((with_reducible show PE _ (Expr.Compare _ [CmpOp.GtE] _ _) _); refine' pe_cmpR op_ge ?k1 ?k2 (by rfl); (case k1 => walk_at "gd e"); (case k2 => walk_at "gd e"))
  | ((with_reducible show PE _ (Expr.Compare _ [CmpOp.Eq] _ _) _); refine' pe_cmpR (eqK (by assumption) (by assumption)) ?k1 ?k2 (by rfl); (case k1 => walk_at "gd e"); (case k2 => walk_at "gd e"))
  | ((with_reducible show PE _ (Expr.Compare _ [CmpOp.NotEq] _ _) _); refine' pe_cmpR (neK (by assumption) (by assumption)) ?k1 ?k2 (by rfl); (case k1 => walk_at "gd e"); (case k2 => walk_at "gd e"))
  | ((with_reducible show PE _ (Expr.Compare _ [CmpOp.In] _ _) _); refine' pe_cmpR (inK (by assumption)) ?k1 ?k2 (by rfl); (case k1 => walk_at "gd e"); (case k2 => walk_at "gd e"))
  | ((with_reducible show PE _ (Expr.Compare _ [CmpOp.NotIn] _ _) _); refine' pe_cmpR (niK (by assumption)) ?k1 ?k2 (by rfl); (case k1 => walk_at "gd e"); (case k2 => walk_at "gd e"))
  | ((with_reducible show PE _ (Expr.IfExp _ _ _ _) _); refine' pe_ifExp ?k1 ?k2 ?k3; (case k1 => walk_at "gd t"); (case k2 => walk_at "gd e"); (case k3 => walk_at "gd e"))
  | ((with_reducible show PE _ (Expr.Subscript _ (Expr.Slice none (some _) none _) _) _); refine' pe_slice sl_str ?k1 po_none (po_some ?k2); (case k1 => walk_at "gd e"); (case k2 => walk_at "gd e"))
  | ((with_reducible show PE _ (Expr.Subscript _ _ _) _); refine' pe_ix (ixK (by assumption)) ?k1 ?k2 (fun _ _ => rfl); (case k1 => walk_at "gd e"); (case k2 => walk_at "gd e"))
  | ((with_reducible show PE _ (Expr.List _ _) _); refine' pe_lst ?k1; (case k1 => walk_at "gd a"))
  | ((with_reducible show PE _ (Expr.Tuple _ _ _) _); refine' pe_tup ?k1; (case k1 => walk_at "gd a"))
  | ((with_reducible show PE _ (Expr.Dict [] [] _) _); exact pe_dnewK)
  | ((with_reducible show PE _ (Expr.Dict [_] [_] _) _); refine' pe_disp (pps_cons ?k1 ?k2 pps_nil) rfl rfl (fun z => by cases z) (by decide); (case k1 => walk_at "gd e"); (case k2 => walk_at "gd e"))
  | ((with_reducible show PE _ (Expr.Call (Expr.Attribute _ "join" _) _ _ _) _); refine' joinK (by assumption) ?k1 ?k2; (case k1 => walk_at "gd e"); (case k2 => walk_at "gd e"))
  | ((with_reducible show PE _ (Expr.Call (Expr.Attribute _ "append" _) _ _ _) _); refine' pe_bm PySem.F.plainAttrs_list PySem.F.slot_list_append PySem.F.type_list_append mt_append ?k1 ?k2; (case k1 => walk_at "gd e"); (case k2 => walk_at "gd a"))
  | ((with_reducible show PE _ (Expr.Attribute _ _ _) _); refine' efK (by assumption) ?k1; (case k1 => walk_at "gd e"))
  | ((with_reducible show PE _ (Expr.ListComp _ _ _ _) _); walk_at "gd lc")
  | walk_at "gd call")
local macro_rules | `(tactic| walk_at "gd t") => `(tactic| first
  | ((with_reducible show PT _ (Expr.UnaryOp UnaryOp.Not _ _) _); refine' pt_not ?k1; (case k1 => walk_at "gd t"))
  | ((with_reducible show PT _ (Expr.BoolOp BoolOp.And [_, _] _) _); refine' PW.pt (pw_and ?k1 (pw_and1 ?k2)); (case k1 => walk_at "gd t"); (case k2 => walk_at "gd t"))
  | ((with_reducible show PT _ (Expr.BoolOp BoolOp.Or [_, _] _) _); refine' PW.pt (pw_or ?k1 (pw_or1 ?k2)); (case k1 => walk_at "gd t"); (case k2 => walk_at "gd t"))
  | ((with_reducible show PT _ (Expr.Compare _ [CmpOp.Lt] _ _) _); refine' pt_cmpR op_lt ?k1 ?k2 (by rfl); (case k1 => walk_at "gd e"); (case k2 => walk_at "gd e"))
  | ((with_reducible show PT _ (Expr.Compare _ [CmpOp.LtE] _ _) _); refine' pt_cmpR op_le ?k1 ?k2 (by rfl); (case k1 => walk_at "gd e"); (case k2 => walk_at "gd e"))
  | ((with_reducible show PT _ (Expr.Compare _ [CmpOp.Gt] _ _) _); refine' pt_cmpR op_gt ?k1 ?k2 (by rfl); (case k1 => walk_at "gd e"); (case k2 => walk_at "gd e"))
  | ((with_reducible show PT _ (Expr.Compare _ [CmpOp.GtE] _ _) _); refine' pt_cmpR op_ge ?k1 ?k2 (by rfl); (case k1 => walk_at "gd e"); (case k2 => walk_at "gd e"))
  | ((with_reducible show PT _ (Expr.Compare _ [CmpOp.Eq] _ _) _); refine' pt_cmpR (eqK (by assumption) (by assumption)) ?k1 ?k2 (by rfl); (case k1 => walk_at "gd e"); (case k2 => walk_at "gd e"))
  | ((with_reducible show PT _ (Expr.Compare _ [CmpOp.NotEq] _ _) _); refine' pt_cmpR (neK (by assumption) (by assumption)) ?k1 ?k2 (by rfl); (case k1 => walk_at "gd e"); (case k2 => walk_at "gd e"))
  | ((with_reducible show PT _ (Expr.Compare _ [CmpOp.In] _ _) _); refine' pt_cmpR (inK (by assumption)) ?k1 ?k2 (by rfl); (case k1 => walk_at "gd e"); (case k2 => walk_at "gd e"))
  | ((with_reducible show PT _ (Expr.Compare _ [CmpOp.NotIn] _ _) _); refine' pt_cmpR (niK (by assumption)) ?k1 ?k2 (by rfl); (case k1 => walk_at "gd e"); (case k2 => walk_at "gd e"))
  | (refine' pt_val ?k1; (case k1 => walk_at "gd e")))
local macro_rules | `(tactic| walk_at "gd g") => `(tactic| first
  | ((with_reducible show PG _ (Expr.Name _ _) _); first | exact pg_name (i := 0) (by walk_at "gd nd") rfl (by walk_at "gd lo") | exact pg_name (i := 1) (by walk_at "gd nd") rfl (by walk_at "gd lo") | exact pg_name (i := 2) (by walk_at "gd nd") rfl (by walk_at "gd lo") | exact pg_name (i := 3) (by walk_at "gd nd") rfl (by walk_at "gd lo") | exact pg_name (i := 4) (by walk_at "gd nd") rfl (by walk_at "gd lo") | exact pg_name (i := 5) (by walk_at "gd nd") rfl (by walk_at "gd lo") | exact pg_name (i := 6) (by walk_at "gd nd") rfl (by walk_at "gd lo") | exact pg_name (i := 7) (by walk_at "gd nd") rfl (by walk_at "gd lo") | exact pg_name (i := 8) (by walk_at "gd nd") rfl (by walk_at "gd lo") | exact pg_name (i := 9) (by walk_at "gd nd") rfl (by walk_at "gd lo") | exact pg_name (i := 10) (by walk_at "gd nd") rfl (by walk_at "gd lo") | exact pg_name (i := 11) (by walk_at "gd nd") rfl (by walk_at "gd lo") | exact pg_name (i := 12) (by walk_at "gd nd") rfl (by walk_at "gd lo") | exact pg_name (i := 13) (by walk_at "gd nd") rfl (by walk_at "gd lo"))
  | ((with_reducible show PG _ (Expr.Subscript _ _ _) _); refine' pg_sub ?k1 ?k2 set_list; (case k1 => walk_at "gd e"); (case k2 => walk_at "gd e"))
  | ((with_reducible show PG _ (Expr.Tuple _ _ _) _); refine' pg_tup rfl ?k1; (case k1 => walk_at "gd gs")))
local macro_rules | `(tactic| walk_at "gd gs") => `(tactic| first | exact pgs_nil | (refine' pgs_cons ?k1 ?k2; (case k1 => walk_at "gd g"); (case k2 => walk_at "gd gs")))
local macro_rules | `(tactic| walk_at "gd set") => `(tactic| first | (refine' ps_set (i := 0) (by walk_at "gd nd") rfl (by walk_at "gd lo") ?k1; (case k1 => walk_at "gd e")) | (refine' ps_set (i := 1) (by walk_at "gd nd") rfl (by walk_at "gd lo") ?k1; (case k1 => walk_at "gd e")) | (refine' ps_set (i := 2) (by walk_at "gd nd") rfl (by walk_at "gd lo") ?k1; (case k1 => walk_at "gd e")) | (refine' ps_set (i := 3) (by walk_at "gd nd") rfl (by walk_at "gd lo") ?k1; (case k1 => walk_at "gd e")) | (refine' ps_set (i := 4) (by walk_at "gd nd") rfl (by walk_at "gd lo") ?k1; (case k1 => walk_at "gd e")) | (refine' ps_set (i := 5) (by walk_at "gd nd") rfl (by walk_at "gd lo") ?k1; (case k1 => walk_at "gd e")) | (refine' ps_set (i := 6) (by walk_at "gd nd") rfl (by walk_at "gd lo") ?k1; (case k1 => walk_at "gd e")) | (refine' ps_set (i := 7) (by walk_at "gd nd") rfl (by walk_at "gd lo") ?k1; (case k1 => walk_at "gd e")) | (refine' ps_set (i := 8) (by walk_at "gd nd") rfl (by walk_at "gd lo") ?k1; (case k1 => walk_at "gd e")) | (refine' ps_set (i := 9) (by walk_at "gd nd") rfl (by walk_at "gd lo") ?k1; (case k1 => walk_at "gd e")) | (refine' ps_set (i := 10) (by walk_at "gd nd") rfl (by walk_at "gd lo") ?k1; (case k1 => walk_at "gd e")) | (refine' ps_set (i := 11) (by walk_at "gd nd") rfl (by walk_at "gd lo") ?k1; (case k1 => walk_at "gd e")) | (refine' ps_set (i := 12) (by walk_at "gd nd") rfl (by walk_at "gd lo") ?k1; (case k1 => walk_at "gd e")) | (refine' ps_set (i := 13) (by walk_at "gd nd") rfl (by walk_at "gd lo") ?k1; (case k1 => walk_at "gd e")))
local macro_rules | `(tactic| walk_at "gd os") => `(tactic| fail)
local macro_rules | `(tactic| walk_at "gd slc") => `(tactic| fail)
local macro_rules | `(tactic| walk_at "gd par") => `(tactic| fail)
local macro_rules | `(tactic| walk_at "gd s") => `(tactic| first
  | ((with_reducible show PS _ (Stmt.Return (some _) _) _); refine' ps_ret ?k1; (case k1 => walk_at "gd e"))
  | ((with_reducible show PS _ (Stmt.If _ _ _ _) _); refine' ps_if ?k1 ?k2 ?k3; (case k1 => walk_at "gd t"); (case k2 => walk_at "gd ss"); (case k3 => walk_at "gd ss"))
  | ((with_reducible show PS _ (Stmt.Assign [Expr.Name _ _] (Expr.ListComp _ _ _ _) _) _); walk_at "gd slc")
  | ((with_reducible show PS _ (Stmt.Assign [Expr.Name _ _] _ _) _); walk_at "gd set")
  | ((with_reducible show PS _ (Stmt.Assign [_] _ _) _); refine' ps_asg ?k1 ?k2; (case k1 => walk_at "gd e"); (case k2 => walk_at "gd g"))
  | ((with_reducible show PS _ (Stmt.Assign [_] _ _) _); walk_at "gd par")
  | ((with_reducible show PS _ (Stmt.For _ _ _ _ _) _); refine' ps_for PassesOwn.never rfl ?k1 ?k2 ?k3; (case k1 => walk_at "gd i"); (case k2 => walk_at "gd g"); (case k3 => walk_at "gd ss"))
  | ((with_reducible show PS _ (Stmt.Expr _ _) _); refine' ps_expr ?k1; (case k1 => walk_at "gd e"))
  | walk_at "gd os")
local macro_rules | `(tactic| walk_at "gd ss") => `(tactic| first | exact pss_nil | (refine' pss_one ?k1; (case k1 => walk_at "gd s")) | (refine' pss_cons ?k1 ?k2; (case k1 => walk_at "gd s"); (case k2 => walk_at "gd ss")))
local macro_rules | `(tactic| walk_at "gd slc") => `(tactic| (refine' ps_setLc (i := 3) (own := [("_law_turn", 4)]) (g := gName 4) (tt := tYes) rfl (by assumption) rfl rfl (by exact sw_true rfl rfl rfl (by decide +kernel)) ?k1 (blkOk_by (N := nThing) (sc := defScope sThing) (by decide +kernel)) (fun _ _ _ _ _ => pg_name (i := 4) (by assumption) rfl (Or.inl rfl)) (fun _ _ _ _ _ => pts_nil) (fun _ _ _ _ _ => ?k2); (case k1 => walk_at "gd i"); (case k2 => walk_at "gd e")))
/-- thing(pot, n), n + 1 = m -/
def spT : Nat → Sp
  | 0 => fun _ _ _ _ => False
  | n + 1 => fun vs H Q _ => ∃ p : Addr, vs = [.ref p, .int n] ∧ Pot H p ∧ ∀ (x : V) (H' : Hp), Fr H H' n x → Kp p H H' → Q x H'
theorem _root_.Gd.Pot.new' {p q : Addr} {H : Hp} {o : HO} (h : Pot H p) (n : q ≠ p) : Pot (upd H q o) p := by
  obtain ⟨a, b, e, r⟩ := h
  exact ⟨a, b, by rw [upd_ne (Ne.symm n)]; exact e, r⟩
section
variable {P : Program} {w : World} {K : W.Frag} {mg : Str → Option Value} {base : Heap} {f : Addr} {fd : FuncData}
theorem ok_thing {n : Nat} (fr : Frees mg) (D1 : Dn P w K mg base CX0 1 "_law_draw" ["_law_pot_here", "_law_sides"] spDraw) (D2 : Dn P w K mg base CX0 2 "_law_pick" ["_law_pot_here", "_law_some"] (spPick K))
    (D3 : Dn P w K mg base CX0 3 "_law_named" ["_law_pot_here", "_law_size", "_law_taken"] (spNamed K)) (D4 : Dn P w K mg base CX0 3 "_law_far" ["_law_pot_here"] spFar)
    (D5 : Dn P w K mg base CX0 (n + 3) "_law_thing" ["_law_pot_here", "_law_deep"] (spT n)) (F : Fun K "_law_thing" "_law_thing" sThing f fd) :
    FnOk P w K mg base CX0 (n + 4) f fd ["_law_pot_here", "_law_deep"] (spT (n + 1)) := by
  refine F.ok scThing (fun vs H Q E h => ?_) (fun cdv A outer s H vs Q E hr h => ⟨?t, ?d, ?r⟩)
  · obtain ⟨p, rfl, _⟩ := h
    rfl
  case d =>
    have nd := scThing.nd
    have isk : IsK K := ⟨trivial⟩
    walk_at "gd ss"
  case r =>
    obtain ⟨p, rfl, hp, q⟩ := h
    refine ⟨_, rfl, p, 9, rfl, hp, by decide, by decide, fun w H1 w0 w1 k1 => ⟨_, rfl, w, 2, rfl, rfl, _, rfl, ite2 (fun c => ?_) (fun c => ?_)⟩⟩
    · exact ⟨_, rfl, p, rfl, k1.pot, fun n H2 hn k2 => q _ _ (Fr.int hn) (k1.trans k2)⟩
    refine ⟨_, rfl, .inl ⟨rfl, _, rfl, ite2 (fun c => ?_) (fun c => ?_)⟩⟩
    · refine ⟨_, rfl, (by show 0 ≤ sizeLine; decide), fun l hl => ⟨p, l, rfl, k1.pot.new hl, ne_pot k1.pot hl, SqL.of upd_same, fun r x H2 hr sx k2 => .inl ⟨r, _, 0, .str x, rfl, rfl, SqL.of hr, atI_int (by decide) rfl, q _ _ (Fr.str sx (by decide)) ?_⟩⟩⟩
      exact k1.trans ((Kp.new k1.pot hl).trans k2)
    refine ⟨_, rfl, .inl ⟨rfl, _, rfl, ite2 (fun c => ?_) (fun c => ?_)⟩⟩
    · refine ⟨_, rfl, (by show 0 ≤ sizeLine; decide), fun a1 h1 => ⟨(by show 0 ≤ sizeLine; decide), fun a2 h2 => fun a3 h3 => ⟨(by show 10 ≤ sizeLine; decide), fun l hl => ?_⟩⟩⟩
      have p1 := k1.pot.new (o := .tup []) h1
      have p2 := p1.new (o := .lst []) h2
      have p3 := p2.new (o := .dK []) h3
      have s1 : upd H1 a1 (.tup []) a1 = some (.tup []) := upd_same
      have s12 : upd (upd H1 a1 (.tup [])) a2 (.lst []) a1 = some (.tup []) := by rw [upd_ne (ne_of_none s1 h2)]; exact s1
      have s13 : upd (upd (upd H1 a1 (.tup [])) a2 (.lst [])) a3 (.dK []) a1 = some (.tup []) := by rw [upd_ne (ne_of_none s12 h3)]; exact s12
      have s2 : upd (upd H1 a1 (.tup [])) a2 (.lst []) a2 = some (.lst []) := upd_same
      have s23 : upd (upd (upd H1 a1 (.tup [])) a2 (.lst [])) a3 (.dK []) a2 = some (.lst []) := by rw [upd_ne (ne_of_none s2 h3)]; exact s2
      have s3 : upd (upd (upd H1 a1 (.tup [])) a2 (.lst [])) a3 (.dK []) a3 = some (.dK []) := upd_same
      have n1 := ne_pot k1.pot h1
      have n2 := ne_pot p1 h2
      have n3 := ne_pot p2 h3
      have q1 := k1.trans (Kp.new (o := .tup []) k1.pot h1)
      have q2 := q1.trans (Kp.new (o := .lst []) p1 h2)
      have q3 := q2.trans (Kp.new (o := .dK []) p2 h3)
      have z1 := k1.gone n1 h1
      have z2 := q1.gone n2 h2
      have z3 := q2.gone n3 h3
      generalize upd (upd (upd H1 a1 (.tup [])) a2 (.lst [])) a3 (.dK []) = G at hl p3 s13 s23 s3 q3 ⊢
      refine ⟨p, l, _, rfl, p3.new hl, ne_pot p3 hl, SqL.of upd_same, (fun z => by cases z), (by show 10 ≤ 1000000; decide), fun x H2 hx k2 => ?_⟩
      have e1 : H2 a1 = some (.tup []) := k2.at n1 (by rw [upd_ne (ne_of_none s13 hl)]; exact s13)
      have e2 : H2 a2 = some (.lst []) := k2.at n2 (by rw [upd_ne (ne_of_none s23 hl)]; exact s23)
      have e3 : H2 a3 = some (.dK []) := k2.at n3 (by rw [upd_ne (ne_of_none s3 hl)]; exact s3)
      refine q _ _ ?_ (q3.trans ((Kp.new p3 hl).trans k2))
      clear k2
      simp only [List.mem_cons, List.not_mem_nil, or_false] at hx
      rcases hx with rfl | rfl | rfl | rfl | rfl | rfl | rfl | rfl | rfl | rfl
      · exact Fr.flat (fun _ => .bl _) (by decide)
      · exact Fr.flat (fun _ => .bl _) (by decide)
      · exact Fr.flat (fun _ => .non) (by decide)
      · exact Fr.str (n := 3) ⟨by decide, by decide⟩ (by decide)
      · exact Fr.emptyT e1 z1
      · exact Fr.emptyL e2 z2
      · exact Fr.emptyD e3 z3
      · exact Fr.int (by decide)
      · exact Fr.int (by decide)
      · exact Fr.str (n := 3) ⟨by decide, by decide⟩ (by decide)
    refine ⟨_, rfl, .inl ⟨rfl, _, rfl, ite2 (fun c => ?_) (fun c => ?_)⟩⟩
    · refine ⟨_, rfl, 1, rfl, (by show 7 ≤ sizeLine; decide), fun l hl => ⟨p, l, _, rfl, k1.pot.new hl, ne_pot k1.pot hl, SqL.of upd_same, (fun z => by cases z), (by show 7 ≤ 1000000; decide), fun x H2 hx k2 => ?_⟩⟩
      refine q _ _ ?_ (k1.trans ((Kp.new k1.pot hl).trans k2))
      simp only [List.mem_cons, List.not_mem_nil, or_false] at hx
      rcases hx with rfl | rfl | rfl | rfl | rfl | rfl | rfl
      · exact Fr.int (by decide)
      · exact Fr.int (by decide)
      · exact Fr.int (by decide)
      · exact Fr.str (n := 3) ⟨by decide, by decide⟩ (by decide)
      · exact Fr.str (n := 3) ⟨by decide, by decide⟩ (by decide)
      · exact Fr.int (by decide)
      · exact Fr.flat (fun _ => .non) (by decide)
    cases n with
    | zero => exact absurd (show decide (V.int ((0 : Nat) : Int) = V.int 0) = true from rfl) c
    | succ m =>
      refine ⟨_, rfl, p, 4, rfl, k1.pot, by decide, by decide, fun j H2 j0 j1 k2 => ⟨j, rfl, by omega, by omega, fun D hD => ?_⟩⟩
      have k2' := k1.trans k2
      have nDp := ne_pot k2.pot hD
      have zD := k2'.gone nDp hD
      have kd := k2'.trans (Kp.new (o := .lst []) k2.pot hD)
      have hDd : upd H2 D (.lst []) D = some (.lst []) := upd_same
      refine lc_range (lo := 0) (n := j.toNat) (fun i H' => ∃ xs, xs.length = i ∧ Frs (upd H2 D (.lst [])) H' m xs ∧ H' D = some (.lst xs) ∧ Kp p H H' ∧ Dom (upd H2 D (.lst [])) H') ?_ ?_ ?_
      · exact ⟨[], rfl, Frs.nil, hDd, kd, fun _ h => h⟩
      · rintro i H3 hi ⟨xs, lx, fx, hD3, k3, d3⟩
        have big : (1000 : Nat) < sizeLine := by decide
        have arg : ((m + 1 : Nat) : Int) - 1 = (m : Int) := by omega
        refine ⟨rfl, _, rfl, _, rfl, _, 1, rfl, rfl, p, (by show [V.ref p, V.int (((m + 1 : Nat) : Int) - 1)] = _; rw [arg]), k3.pot, fun x H4 f4 k4 => ⟨xs, k4.at nDp hD3, by omega, xs ++ [x], by simp [lx], ?_, upd_same, (k3.trans k4).over nDp zD, d3.trans (k4.dom.trans Dom.upd)⟩⟩
        exact ((fx.kp k4 kd.pot).snoc (f4.ahead d3)).put hDd
      · rintro H5 ⟨xs, lx, fx, hD5, k5, d5⟩
        have l3 : xs.length ≤ 3 := by omega
        refine ⟨_, rfl, w, 6, rfl, rfl, _, rfl, ite2 (fun c => ?_) (fun c => ?_)⟩
        · exact ⟨_, rfl, D, xs, rfl, .inl ⟨SqL.of hD5, fun l hl => q _ _ (fx.tuple l3 hl k5.dom kd.dom) (k5.trans (Kp.new k5.pot hl))⟩⟩
        refine ⟨_, rfl, w, 8, rfl, rfl, _, rfl, ite2 (fun c => ⟨_, rfl, q _ _ (fx.list l3 hD5 kd.dom zD hDd) k5⟩) (fun c => fun e he => ?_)⟩
        have hh : ∀ b o, H5 b = some o → upd (upd H5 e (.dK [])) e (.dK [(.inr "a", .ref D)]) b = some o := fun b o h => by
          rw [upd_ne (ne_of_none h he), upd_ne (ne_of_none h he)]
          exact h
        refine ⟨_, rfl, upd_same, [(.inr "a", .ref D)], rfl, (by show 1 ≤ 15; decide), q _ _ (fx.dict l3 hD5 kd.dom zD hDd he k5.dom _ hh upd_same) ?_⟩
        exact k5.trans ⟨fun b o _ h => hh b o h, (k5.pot.new he).new' (ne_pot k5.pot he)⟩
end
end K10

set_option Elab.async false
set_option linter.all false
set_option maxRecDepth 100000
set_option maxHeartbeats 4000000
namespace K10
open PySem PySem.Spec L2 Gd
def e1tab : List (Str × Str) := cnT.zip fnT
structure One (K : W.Frag) : Prop where
  h : ∀ x f, e1tab.lookup x = some f → Ge.E1 K (He.ga K x) f
structure Two (K : W.Frag) : Prop where
  side : Ge.E2 K (He.ga K "InvalidSide") "side" "position"
  many : Ge.E2 K (He.ga K "TooMany") "kind" "limit"
structure Nul (K : W.Frag) : Prop where
  undo : Ge.E0c K (He.ga K "NothingToUndo")
/-- the fields of an error of a way -/
def flds (n : Nat) (x y : V) : List (Str × V) := if n < 32 then [(fnm n, x)] else if n = 32 then [("position", y), ("side", x)] else [("limit", y), ("kind", x)]
/-- at e an error of the way n, made of x and y -/
def Er (K : W.Frag) (H : Hp) (n : Nat) (x y : V) (e : Addr) : Prop := (n = 34 ∧ H e = some (exo e (He.ga K (cn n)) none)) ∨ (n < 34 ∧ ∃ d, H e = some (exo e (He.ga K (cn n)) (some d)) ∧ H d = some (exd d (flds n x y)))
theorem Er.on {K : W.Frag} {H H' : Hp} {n : Nat} {x y : V} {e : Addr} (h : Er K H n x y e) (s : ∀ b o, H b = some o → H' b = some o) : Er K H' n x y e := by
  rcases h with ⟨a, b⟩ | ⟨a, d, b, c⟩
  · exact .inl ⟨a, s _ _ b⟩
  · exact .inr ⟨a, d, s _ _ b, s _ _ c⟩
/-- all stands -/
def All (H H' : Hp) : Prop := ∀ b o, H b = some o → H' b = some o
theorem All.refl {H : Hp} : All H H := fun _ _ h => h
theorem All.trans {H H1 H2 : Hp} (a : All H H1) (b : All H1 H2) : All H H2 := fun c o h => b c o (a c o h)
theorem All.new {H : Hp} {a : Addr} {o : HO} (h : H a = none) : All H (upd H a o) := fun b u e => by rw [upd_ne (ne_of_none e h)]; exact e
theorem all_err {H : Hp} {C e d : Addr} {fs : List (Str × V)} (he : H e = none) (hd : H d = none) (hde : d ≠ e) : All H (Ge.withErr H C e d fs) := (All.new hd).trans (All.new (by rw [upd_ne (Ne.symm hde)]; exact he))
theorem err_at {K : W.Frag} {H : Hp} {e d : Addr} {n : Nat} {x y : V} (hn : n < 34) (he : H e = none) (hd : H d = none) (hde : d ≠ e) : Er K (Ge.withErr H (He.ga K (cn n)) e d (flds n x y)) n x y e :=
  .inr ⟨hn, d, upd_same, (by show upd (upd H d _) e _ d = _; rw [upd_ne hde]; exact upd_same)⟩
/-- one made by a way -/
def spMk (a b : Nat) (K : W.Frag) : Sp := fun vs H Q _ => ∃ (n : Nat) (x : V) (c : Bool), vs = [.int n, x, .bl c] ∧ a ≤ n ∧ n < b ∧ ∀ (e : Addr) (H' : Hp), All H H' → (∀ y, Er K H' n x y e) → Q (.ref e) H'
def spMade (K : W.Frag) : Sp := fun vs H Q _ => ∃ (n : Nat) (x y : V) (c : Bool), vs = [.int n, x, y, .bl c] ∧ n < 35 ∧ ∀ (e : Addr) (H' : Hp), All H H' → Er K H' n x y e → Q (.ref e) H'
theorem eqI {n : Nat} {i : Int} (c : decide (V.int (n : Int) = V.int i) = true) : n = i.toNat := by
  have := of_decide_eq_true c
  injection this with h
  omega
theorem neI {n : Nat} {i : Int} (c : ¬decide (V.int (n : Int) = V.int i) = true) : (n : Int) ≠ i := fun h => c (by rw [h]; exact decide_eq_true rfl)
end K10

set_option Elab.async false
set_option linter.all false
set_option maxRecDepth 100000
set_option maxHeartbeats 4000000
namespace K10
open PySem PySem.Spec L2 Gd

/-! ### derivations by the text's shape -/
local macro_rules | `(tactic| walk_at "gd nd") => `(tactic| assumption)
local macro_rules | `(tactic| walk_at "gd lo") => `(tactic| first | exact Or.inl rfl | exact Or.inr rfl)
local macro_rules | `(tactic| walk_at "gd var") => `(tactic| first | exact pv 0 | exact pv 1 | exact pv 2 | exact pv 3 | exact pv 4 | exact pv 5 | exact pv 6 | exact pv 7 | exact pv 8 | exact pv 9 | exact pv 10 | exact pv 11 | exact pv 12 | exact pv 13 | exact pe_glob rfl (by assumption) rfl | exact pe_glob rfl (Globs.h (by assumption) _ (by decide +kernel)) rfl | exact pe_bltn rfl (Frees.h (by assumption) _ (by decide +kernel)) (by decide +kernel) rfl)
local macro_rules | `(tactic| walk_at "gd a") => `(tactic| first | exact pa_nil | (refine' pa_cons ?k1 ?k2; (case k1 => walk_at "gd e"); (case k2 => walk_at "gd a")))
local macro_rules | `(tactic| walk_at "gd blt") => `(tactic| first
  | ((with_reducible show PE _ (Expr.Call (Expr.Name "abs" _) _ _ _) _); refine' pe_callB call_abs rfl (Frees.h (by assumption) _ (by decide +kernel)) (by decide +kernel) ?k1; (case k1 => walk_at "gd a"))
  | ((with_reducible show PE _ (Expr.Call (Expr.Name "max" _) _ _ _) _); refine' pe_callB (call_max2 rfl) rfl (Frees.h (by assumption) _ (by decide +kernel)) (by decide +kernel) ?k1; (case k1 => walk_at "gd a"))
  | ((with_reducible show PE _ (Expr.Call (Expr.Name "min" _) _ _ _) _); refine' pe_callB (call_min2 rfl) rfl (Frees.h (by assumption) _ (by decide +kernel)) (by decide +kernel) ?k1; (case k1 => walk_at "gd a"))
  | ((with_reducible show PE _ (Expr.Call (Expr.Name "len" _) _ _ _) _); refine' pe_callB (lenK (by assumption)) rfl (Frees.h (by assumption) _ (by decide +kernel)) (by decide +kernel) ?k1; (case k1 => walk_at "gd a"))
  | ((with_reducible show PE _ (Expr.Call (Expr.Name "divmod" _) _ _ _) _); refine' pe_callB call_divmod rfl (Frees.h (by assumption) _ (by decide +kernel)) (by decide +kernel) ?k1; (case k1 => walk_at "gd a"))
  | ((with_reducible show PE _ (Expr.Call (Expr.Name "all" _) _ _ _) _); refine' pe_callB (allK (by assumption) rfl) rfl (Frees.h (by assumption) _ (by decide +kernel)) (by decide +kernel) ?k1; (case k1 => walk_at "gd a"))
  | ((with_reducible show PE _ (Expr.Call (Expr.Name "isinstance" _) _ _ _) _); refine' pe_callB (isXK (by assumption)) rfl (Frees.h (by assumption) _ (by decide +kernel)) (by decide +kernel) ?k1; (case k1 => walk_at "gd a"))
  | ((with_reducible show PE _ (Expr.Call (Expr.Name "repr" _) _ _ _) _); refine' pe_callB (call_repr (by assumption) (by assumption)) rfl (Frees.h (by assumption) _ (by decide +kernel)) (by decide +kernel) ?k1; (case k1 => walk_at "gd a"))
  | ((with_reducible show PE _ (Expr.Call (Expr.Name "int" _) _ _ _) _); refine' pe_callTy call_int1 rfl (Frees.h (by assumption) _ (by decide +kernel)) (by decide +kernel) ?k1; (case k1 => walk_at "gd a"))
  | ((with_reducible show PE _ (Expr.Call (Expr.Name "tuple" _) _ _ _) _); refine' pe_callTy (tupK (by assumption)) rfl (Frees.h (by assumption) _ (by decide +kernel)) (by decide +kernel) ?k1; (case k1 => walk_at "gd a")))
local macro_rules | `(tactic| walk_at "gd call") => `(tactic| first
  | walk_at "gd blt"
  | (refine' pe_dn (by assumption) (by assumption) rfl (by first | decide | omega) ?k1; (case k1 => walk_at "gd a"))
  | (refine' pe_dnG (by assumption) (by assumption) (by assumption) rfl (by first | decide | omega) ?k1; (case k1 => walk_at "gd a"))
  | walk_at "gd own")
local macro_rules | `(tactic| walk_at "gd own") => `(tactic| fail)
local macro_rules | `(tactic| walk_at "gd it") => `(tactic| fail)
local macro_rules | `(tactic| walk_at "gd i") => `(tactic| first
  | ((with_reducible show PI _ _ (Expr.Call (Expr.Name "range" _) [_] _ _) _); refine' pi_range1 rfl (Frees.h (by assumption) _ (by decide +kernel)) ?k1; (case k1 => walk_at "gd a"))
  | walk_at "gd it")
local macro_rules | `(tactic| walk_at "gd cv") => `(tactic| fail)
local macro_rules | `(tactic| walk_at "gd lc") => `(tactic| walk_at "gd cv")
local macro_rules | `(tactic| walk_at "gd e") => `(tactic| first
  | ((with_reducible show PE _ (Expr.Constant _ _ _) _); first | exact pe_int | exact pe_str | exact pe_bl | exact pe_non)
  | ((with_reducible show PE _ (Expr.Name _ _) _); walk_at "gd var")
  | ((with_reducible show PE _ (Expr.BinOp _ Operator.Add _ _) _); refine' pe_op op_addA ?k1 ?k2; (case k1 => walk_at "gd e"); (case k2 => walk_at "gd e"))
  | ((with_reducible show PE _ (Expr.BinOp _ Operator.Sub _ _) _); refine' pe_op op_sub ?k1 ?k2; (case k1 => walk_at "gd e"); (case k2 => walk_at "gd e"))
  | ((with_reducible show PE _ (Expr.BinOp _ Operator.Mult _ _) _); refine' pe_op op_mulA ?k1 ?k2; (case k1 => walk_at "gd e"); (case k2 => walk_at "gd e"))
  | ((with_reducible show PE _ (Expr.BinOp _ Operator.Mod _ _) _); refine' pe_op op_mod ?k1 ?k2; (case k1 => walk_at "gd e"); (case k2 => walk_at "gd e"))
  | ((with_reducible show PE _ (Expr.BinOp _ Operator.FloorDiv _ _) _); refine' pe_op op_fdivW ?k1 ?k2; (case k1 => walk_at "gd e"); (case k2 => walk_at "gd e"))
  | ((with_reducible show PE _ (Expr.BinOp _ Operator.Pow _ _) _); refine' pe_op op_pow ?k1 ?k2; (case k1 => walk_at "gd e"); (case k2 => walk_at "gd e"))
  | ((with_reducible show PE _ (Expr.UnaryOp UnaryOp.USub _ _) _); refine' pe_un un_neg ?k1; (case k1 => walk_at "gd e"))
  | ((with_reducible show PE _ (Expr.UnaryOp UnaryOp.Not _ _) _); refine' pe_not ?k1; (case k1 => walk_at "gd e"))
  | ((with_reducible show PE _ (Expr.Compare _ [CmpOp.Lt] _ _) _); refine' pe_cmpR op_lt ?k1 ?k2 (by rfl); (case k1 => walk_at "gd e"); (case k2 => walk_at "gd e"))
  | ((with_reducible show PE _ (Expr.Compare _ [CmpOp.LtE] _ _) _); refine' pe_cmpR op_le ?k1 ?k2 (by rfl); (case k1 => walk_at "gd e"); (case k2 => walk_at "gd e"))
  | ((with_reducible show PE _ (Expr.Compare _ [CmpOp.Gt] _ _) _); refine' pe_cmpR op_gt ?k1 ?k2 (by rfl); (case k1 => walk_at "gd e"); (case k2 => walk_at "gd e"))
  | ((with_reducible show PE _ (Expr.Compare _ [CmpOp.GtE] _ _) _); refine' pe_cmpR op_ge ?k1 ?k2 (by rfl); (case k1 => walk_at "gd e"); (case k2 => walk_at "gd e"))
  | ((with_reducible show PE _ (Expr.Compare _ [CmpOp.Eq] _ _) _); refine' pe_cmpR (eqK (by assumption) (by assumption)) ?k1 ?k2 (by rfl); (case k1 => walk_at "gd e"); (case k2 => walk_at "gd e"))
  | ((with_reducible show PE _ (Expr.Compare _ [CmpOp.NotEq] _ _) _); refine' pe_cmpR (neK (by assumption) (by assumption)) ?k1 ?k2 (by rfl); (case k1 => walk_at "gd e"); (case k2 => walk_at "gd e"))
  | ((with_reducible show PE _ (Expr.Compare _ [CmpOp.In] _ _) _); refine' pe_cmpR (inK (by assumption)) ?k1 ?k2 (by rfl); (case k1 => walk_at "gd e"); (case k2 => walk_at "gd e"))
  | ((with_reducible show PE _ (Expr.Compare _ [CmpOp.NotIn] _ _) _); refine' pe_cmpR (niK (by assumption)) ?k1 ?k2 (by rfl); (case k1 => walk_at "gd e"); (case k2 => walk_at "gd e"))
  | ((with_reducible show PE _ (Expr.IfExp _ _ _ _) _); refine' pe_ifExp ?k1 ?k2 ?k3; (case k1 => walk_at "gd t"); (case k2 => walk_at "gd e"); (case k3 => walk_at "gd e"))
  | ((with_reducible show PE _ (Expr.Subscript _ (Expr.Slice none (some _) none _) _) _); refine' pe_slice sl_str ?k1 po_none (po_some ?k2); (case k1 => walk_at "gd e"); (case k2 => walk_at "gd e"))
  | ((with_reducible show PE _ (Expr.Subscript _ _ _) _); refine' pe_ix (ixK (by assumption)) ?k1 ?k2 (fun _ _ => rfl); (case k1 => walk_at "gd e"); (case k2 => walk_at "gd e"))
  | ((with_reducible show PE _ (Expr.List _ _) _); refine' pe_lst ?k1; (case k1 => walk_at "gd a"))
  | ((with_reducible show PE _ (Expr.Tuple _ _ _) _); refine' pe_tup ?k1; (case k1 => walk_at "gd a"))
  | ((with_reducible show PE _ (Expr.Dict [] [] _) _); exact pe_dnewK)
  | ((with_reducible show PE _ (Expr.Dict [_] [_] _) _); refine' pe_disp (pps_cons ?k1 ?k2 pps_nil) rfl rfl (fun z => by cases z) (by decide); (case k1 => walk_at "gd e"); (case k2 => walk_at "gd e"))
  | ((with_reducible show PE _ (Expr.Call (Expr.Attribute _ "join" _) _ _ _) _); refine' joinK (by assumption) ?k1 ?k2; (case k1 => walk_at "gd e"); (case k2 => walk_at "gd e"))
  | ((with_reducible show PE _ (Expr.Call (Expr.Attribute _ "append" _) _ _ _) _); refine' pe_bm PySem.F.plainAttrs_list PySem.F.slot_list_append PySem.F.type_list_append mt_append ?k1 ?k2; (case k1 => walk_at "gd e"); (case k2 => walk_at "gd a"))
  | ((with_reducible show PE _ (Expr.Attribute _ _ _) _); refine' efK (by assumption) ?k1; (case k1 => walk_at "gd e"))
  | ((with_reducible show PE _ (Expr.ListComp _ _ _ _) _); walk_at "gd lc")
  | walk_at "gd call")
local macro_rules | `(tactic| walk_at "gd t") => `(tactic| first
  | ((with_reducible show PT _ (Expr.UnaryOp UnaryOp.Not _ _) _); refine' pt_not ?k1; (case k1 => walk_at "gd t"))
  | ((with_reducible show PT _ (Expr.BoolOp BoolOp.And [_, _] _) _); refine' PW.pt (pw_and ?k1 (pw_and1 ?k2)); (case k1 => walk_at "gd t"); (case k2 => walk_at "gd t"))
  | ((with_reducible show PT _ (Expr.BoolOp BoolOp.Or [_, _] _) _); refine' PW.pt (pw_or ?k1 (pw_or1 ?k2)); (case k1 => walk_at "gd t"); (case k2 => walk_at "gd t"))
  | ((with_reducible show PT _ (Expr.Compare _ [CmpOp.Lt] _ _) _); refine' pt_cmpR op_lt ?k1 ?k2 (by rfl); (case k1 => walk_at "gd e"); (case k2 => walk_at "gd e"))
  | ((with_reducible show PT _ (Expr.Compare _ [CmpOp.LtE] _ _) _); refine' pt_cmpR op_le ?k1 ?k2 (by rfl); (case k1 => walk_at "gd e"); (case k2 => walk_at "gd e"))
  | ((with_reducible show PT _ (Expr.Compare _ [CmpOp.Gt] _ _) _); refine' pt_cmpR op_gt ?k1 ?k2 (by rfl); (case k1 => walk_at "gd e"); (case k2 => walk_at "gd e"))
  | ((with_reducible show PT _ (Expr.Compare _ [CmpOp.GtE] _ _) _); refine' pt_cmpR op_ge ?k1 ?k2 (by rfl); (case k1 => walk_at "gd e"); (case k2 => walk_at "gd e"))
  | ((with_reducible show PT _ (Expr.Compare _ [CmpOp.Eq] _ _) _); refine' pt_cmpR (eqK (by assumption) (by assumption)) ?k1 ?k2 (by rfl); (case k1 => walk_at "gd e"); (case k2 => walk_at "gd e"))
  | ((with_reducible show PT _ (Expr.Compare _ [CmpOp.NotEq] _ _) _); refine' pt_cmpR (neK (by assumption) (by assumption)) ?k1 ?k2 (by rfl); (case k1 => walk_at "gd e"); (case k2 => walk_at "gd e"))
  | ((with_reducible show PT _ (Expr.Compare _ [CmpOp.In] _ _) _); refine' pt_cmpR (inK (by assumption)) ?k1 ?k2 (by rfl); (case k1 => walk_at "gd e"); (case k2 => walk_at "gd e"))
  | ((with_reducible show PT _ (Expr.Compare _ [CmpOp.NotIn] _ _) _); refine' pt_cmpR (niK (by assumption)) ?k1 ?k2 (by rfl); (case k1 => walk_at "gd e"); (case k2 => walk_at "gd e"))
  | (refine' pt_val ?k1; (case k1 => walk_at "gd e")))
local macro_rules | `(tactic| walk_at "gd g") => `(tactic| first
  | ((with_reducible show PG _ (Expr.Name _ _) _); first | exact pg_name (i := 0) (by walk_at "gd nd") rfl (by walk_at "gd lo") | exact pg_name (i := 1) (by walk_at "gd nd") rfl (by walk_at "gd lo") | exact pg_name (i := 2) (by walk_at "gd nd") rfl (by walk_at "gd lo") | exact pg_name (i := 3) (by walk_at "gd nd") rfl (by walk_at "gd lo") | exact pg_name (i := 4) (by walk_at "gd nd") rfl (by walk_at "gd lo") | exact pg_name (i := 5) (by walk_at "gd nd") rfl (by walk_at "gd lo") | exact pg_name (i := 6) (by walk_at "gd nd") rfl (by walk_at "gd lo") | exact pg_name (i := 7) (by walk_at "gd nd") rfl (by walk_at "gd lo") | exact pg_name (i := 8) (by walk_at "gd nd") rfl (by walk_at "gd lo") | exact pg_name (i := 9) (by walk_at "gd nd") rfl (by walk_at "gd lo") | exact pg_name (i := 10) (by walk_at "gd nd") rfl (by walk_at "gd lo") | exact pg_name (i := 11) (by walk_at "gd nd") rfl (by walk_at "gd lo") | exact pg_name (i := 12) (by walk_at "gd nd") rfl (by walk_at "gd lo") | exact pg_name (i := 13) (by walk_at "gd nd") rfl (by walk_at "gd lo"))
  | ((with_reducible show PG _ (Expr.Subscript _ _ _) _); refine' pg_sub ?k1 ?k2 set_list; (case k1 => walk_at "gd e"); (case k2 => walk_at "gd e"))
  | ((with_reducible show PG _ (Expr.Tuple _ _ _) _); refine' pg_tup rfl ?k1; (case k1 => walk_at "gd gs")))
local macro_rules | `(tactic| walk_at "gd gs") => `(tactic| first | exact pgs_nil | (refine' pgs_cons ?k1 ?k2; (case k1 => walk_at "gd g"); (case k2 => walk_at "gd gs")))
local macro_rules | `(tactic| walk_at "gd set") => `(tactic| first | (refine' ps_set (i := 0) (by walk_at "gd nd") rfl (by walk_at "gd lo") ?k1; (case k1 => walk_at "gd e")) | (refine' ps_set (i := 1) (by walk_at "gd nd") rfl (by walk_at "gd lo") ?k1; (case k1 => walk_at "gd e")) | (refine' ps_set (i := 2) (by walk_at "gd nd") rfl (by walk_at "gd lo") ?k1; (case k1 => walk_at "gd e")) | (refine' ps_set (i := 3) (by walk_at "gd nd") rfl (by walk_at "gd lo") ?k1; (case k1 => walk_at "gd e")) | (refine' ps_set (i := 4) (by walk_at "gd nd") rfl (by walk_at "gd lo") ?k1; (case k1 => walk_at "gd e")) | (refine' ps_set (i := 5) (by walk_at "gd nd") rfl (by walk_at "gd lo") ?k1; (case k1 => walk_at "gd e")) | (refine' ps_set (i := 6) (by walk_at "gd nd") rfl (by walk_at "gd lo") ?k1; (case k1 => walk_at "gd e")) | (refine' ps_set (i := 7) (by walk_at "gd nd") rfl (by walk_at "gd lo") ?k1; (case k1 => walk_at "gd e")) | (refine' ps_set (i := 8) (by walk_at "gd nd") rfl (by walk_at "gd lo") ?k1; (case k1 => walk_at "gd e")) | (refine' ps_set (i := 9) (by walk_at "gd nd") rfl (by walk_at "gd lo") ?k1; (case k1 => walk_at "gd e")) | (refine' ps_set (i := 10) (by walk_at "gd nd") rfl (by walk_at "gd lo") ?k1; (case k1 => walk_at "gd e")) | (refine' ps_set (i := 11) (by walk_at "gd nd") rfl (by walk_at "gd lo") ?k1; (case k1 => walk_at "gd e")) | (refine' ps_set (i := 12) (by walk_at "gd nd") rfl (by walk_at "gd lo") ?k1; (case k1 => walk_at "gd e")) | (refine' ps_set (i := 13) (by walk_at "gd nd") rfl (by walk_at "gd lo") ?k1; (case k1 => walk_at "gd e")))
local macro_rules | `(tactic| walk_at "gd os") => `(tactic| fail)
local macro_rules | `(tactic| walk_at "gd slc") => `(tactic| fail)
local macro_rules | `(tactic| walk_at "gd par") => `(tactic| fail)
local macro_rules | `(tactic| walk_at "gd s") => `(tactic| first
  | ((with_reducible show PS _ (Stmt.Return (some _) _) _); refine' ps_ret ?k1; (case k1 => walk_at "gd e"))
  | ((with_reducible show PS _ (Stmt.If _ _ _ _) _); refine' ps_if ?k1 ?k2 ?k3; (case k1 => walk_at "gd t"); (case k2 => walk_at "gd ss"); (case k3 => walk_at "gd ss"))
  | ((with_reducible show PS _ (Stmt.Assign [Expr.Name _ _] (Expr.ListComp _ _ _ _) _) _); walk_at "gd slc")
  | ((with_reducible show PS _ (Stmt.Assign [Expr.Name _ _] _ _) _); walk_at "gd set")
  | ((with_reducible show PS _ (Stmt.Assign [_] _ _) _); refine' ps_asg ?k1 ?k2; (case k1 => walk_at "gd e"); (case k2 => walk_at "gd g"))
  | ((with_reducible show PS _ (Stmt.Assign [_] _ _) _); walk_at "gd par")
  | ((with_reducible show PS _ (Stmt.For _ _ _ _ _) _); refine' ps_for PassesOwn.never rfl ?k1 ?k2 ?k3; (case k1 => walk_at "gd i"); (case k2 => walk_at "gd g"); (case k3 => walk_at "gd ss"))
  | ((with_reducible show PS _ (Stmt.Expr _ _) _); refine' ps_expr ?k1; (case k1 => walk_at "gd e"))
  | walk_at "gd os")
local macro_rules | `(tactic| walk_at "gd ss") => `(tactic| first | exact pss_nil | (refine' pss_one ?k1; (case k1 => walk_at "gd s")) | (refine' pss_cons ?k1 ?k2; (case k1 => walk_at "gd s"); (case k2 => walk_at "gd ss")))
local macro_rules | `(tactic| walk_at "gd own") => `(tactic| first
  | (refine' Ge.pe_mk1 (One.h (by assumption) _ _ (by rfl)) (by assumption) rfl (Globs.h (by assumption) _ (by decide +kernel)) ?k1; (case k1 => walk_at "gd a"))
  | (refine' Ge.pe_mk1k (One.h (by assumption) _ _ (by rfl)) (by assumption) rfl (Globs.h (by assumption) _ (by decide +kernel)) (pk_cons ?k1 pk_nil); (case k1 => walk_at "gd e")))
abbrev sM1 : Stmt := top 47
abbrev sM2 : Stmt := top 48
abbrev sM3 : Stmt := top 49
abbrev aM : List Str := ["_law_way", "_law_x", "_law_plainly"]
theorem scM1 : FnScope aM aM (defScope sM1) := ⟨rfl, rfl, rfl, by decide +kernel, rfl, by decide +kernel, by decide +kernel⟩
theorem scM2 : FnScope aM aM (defScope sM2) := ⟨rfl, rfl, rfl, by decide +kernel, rfl, by decide +kernel, by decide +kernel⟩
theorem scM3 : FnScope aM aM (defScope sM3) := ⟨rfl, rfl, rfl, by decide +kernel, rfl, by decide +kernel, by decide +kernel⟩
theorem mk1_of {K : W.Frag} {n : Nat} {x : V} {H : Hp} {Q : VK} (hn : n < 32) (q : ∀ (e : Addr) (H' : Hp), All H H' → (∀ y, Er K H' n x y e) → Q (.ref e) H') :
    ∀ e d, H e = none → H d = none → d ≠ e → Q (.ref e) (Ge.withErr H (He.ga K (cn n)) e d [(fnm n, x)]) := fun e d he hd hde => q e _ (all_err he hd hde) fun y => by
  have z := err_at (K := K) (x := x) (y := y) (show n < 34 by omega) he hd hde
  rwa [show flds n x y = [(fnm n, x)] from if_pos hn] at z
section
variable {P : Program} {w : World} {K : W.Frag} {mg : Str → Option Value} {base : Heap} {f : Addr} {fd : FuncData}
theorem ok_m1 (fr : Frees mg) (gl : Globs K gnames mg) (on : One K) (F : Fun K "_law_made_first" "_law_made_first" sM1 f fd) :
    FnOk P w K mg base CX0 1 f fd aM (spMk 0 9 K) := by
  refine F.ok scM1 (fun vs H Q E h => ?_) (fun cdv A outer s H vs Q E hr h => ⟨?t, ?d, ?r⟩)
  · obtain ⟨n, x, c, rfl, _⟩ := h
    rfl
  case d =>
    have nd := scM1.nd
    have isk : IsK K := ⟨trivial⟩
    walk_at "gd ss"
  case r =>
    obtain ⟨n, x, b, rfl, h0, h1, q⟩ := h
    refine ⟨_, rfl, .inl ⟨rfl, _, rfl, ite2 (fun c => ?_) (fun c => ?_)⟩⟩
    · obtain rfl := eqI c
      exact ⟨_, rfl, _, rfl, ite2 (fun _ => ⟨_, rfl, _, rfl, mk1_of (n := 0) (by decide) q⟩) (fun _ => ⟨_, rfl, _, rfl, mk1_of (n := 0) (by decide) q⟩)⟩
    have c0 := neI c
    clear c
    refine ⟨_, rfl, .inl ⟨rfl, _, rfl, ite2 (fun c => ?_) (fun c => ?_)⟩⟩
    · obtain rfl := eqI c
      exact ⟨_, rfl, _, rfl, ite2 (fun _ => ⟨_, rfl, _, rfl, mk1_of (n := 1) (by decide) q⟩) (fun _ => ⟨_, rfl, _, rfl, mk1_of (n := 1) (by decide) q⟩)⟩
    have c1 := neI c
    clear c
    refine ⟨_, rfl, .inl ⟨rfl, _, rfl, ite2 (fun c => ?_) (fun c => ?_)⟩⟩
    · obtain rfl := eqI c
      exact ⟨_, rfl, _, rfl, ite2 (fun _ => ⟨_, rfl, _, rfl, mk1_of (n := 2) (by decide) q⟩) (fun _ => ⟨_, rfl, _, rfl, mk1_of (n := 2) (by decide) q⟩)⟩
    have c2 := neI c
    clear c
    refine ⟨_, rfl, .inl ⟨rfl, _, rfl, ite2 (fun c => ?_) (fun c => ?_)⟩⟩
    · obtain rfl := eqI c
      exact ⟨_, rfl, _, rfl, ite2 (fun _ => ⟨_, rfl, _, rfl, mk1_of (n := 3) (by decide) q⟩) (fun _ => ⟨_, rfl, _, rfl, mk1_of (n := 3) (by decide) q⟩)⟩
    have c3 := neI c
    clear c
    refine ⟨_, rfl, .inl ⟨rfl, _, rfl, ite2 (fun c => ?_) (fun c => ?_)⟩⟩
    · obtain rfl := eqI c
      exact ⟨_, rfl, _, rfl, ite2 (fun _ => ⟨_, rfl, _, rfl, mk1_of (n := 4) (by decide) q⟩) (fun _ => ⟨_, rfl, _, rfl, mk1_of (n := 4) (by decide) q⟩)⟩
    have c4 := neI c
    clear c
    refine ⟨_, rfl, .inl ⟨rfl, _, rfl, ite2 (fun c => ?_) (fun c => ?_)⟩⟩
    · obtain rfl := eqI c
      exact ⟨_, rfl, _, rfl, ite2 (fun _ => ⟨_, rfl, _, rfl, mk1_of (n := 5) (by decide) q⟩) (fun _ => ⟨_, rfl, _, rfl, mk1_of (n := 5) (by decide) q⟩)⟩
    have c5 := neI c
    clear c
    refine ⟨_, rfl, .inl ⟨rfl, _, rfl, ite2 (fun c => ?_) (fun c => ?_)⟩⟩
    · obtain rfl := eqI c
      exact ⟨_, rfl, _, rfl, ite2 (fun _ => ⟨_, rfl, _, rfl, mk1_of (n := 6) (by decide) q⟩) (fun _ => ⟨_, rfl, _, rfl, mk1_of (n := 6) (by decide) q⟩)⟩
    have c6 := neI c
    clear c
    refine ⟨_, rfl, .inl ⟨rfl, _, rfl, ite2 (fun c => ?_) (fun c => ?_)⟩⟩
    · obtain rfl := eqI c
      exact ⟨_, rfl, _, rfl, ite2 (fun _ => ⟨_, rfl, _, rfl, mk1_of (n := 7) (by decide) q⟩) (fun _ => ⟨_, rfl, _, rfl, mk1_of (n := 7) (by decide) q⟩)⟩
    have c7 := neI c
    clear c
    obtain rfl : n = 8 := by omega
    exact ⟨_, rfl, _, rfl, ite2 (fun _ => ⟨_, rfl, _, rfl, mk1_of (n := 8) (by decide) q⟩) (fun _ => ⟨_, rfl, _, rfl, mk1_of (n := 8) (by decide) q⟩)⟩
theorem ok_m2 (fr : Frees mg) (gl : Globs K gnames mg) (on : One K) (F : Fun K "_law_made_second" "_law_made_second" sM2 f fd) :
    FnOk P w K mg base CX0 1 f fd aM (spMk 9 18 K) := by
  refine F.ok scM2 (fun vs H Q E h => ?_) (fun cdv A outer s H vs Q E hr h => ⟨?t, ?d, ?r⟩)
  · obtain ⟨n, x, c, rfl, _⟩ := h
    rfl
  case d =>
    have nd := scM2.nd
    have isk : IsK K := ⟨trivial⟩
    walk_at "gd ss"
  case r =>
    obtain ⟨n, x, b, rfl, h0, h1, q⟩ := h
    refine ⟨_, rfl, .inl ⟨rfl, _, rfl, ite2 (fun c => ?_) (fun c => ?_)⟩⟩
    · obtain rfl := eqI c
      exact ⟨_, rfl, _, rfl, ite2 (fun _ => ⟨_, rfl, _, rfl, mk1_of (n := 9) (by decide) q⟩) (fun _ => ⟨_, rfl, _, rfl, mk1_of (n := 9) (by decide) q⟩)⟩
    have c9 := neI c
    clear c
    refine ⟨_, rfl, .inl ⟨rfl, _, rfl, ite2 (fun c => ?_) (fun c => ?_)⟩⟩
    · obtain rfl := eqI c
      exact ⟨_, rfl, _, rfl, ite2 (fun _ => ⟨_, rfl, _, rfl, mk1_of (n := 10) (by decide) q⟩) (fun _ => ⟨_, rfl, _, rfl, mk1_of (n := 10) (by decide) q⟩)⟩
    have c10 := neI c
    clear c
    refine ⟨_, rfl, .inl ⟨rfl, _, rfl, ite2 (fun c => ?_) (fun c => ?_)⟩⟩
    · obtain rfl := eqI c
      exact ⟨_, rfl, _, rfl, ite2 (fun _ => ⟨_, rfl, _, rfl, mk1_of (n := 11) (by decide) q⟩) (fun _ => ⟨_, rfl, _, rfl, mk1_of (n := 11) (by decide) q⟩)⟩
    have c11 := neI c
    clear c
    refine ⟨_, rfl, .inl ⟨rfl, _, rfl, ite2 (fun c => ?_) (fun c => ?_)⟩⟩
    · obtain rfl := eqI c
      exact ⟨_, rfl, _, rfl, ite2 (fun _ => ⟨_, rfl, _, rfl, mk1_of (n := 12) (by decide) q⟩) (fun _ => ⟨_, rfl, _, rfl, mk1_of (n := 12) (by decide) q⟩)⟩
    have c12 := neI c
    clear c
    refine ⟨_, rfl, .inl ⟨rfl, _, rfl, ite2 (fun c => ?_) (fun c => ?_)⟩⟩
    · obtain rfl := eqI c
      exact ⟨_, rfl, _, rfl, ite2 (fun _ => ⟨_, rfl, _, rfl, mk1_of (n := 13) (by decide) q⟩) (fun _ => ⟨_, rfl, _, rfl, mk1_of (n := 13) (by decide) q⟩)⟩
    have c13 := neI c
    clear c
    refine ⟨_, rfl, .inl ⟨rfl, _, rfl, ite2 (fun c => ?_) (fun c => ?_)⟩⟩
    · obtain rfl := eqI c
      exact ⟨_, rfl, _, rfl, ite2 (fun _ => ⟨_, rfl, _, rfl, mk1_of (n := 14) (by decide) q⟩) (fun _ => ⟨_, rfl, _, rfl, mk1_of (n := 14) (by decide) q⟩)⟩
    have c14 := neI c
    clear c
    refine ⟨_, rfl, .inl ⟨rfl, _, rfl, ite2 (fun c => ?_) (fun c => ?_)⟩⟩
    · obtain rfl := eqI c
      exact ⟨_, rfl, _, rfl, ite2 (fun _ => ⟨_, rfl, _, rfl, mk1_of (n := 15) (by decide) q⟩) (fun _ => ⟨_, rfl, _, rfl, mk1_of (n := 15) (by decide) q⟩)⟩
    have c15 := neI c
    clear c
    refine ⟨_, rfl, .inl ⟨rfl, _, rfl, ite2 (fun c => ?_) (fun c => ?_)⟩⟩
    · obtain rfl := eqI c
      exact ⟨_, rfl, _, rfl, ite2 (fun _ => ⟨_, rfl, _, rfl, mk1_of (n := 16) (by decide) q⟩) (fun _ => ⟨_, rfl, _, rfl, mk1_of (n := 16) (by decide) q⟩)⟩
    have c16 := neI c
    clear c
    obtain rfl : n = 17 := by omega
    exact ⟨_, rfl, _, rfl, ite2 (fun _ => ⟨_, rfl, _, rfl, mk1_of (n := 17) (by decide) q⟩) (fun _ => ⟨_, rfl, _, rfl, mk1_of (n := 17) (by decide) q⟩)⟩
theorem ok_m3 (fr : Frees mg) (gl : Globs K gnames mg) (on : One K) (F : Fun K "_law_made_third" "_law_made_third" sM3 f fd) :
    FnOk P w K mg base CX0 1 f fd aM (spMk 18 30 K) := by
  refine F.ok scM3 (fun vs H Q E h => ?_) (fun cdv A outer s H vs Q E hr h => ⟨?t, ?d, ?r⟩)
  · obtain ⟨n, x, c, rfl, _⟩ := h
    rfl
  case d =>
    have nd := scM3.nd
    have isk : IsK K := ⟨trivial⟩
    walk_at "gd ss"
  case r =>
    obtain ⟨n, x, b, rfl, h0, h1, q⟩ := h
    refine ⟨_, rfl, .inl ⟨rfl, _, rfl, ite2 (fun c => ?_) (fun c => ?_)⟩⟩
    · obtain rfl := eqI c
      exact ⟨_, rfl, _, rfl, ite2 (fun _ => ⟨_, rfl, _, rfl, mk1_of (n := 18) (by decide) q⟩) (fun _ => ⟨_, rfl, _, rfl, mk1_of (n := 18) (by decide) q⟩)⟩
    have c18 := neI c
    clear c
    refine ⟨_, rfl, .inl ⟨rfl, _, rfl, ite2 (fun c => ?_) (fun c => ?_)⟩⟩
    · obtain rfl := eqI c
      exact ⟨_, rfl, _, rfl, ite2 (fun _ => ⟨_, rfl, _, rfl, mk1_of (n := 19) (by decide) q⟩) (fun _ => ⟨_, rfl, _, rfl, mk1_of (n := 19) (by decide) q⟩)⟩
    have c19 := neI c
    clear c
    refine ⟨_, rfl, .inl ⟨rfl, _, rfl, ite2 (fun c => ?_) (fun c => ?_)⟩⟩
    · obtain rfl := eqI c
      exact ⟨_, rfl, _, rfl, ite2 (fun _ => ⟨_, rfl, _, rfl, mk1_of (n := 20) (by decide) q⟩) (fun _ => ⟨_, rfl, _, rfl, mk1_of (n := 20) (by decide) q⟩)⟩
    have c20 := neI c
    clear c
    refine ⟨_, rfl, .inl ⟨rfl, _, rfl, ite2 (fun c => ?_) (fun c => ?_)⟩⟩
    · obtain rfl := eqI c
      exact ⟨_, rfl, _, rfl, ite2 (fun _ => ⟨_, rfl, _, rfl, mk1_of (n := 21) (by decide) q⟩) (fun _ => ⟨_, rfl, _, rfl, mk1_of (n := 21) (by decide) q⟩)⟩
    have c21 := neI c
    clear c
    refine ⟨_, rfl, .inl ⟨rfl, _, rfl, ite2 (fun c => ?_) (fun c => ?_)⟩⟩
    · obtain rfl := eqI c
      exact ⟨_, rfl, _, rfl, ite2 (fun _ => ⟨_, rfl, _, rfl, mk1_of (n := 22) (by decide) q⟩) (fun _ => ⟨_, rfl, _, rfl, mk1_of (n := 22) (by decide) q⟩)⟩
    have c22 := neI c
    clear c
    refine ⟨_, rfl, .inl ⟨rfl, _, rfl, ite2 (fun c => ?_) (fun c => ?_)⟩⟩
    · obtain rfl := eqI c
      exact ⟨_, rfl, _, rfl, ite2 (fun _ => ⟨_, rfl, _, rfl, mk1_of (n := 23) (by decide) q⟩) (fun _ => ⟨_, rfl, _, rfl, mk1_of (n := 23) (by decide) q⟩)⟩
    have c23 := neI c
    clear c
    refine ⟨_, rfl, .inl ⟨rfl, _, rfl, ite2 (fun c => ?_) (fun c => ?_)⟩⟩
    · obtain rfl := eqI c
      exact ⟨_, rfl, _, rfl, ite2 (fun _ => ⟨_, rfl, _, rfl, mk1_of (n := 24) (by decide) q⟩) (fun _ => ⟨_, rfl, _, rfl, mk1_of (n := 24) (by decide) q⟩)⟩
    have c24 := neI c
    clear c
    refine ⟨_, rfl, .inl ⟨rfl, _, rfl, ite2 (fun c => ?_) (fun c => ?_)⟩⟩
    · obtain rfl := eqI c
      exact ⟨_, rfl, _, rfl, ite2 (fun _ => ⟨_, rfl, _, rfl, mk1_of (n := 25) (by decide) q⟩) (fun _ => ⟨_, rfl, _, rfl, mk1_of (n := 25) (by decide) q⟩)⟩
    have c25 := neI c
    clear c
    refine ⟨_, rfl, .inl ⟨rfl, _, rfl, ite2 (fun c => ?_) (fun c => ?_)⟩⟩
    · obtain rfl := eqI c
      exact ⟨_, rfl, _, rfl, ite2 (fun _ => ⟨_, rfl, _, rfl, mk1_of (n := 26) (by decide) q⟩) (fun _ => ⟨_, rfl, _, rfl, mk1_of (n := 26) (by decide) q⟩)⟩
    have c26 := neI c
    clear c
    refine ⟨_, rfl, .inl ⟨rfl, _, rfl, ite2 (fun c => ?_) (fun c => ?_)⟩⟩
    · obtain rfl := eqI c
      exact ⟨_, rfl, _, rfl, ite2 (fun _ => ⟨_, rfl, _, rfl, mk1_of (n := 27) (by decide) q⟩) (fun _ => ⟨_, rfl, _, rfl, mk1_of (n := 27) (by decide) q⟩)⟩
    have c27 := neI c
    clear c
    refine ⟨_, rfl, .inl ⟨rfl, _, rfl, ite2 (fun c => ?_) (fun c => ?_)⟩⟩
    · obtain rfl := eqI c
      exact ⟨_, rfl, _, rfl, ite2 (fun _ => ⟨_, rfl, _, rfl, mk1_of (n := 28) (by decide) q⟩) (fun _ => ⟨_, rfl, _, rfl, mk1_of (n := 28) (by decide) q⟩)⟩
    have c28 := neI c
    clear c
    obtain rfl : n = 29 := by omega
    exact ⟨_, rfl, _, rfl, ite2 (fun _ => ⟨_, rfl, _, rfl, mk1_of (n := 29) (by decide) q⟩) (fun _ => ⟨_, rfl, _, rfl, mk1_of (n := 29) (by decide) q⟩)⟩
end
end K10

set_option Elab.async false
set_option linter.all false
set_option maxRecDepth 100000
set_option maxHeartbeats 4000000
namespace K10
open PySem PySem.Spec L2 Gd

/-! ### derivations by the text's shape -/
local macro_rules | `(tactic| walk_at "gd nd") => `(tactic| assumption)
local macro_rules | `(tactic| walk_at "gd lo") => `(tactic| first | exact Or.inl rfl | exact Or.inr rfl)
local macro_rules | `(tactic| walk_at "gd var") => `(tactic| first | exact pv 0 | exact pv 1 | exact pv 2 | exact pv 3 | exact pv 4 | exact pv 5 | exact pv 6 | exact pv 7 | exact pv 8 | exact pv 9 | exact pv 10 | exact pv 11 | exact pv 12 | exact pv 13 | exact pe_glob rfl (by assumption) rfl | exact pe_glob rfl (Globs.h (by assumption) _ (by decide +kernel)) rfl | exact pe_bltn rfl (Frees.h (by assumption) _ (by decide +kernel)) (by decide +kernel) rfl)
local macro_rules | `(tactic| walk_at "gd a") => `(tactic| first | exact pa_nil | (refine' pa_cons ?k1 ?k2; (case k1 => walk_at "gd e"); (case k2 => walk_at "gd a")))
local macro_rules | `(tactic| walk_at "gd blt") => `(tactic| first
  | ((with_reducible show PE _ (Expr.Call (Expr.Name "abs" _) _ _ _) _); refine' pe_callB call_abs rfl (Frees.h (by assumption) _ (by decide +kernel)) (by decide +kernel) ?k1; (case k1 => walk_at "gd a"))
  | ((with_reducible show PE _ (Expr.Call (Expr.Name "max" _) _ _ _) _); refine' pe_callB (call_max2 rfl) rfl (Frees.h (by assumption) _ (by decide +kernel)) (by decide +kernel) ?k1; (case k1 => walk_at "gd a"))
  | ((with_reducible show PE _ (Expr.Call (Expr.Name "min" _) _ _ _) _); refine' pe_callB (call_min2 rfl) rfl (Frees.h (by assumption) _ (by decide +kernel)) (by decide +kernel) ?k1; (case k1 => walk_at "gd a"))
  | ((with_reducible show PE _ (Expr.Call (Expr.Name "len" _) _ _ _) _); refine' pe_callB (lenK (by assumption)) rfl (Frees.h (by assumption) _ (by decide +kernel)) (by decide +kernel) ?k1; (case k1 => walk_at "gd a"))
  | ((with_reducible show PE _ (Expr.Call (Expr.Name "divmod" _) _ _ _) _); refine' pe_callB call_divmod rfl (Frees.h (by assumption) _ (by decide +kernel)) (by decide +kernel) ?k1; (case k1 => walk_at "gd a"))
  | ((with_reducible show PE _ (Expr.Call (Expr.Name "all" _) _ _ _) _); refine' pe_callB (allK (by assumption) rfl) rfl (Frees.h (by assumption) _ (by decide +kernel)) (by decide +kernel) ?k1; (case k1 => walk_at "gd a"))
  | ((with_reducible show PE _ (Expr.Call (Expr.Name "isinstance" _) _ _ _) _); refine' pe_callB (isXK (by assumption)) rfl (Frees.h (by assumption) _ (by decide +kernel)) (by decide +kernel) ?k1; (case k1 => walk_at "gd a"))
  | ((with_reducible show PE _ (Expr.Call (Expr.Name "repr" _) _ _ _) _); refine' pe_callB (call_repr (by assumption) (by assumption)) rfl (Frees.h (by assumption) _ (by decide +kernel)) (by decide +kernel) ?k1; (case k1 => walk_at "gd a"))
  | ((with_reducible show PE _ (Expr.Call (Expr.Name "int" _) _ _ _) _); refine' pe_callTy call_int1 rfl (Frees.h (by assumption) _ (by decide +kernel)) (by decide +kernel) ?k1; (case k1 => walk_at "gd a"))
  | ((with_reducible show PE _ (Expr.Call (Expr.Name "tuple" _) _ _ _) _); refine' pe_callTy (tupK (by assumption)) rfl (Frees.h (by assumption) _ (by decide +kernel)) (by decide +kernel) ?k1; (case k1 => walk_at "gd a")))
local macro_rules | `(tactic| walk_at "gd call") => `(tactic| first
  | walk_at "gd blt"
  | (refine' pe_dn (by assumption) (by assumption) rfl (by first | decide | omega) ?k1; (case k1 => walk_at "gd a"))
  | (refine' pe_dnG (by assumption) (by assumption) (by assumption) rfl (by first | decide | omega) ?k1; (case k1 => walk_at "gd a"))
  | walk_at "gd own")
local macro_rules | `(tactic| walk_at "gd own") => `(tactic| fail)
local macro_rules | `(tactic| walk_at "gd it") => `(tactic| fail)
local macro_rules | `(tactic| walk_at "gd i") => `(tactic| first
  | ((with_reducible show PI _ _ (Expr.Call (Expr.Name "range" _) [_] _ _) _); refine' pi_range1 rfl (Frees.h (by assumption) _ (by decide +kernel)) ?k1; (case k1 => walk_at "gd a"))
  | walk_at "gd it")
local macro_rules | `(tactic| walk_at "gd cv") => `(tactic| fail)
local macro_rules | `(tactic| walk_at "gd lc") => `(tactic| walk_at "gd cv")
local macro_rules | `(tactic| walk_at "gd e") => `(tactic| first
  | ((with_reducible show PE _ (Expr.Constant _ _ _) _); first | exact pe_int | exact pe_str | exact pe_bl | exact pe_non)
  | ((with_reducible show PE _ (Expr.Name _ _) _); walk_at "gd var")
  | ((with_reducible show PE _ (Expr.BinOp _ Operator.Add _ _) _); refine' pe_op op_addA ?k1 ?k2; (case k1 => walk_at "gd e"); (case k2 => walk_at "gd e"))
  | ((with_reducible show PE _ (Expr.BinOp _ Operator.Sub _ _) _); refine' pe_op op_sub ?k1 ?k2; (case k1 => walk_at "gd e"); (case k2 => walk_at "gd e"))
  | ((with_reducible show PE _ (Expr.BinOp _ Operator.Mult _ _) _); refine' pe_op op_mulA ?k1 ?k2; (case k1 => walk_at "gd e"); (case k2 => walk_at "gd e"))
  | ((with_reducible show PE _ (Expr.BinOp _ Operator.Mod _ _) _); refine' pe_op op_mod ?k1 ?k2; (case k1 => walk_at "gd e"); (case k2 => walk_at "gd e"))
  | ((with_reducible show PE _ (Expr.BinOp _ Operator.FloorDiv _ _) _); refine' pe_op op_fdivW ?k1 ?k2; (case k1 => walk_at "gd e"); (case k2 => walk_at "gd e"))
  | ((with_reducible show PE _ (Expr.BinOp _ Operator.Pow _ _) _); refine' pe_op op_pow ?k1 ?k2; (case k1 => walk_at "gd e"); (case k2 => walk_at "gd e"))
  | ((with_reducible show PE _ (Expr.UnaryOp UnaryOp.USub _ _) _); refine' pe_un un_neg ?k1; (case k1 => walk_at "gd e"))
  | ((with_reducible show PE _ (Expr.UnaryOp UnaryOp.Not _ _) _); refine' pe_not ?k1; (case k1 => walk_at "gd e"))
  | ((with_reducible show PE _ (Expr.Compare _ [CmpOp.Lt] _ _) _); refine' pe_cmpR op_lt ?k1 ?k2 (by rfl); (case k1 => walk_at "gd e"); (case k2 => walk_at "gd e"))
  | ((with_reducible show PE _ (Expr.Compare _ [CmpOp.LtE] _ _) _); refine' pe_cmpR op_le ?k1 ?k2 (by rfl); (case k1 => walk_at "gd e"); (case k2 => walk_at "gd e"))
  | ((with_reducible show PE _ (Expr.Compare _ [CmpOp.Gt] _ _) _); refine' pe_cmpR op_gt ?k1 ?k2 (by rfl); (case k1 => walk_at "gd e"); (case k2 => walk_at "gd e"))
  | ((with_reducible show PE _ (Expr.Compare _ [CmpOp.GtE] _ _) _); refine' pe_cmpR op_ge ?k1 ?k2 (by rfl); (case k1 => walk_at "gd e"); (case k2 => walk_at "gd e"))
  | ((with_reducible show PE _ (Expr.Compare _ [CmpOp.Eq] _ _) _); refine' pe_cmpR (eqK (by assumption) (by assumption)) ?k1 ?k2 (by rfl); (case k1 => walk_at "gd e"); (case k2 => walk_at "gd e"))
  | ((with_reducible show PE _ (Expr.Compare _ [CmpOp.NotEq] _ _) _); refine' pe_cmpR (neK (by assumption) (by assumption)) ?k1 ?k2 (by rfl); (case k1 => walk_at "gd e"); (case k2 => walk_at "gd e"))
  | ((with_reducible show PE _ (Expr.Compare _ [CmpOp.In] _ _) _); refine' pe_cmpR (inK (by assumption)) ?k1 ?k2 (by rfl); (case k1 => walk_at "gd e"); (case k2 => walk_at "gd e"))
  | ((with_reducible show PE _ (Expr.Compare _ [CmpOp.NotIn] _ _) _); refine' pe_cmpR (niK (by assumption)) ?k1 ?k2 (by rfl); (case k1 => walk_at "gd e"); (case k2 => walk_at "gd e"))
  | ((with_reducible show PE _ (Expr.IfExp _ _ _ _) _); refine' pe_ifExp ?k1 ?k2 ?k3; (case k1 => walk_at "gd t"); (case k2 => walk_at "gd e"); (case k3 => walk_at "gd e"))
  | ((with_reducible show PE _ (Expr.Subscript _ (Expr.Slice none (some _) none _) _) _); refine' pe_slice sl_str ?k1 po_none (po_some ?k2); (case k1 => walk_at "gd e"); (case k2 => walk_at "gd e"))
  | ((with_reducible show PE _ (Expr.Subscript _ _ _) _); refine' pe_ix (ixK (by assumption)) ?k1 ?k2 (fun _ _ => rfl); (case k1 => walk_at "gd e"); (case k2 => walk_at "gd e"))
  | ((with_reducible show PE _ (Expr.List _ _) _); refine' pe_lst ?k1; (case k1 => walk_at "gd a"))
  | ((with_reducible show PE _ (Expr.Tuple _ _ _) _); refine' pe_tup ?k1; (case k1 => walk_at "gd a"))
  | ((with_reducible show PE _ (Expr.Dict [] [] _) _); exact pe_dnewK)
  | ((with_reducible show PE _ (Expr.Dict [_] [_] _) _); refine' pe_disp (pps_cons ?k1 ?k2 pps_nil) rfl rfl (fun z => by cases z) (by decide); (case k1 => walk_at "gd e"); (case k2 => walk_at "gd e"))
  | ((with_reducible show PE _ (Expr.Call (Expr.Attribute _ "join" _) _ _ _) _); refine' joinK (by assumption) ?k1 ?k2; (case k1 => walk_at "gd e"); (case k2 => walk_at "gd e"))
  | ((with_reducible show PE _ (Expr.Call (Expr.Attribute _ "append" _) _ _ _) _); refine' pe_bm PySem.F.plainAttrs_list PySem.F.slot_list_append PySem.F.type_list_append mt_append ?k1 ?k2; (case k1 => walk_at "gd e"); (case k2 => walk_at "gd a"))
  | ((with_reducible show PE _ (Expr.Attribute _ _ _) _); refine' efK (by assumption) ?k1; (case k1 => walk_at "gd e"))
  | ((with_reducible show PE _ (Expr.ListComp _ _ _ _) _); walk_at "gd lc")
  | walk_at "gd call")
local macro_rules | `(tactic| walk_at "gd t") => `(tactic| first
  | ((with_reducible show PT _ (Expr.UnaryOp UnaryOp.Not _ _) _); refine' pt_not ?k1; (case k1 => walk_at "gd t"))
  | ((with_reducible show PT _ (Expr.BoolOp BoolOp.And [_, _] _) _); refine' PW.pt (pw_and ?k1 (pw_and1 ?k2)); (case k1 => walk_at "gd t"); (case k2 => walk_at "gd t"))
  | ((with_reducible show PT _ (Expr.BoolOp BoolOp.Or [_, _] _) _); refine' PW.pt (pw_or ?k1 (pw_or1 ?k2)); (case k1 => walk_at "gd t"); (case k2 => walk_at "gd t"))
  | ((with_reducible show PT _ (Expr.Compare _ [CmpOp.Lt] _ _) _); refine' pt_cmpR op_lt ?k1 ?k2 (by rfl); (case k1 => walk_at "gd e"); (case k2 => walk_at "gd e"))
  | ((with_reducible show PT _ (Expr.Compare _ [CmpOp.LtE] _ _) _); refine' pt_cmpR op_le ?k1 ?k2 (by rfl); (case k1 => walk_at "gd e"); (case k2 => walk_at "gd e"))
  | ((with_reducible show PT _ (Expr.Compare _ [CmpOp.Gt] _ _) _); refine' pt_cmpR op_gt ?k1 ?k2 (by rfl); (case k1 => walk_at "gd e"); (case k2 => walk_at "gd e"))
  | ((with_reducible show PT _ (Expr.Compare _ [CmpOp.GtE] _ _) _); refine' pt_cmpR op_ge ?k1 ?k2 (by rfl); (case k1 => walk_at "gd e"); (case k2 => walk_at "gd e"))
  | ((with_reducible show PT _ (Expr.Compare _ [CmpOp.Eq] _ _) _); refine' pt_cmpR (eqK (by assumption) (by assumption)) ?k1 ?k2 (by rfl); (case k1 => walk_at "gd e"); (case k2 => walk_at "gd e"))
  | ((with_reducible show PT _ (Expr.Compare _ [CmpOp.NotEq] _ _) _); refine' pt_cmpR (neK (by assumption) (by assumption)) ?k1 ?k2 (by rfl); (case k1 => walk_at "gd e"); (case k2 => walk_at "gd e"))
  | ((with_reducible show PT _ (Expr.Compare _ [CmpOp.In] _ _) _); refine' pt_cmpR (inK (by assumption)) ?k1 ?k2 (by rfl); (case k1 => walk_at "gd e"); (case k2 => walk_at "gd e"))
  | ((with_reducible show PT _ (Expr.Compare _ [CmpOp.NotIn] _ _) _); refine' pt_cmpR (niK (by assumption)) ?k1 ?k2 (by rfl); (case k1 => walk_at "gd e"); (case k2 => walk_at "gd e"))
  | (refine' pt_val ?k1; (case k1 => walk_at "gd e")))
local macro_rules | `(tactic| walk_at "gd g") => `(tactic| first
  | ((with_reducible show PG _ (Expr.Name _ _) _); first | exact pg_name (i := 0) (by walk_at "gd nd") rfl (by walk_at "gd lo") | exact pg_name (i := 1) (by walk_at "gd nd") rfl (by walk_at "gd lo") | exact pg_name (i := 2) (by walk_at "gd nd") rfl (by walk_at "gd lo") | exact pg_name (i := 3) (by walk_at "gd nd") rfl (by walk_at "gd lo") | exact pg_name (i := 4) (by walk_at "gd nd") rfl (by walk_at "gd lo") | exact pg_name (i := 5) (by walk_at "gd nd") rfl (by walk_at "gd lo") | exact pg_name (i := 6) (by walk_at "gd nd") rfl (by walk_at "gd lo") | exact pg_name (i := 7) (by walk_at "gd nd") rfl (by walk_at "gd lo") | exact pg_name (i := 8) (by walk_at "gd nd") rfl (by walk_at "gd lo") | exact pg_name (i := 9) (by walk_at "gd nd") rfl (by walk_at "gd lo") | exact pg_name (i := 10) (by walk_at "gd nd") rfl (by walk_at "gd lo") | exact pg_name (i := 11) (by walk_at "gd nd") rfl (by walk_at "gd lo") | exact pg_name (i := 12) (by walk_at "gd nd") rfl (by walk_at "gd lo") | exact pg_name (i := 13) (by walk_at "gd nd") rfl (by walk_at "gd lo"))
  | ((with_reducible show PG _ (Expr.Subscript _ _ _) _); refine' pg_sub ?k1 ?k2 set_list; (case k1 => walk_at "gd e"); (case k2 => walk_at "gd e"))
  | ((with_reducible show PG _ (Expr.Tuple _ _ _) _); refine' pg_tup rfl ?k1; (case k1 => walk_at "gd gs")))
local macro_rules | `(tactic| walk_at "gd gs") => `(tactic| first | exact pgs_nil | (refine' pgs_cons ?k1 ?k2; (case k1 => walk_at "gd g"); (case k2 => walk_at "gd gs")))
local macro_rules | `(tactic| walk_at "gd set") => `(tactic| first | (refine' ps_set (i := 0) (by walk_at "gd nd") rfl (by walk_at "gd lo") ?k1; (case k1 => walk_at "gd e")) | (refine' ps_set (i := 1) (by walk_at "gd nd") rfl (by walk_at "gd lo") ?k1; (case k1 => walk_at "gd e")) | (refine' ps_set (i := 2) (by walk_at "gd nd") rfl (by walk_at "gd lo") ?k1; (case k1 => walk_at "gd e")) | (refine' ps_set (i := 3) (by walk_at "gd nd") rfl (by walk_at "gd lo") ?k1; (case k1 => walk_at "gd e")) | (refine' ps_set (i := 4) (by walk_at "gd nd") rfl (by walk_at "gd lo") ?k1; (case k1 => walk_at "gd e")) | (refine' ps_set (i := 5) (by walk_at "gd nd") rfl (by walk_at "gd lo") ?k1; (case k1 => walk_at "gd e")) | (refine' ps_set (i := 6) (by walk_at "gd nd") rfl (by walk_at "gd lo") ?k1; (case k1 => walk_at "gd e")) | (refine' ps_set (i := 7) (by walk_at "gd nd") rfl (by walk_at "gd lo") ?k1; (case k1 => walk_at "gd e")) | (refine' ps_set (i := 8) (by walk_at "gd nd") rfl (by walk_at "gd lo") ?k1; (case k1 => walk_at "gd e")) | (refine' ps_set (i := 9) (by walk_at "gd nd") rfl (by walk_at "gd lo") ?k1; (case k1 => walk_at "gd e")) | (refine' ps_set (i := 10) (by walk_at "gd nd") rfl (by walk_at "gd lo") ?k1; (case k1 => walk_at "gd e")) | (refine' ps_set (i := 11) (by walk_at "gd nd") rfl (by walk_at "gd lo") ?k1; (case k1 => walk_at "gd e")) | (refine' ps_set (i := 12) (by walk_at "gd nd") rfl (by walk_at "gd lo") ?k1; (case k1 => walk_at "gd e")) | (refine' ps_set (i := 13) (by walk_at "gd nd") rfl (by walk_at "gd lo") ?k1; (case k1 => walk_at "gd e")))
local macro_rules | `(tactic| walk_at "gd os") => `(tactic| fail)
local macro_rules | `(tactic| walk_at "gd slc") => `(tactic| fail)
local macro_rules | `(tactic| walk_at "gd par") => `(tactic| fail)
local macro_rules | `(tactic| walk_at "gd s") => `(tactic| first
  | ((with_reducible show PS _ (Stmt.Return (some _) _) _); refine' ps_ret ?k1; (case k1 => walk_at "gd e"))
  | ((with_reducible show PS _ (Stmt.If _ _ _ _) _); refine' ps_if ?k1 ?k2 ?k3; (case k1 => walk_at "gd t"); (case k2 => walk_at "gd ss"); (case k3 => walk_at "gd ss"))
  | ((with_reducible show PS _ (Stmt.Assign [Expr.Name _ _] (Expr.ListComp _ _ _ _) _) _); walk_at "gd slc")
  | ((with_reducible show PS _ (Stmt.Assign [Expr.Name _ _] _ _) _); walk_at "gd set")
  | ((with_reducible show PS _ (Stmt.Assign [_] _ _) _); refine' ps_asg ?k1 ?k2; (case k1 => walk_at "gd e"); (case k2 => walk_at "gd g"))
  | ((with_reducible show PS _ (Stmt.Assign [_] _ _) _); walk_at "gd par")
  | ((with_reducible show PS _ (Stmt.For _ _ _ _ _) _); refine' ps_for PassesOwn.never rfl ?k1 ?k2 ?k3; (case k1 => walk_at "gd i"); (case k2 => walk_at "gd g"); (case k3 => walk_at "gd ss"))
  | ((with_reducible show PS _ (Stmt.Expr _ _) _); refine' ps_expr ?k1; (case k1 => walk_at "gd e"))
  | walk_at "gd os")
local macro_rules | `(tactic| walk_at "gd ss") => `(tactic| first | exact pss_nil | (refine' pss_one ?k1; (case k1 => walk_at "gd s")) | (refine' pss_cons ?k1 ?k2; (case k1 => walk_at "gd s"); (case k2 => walk_at "gd ss")))
local macro_rules | `(tactic| walk_at "gd own") => `(tactic| first
  | (refine' Ge.pe_mk1 (One.h (by assumption) _ _ (by rfl)) (by assumption) rfl (Globs.h (by assumption) _ (by decide +kernel)) ?k1; (case k1 => walk_at "gd a"))
  | (refine' Ge.pe_mk1k (One.h (by assumption) _ _ (by rfl)) (by assumption) rfl (Globs.h (by assumption) _ (by decide +kernel)) (pk_cons ?k1 pk_nil); (case k1 => walk_at "gd e"))
  | (refine' Ge.pe_mk2 (Two.side (by assumption)) (by assumption) rfl (Globs.h (by assumption) _ (by decide +kernel)) ?k1; (case k1 => walk_at "gd a"))
  | (refine' Ge.pe_mk2 (Two.many (by assumption)) (by assumption) rfl (Globs.h (by assumption) _ (by decide +kernel)) ?k1; (case k1 => walk_at "gd a"))
  | (refine' Ge.pe_mk2k (Two.side (by assumption)) (by assumption) rfl (Globs.h (by assumption) _ (by decide +kernel)) (pk_cons ?k1 (pk_cons ?k2 pk_nil)); (case k1 => walk_at "gd e"); (case k2 => walk_at "gd e"))
  | (refine' Ge.pe_mk2k (Two.many (by assumption)) (by assumption) rfl (Globs.h (by assumption) _ (by decide +kernel)) (pk_cons ?k1 (pk_cons ?k2 pk_nil)); (case k1 => walk_at "gd e"); (case k2 => walk_at "gd e"))
  | (refine' Ge.pe_mk0 (Nul.undo (by assumption)) rfl (Globs.h (by assumption) _ (by decide +kernel))))
abbrev sMade : Stmt := top 50
abbrev aMade : List Str := ["_law_way", "_law_x", "_law_y", "_law_plainly"]
theorem scMade : FnScope aMade aMade (defScope sMade) := ⟨rfl, rfl, rfl, by decide +kernel, rfl, by decide +kernel, by decide +kernel⟩
section
variable {P : Program} {w : World} {K : W.Frag} {mg : Str → Option Value} {base : Heap} {f : Addr} {fd : FuncData}
theorem ok_made (fr : Frees mg) (gl : Globs K gnames mg) (on : One K) (tw : Two K) (nl : Nul K) (D1 : Dn P w K mg base CX0 1 "_law_made_first" aM (spMk 0 9 K)) (D2 : Dn P w K mg base CX0 1 "_law_made_second" aM (spMk 9 18 K)) (D3 : Dn P w K mg base CX0 1 "_law_made_third" aM (spMk 18 30 K))
    (F : Fun K "_law_made" "_law_made" sMade f fd) :
    FnOk P w K mg base CX0 2 f fd aMade (spMade K) := by
  refine F.ok scMade (fun vs H Q E h => ?_) (fun cdv A outer s H vs Q E hr h => ⟨?t, ?d, ?r⟩)
  · obtain ⟨n, x, y, c, rfl, _⟩ := h
    rfl
  case d =>
    have nd := scMade.nd
    have isk : IsK K := ⟨trivial⟩
    walk_at "gd ss"
  case r =>
    obtain ⟨n, x, y, b, rfl, h1, q⟩ := h
    have lt : ∀ {i : Int}, decide ((n : Int) < i) = true → (n : Int) < i := fun h => of_decide_eq_true h
    have nlt : ∀ {i : Int}, ¬decide ((n : Int) < i) = true → i ≤ n := fun {i} h => by
      have : ¬ (n : Int) < i := fun z => h (decide_eq_true z)
      omega
    refine ⟨_, rfl, n, 9, rfl, rfl, _, rfl, ite2 (fun c => ⟨_, rfl, _, rfl, _, rfl, n, x, b, rfl, Nat.zero_le _, by have := lt c; omega, fun e H' a r => q e H' a (r y)⟩) (fun c => ?_)⟩
    have c9 := nlt c
    refine ⟨_, rfl, n, 18, rfl, rfl, _, rfl, ite2 (fun c => ⟨_, rfl, _, rfl, _, rfl, n, x, b, rfl, by omega, by have := lt c; omega, fun e H' a r => q e H' a (r y)⟩) (fun c => ?_)⟩
    have c18 := nlt c
    refine ⟨_, rfl, n, 30, rfl, rfl, _, rfl, ite2 (fun c => ⟨_, rfl, _, rfl, _, rfl, n, x, b, rfl, by omega, by have := lt c; omega, fun e H' a r => q e H' a (r y)⟩) (fun c => ?_)⟩
    have c30 := nlt c
    clear c
    have q1 : ∀ (e : Addr) (H' : Hp), All H H' → (∀ y, Er K H' n x y e) → Q (.ref e) H' := fun e H' a r => q e H' a (r y)
    refine ⟨_, rfl, .inl ⟨rfl, _, rfl, ite2 (fun c => ?_) (fun c => ?_)⟩⟩
    · obtain rfl := eqI c
      exact ⟨_, rfl, _, rfl, ite2 (fun _ => ⟨_, rfl, _, rfl, mk1_of (n := 30) (by decide) q1⟩) (fun _ => ⟨_, rfl, _, rfl, mk1_of (n := 30) (by decide) q1⟩)⟩
    have c31 := neI c
    refine ⟨_, rfl, .inl ⟨rfl, _, rfl, ite2 (fun c => ?_) (fun c => ?_)⟩⟩
    · obtain rfl := eqI c
      exact ⟨_, rfl, _, rfl, ite2 (fun _ => ⟨_, rfl, _, rfl, mk1_of (n := 31) (by decide) q1⟩) (fun _ => ⟨_, rfl, _, rfl, mk1_of (n := 31) (by decide) q1⟩)⟩
    have c32 := neI c
    refine ⟨_, rfl, .inl ⟨rfl, _, rfl, ite2 (fun c => ?_) (fun c => ?_)⟩⟩
    · obtain rfl := eqI c
      exact ⟨_, rfl, _, rfl, ite2 (fun _ => ⟨_, rfl, _, rfl, _, _, rfl, fun e d he hd hde => q e _ (all_err he hd hde) (err_at (n := 32) (by decide) he hd hde)⟩) (fun _ => ⟨_, rfl, _, rfl, _, _, rfl, fun e d he hd hde => q e _ (all_err he hd hde) (err_at (n := 32) (by decide) he hd hde)⟩)⟩
    have c33 := neI c
    refine ⟨_, rfl, .inl ⟨rfl, _, rfl, ite2 (fun c => ?_) (fun c => ?_)⟩⟩
    · obtain rfl := eqI c
      exact ⟨_, rfl, _, rfl, ite2 (fun _ => ⟨_, rfl, _, rfl, _, _, rfl, fun e d he hd hde => q e _ (all_err he hd hde) (err_at (n := 33) (by decide) he hd hde)⟩) (fun _ => ⟨_, rfl, _, rfl, _, _, rfl, fun e d he hd hde => q e _ (all_err he hd hde) (err_at (n := 33) (by decide) he hd hde)⟩)⟩
    have c34 := neI c
    obtain rfl : n = 34 := by omega
    exact fun e he => q e _ (All.new he) (.inl ⟨rfl, upd_same⟩)
end
end K10

set_option Elab.async false
set_option linter.all false
set_option maxRecDepth 100000
set_option maxHeartbeats 4000000
namespace K10
open PySem PySem.Spec L2 Gd

/-! ### derivations by the text's shape -/
local macro_rules | `(tactic| walk_at "gd nd") => `(tactic| assumption)
local macro_rules | `(tactic| walk_at "gd lo") => `(tactic| first | exact Or.inl rfl | exact Or.inr rfl)
local macro_rules | `(tactic| walk_at "gd var") => `(tactic| first | exact pv 0 | exact pv 1 | exact pv 2 | exact pv 3 | exact pv 4 | exact pv 5 | exact pv 6 | exact pv 7 | exact pv 8 | exact pv 9 | exact pv 10 | exact pv 11 | exact pv 12 | exact pv 13 | exact pe_glob rfl (by assumption) rfl | exact pe_glob rfl (Globs.h (by assumption) _ (by decide +kernel)) rfl | exact pe_bltn rfl (Frees.h (by assumption) _ (by decide +kernel)) (by decide +kernel) rfl)
local macro_rules | `(tactic| walk_at "gd a") => `(tactic| first | exact pa_nil | (refine' pa_cons ?k1 ?k2; (case k1 => walk_at "gd e"); (case k2 => walk_at "gd a")))
local macro_rules | `(tactic| walk_at "gd blt") => `(tactic| first
  | ((with_reducible show PE _ (Expr.Call (Expr.Name "abs" _) _ _ _) _); refine' pe_callB call_abs rfl (Frees.h (by assumption) _ (by decide +kernel)) (by decide +kernel) ?k1; (case k1 => walk_at "gd a"))
  | ((with_reducible show PE _ (Expr.Call (Expr.Name "max" _) _ _ _) _); refine' pe_callB (call_max2 rfl) rfl (Frees.h (by assumption) _ (by decide +kernel)) (by decide +kernel) ?k1; (case k1 => walk_at "gd a"))
  | ((with_reducible show PE _ (Expr.Call (Expr.Name "min" _) _ _ _) _); refine' pe_callB (call_min2 rfl) rfl (Frees.h (by assumption) _ (by decide +kernel)) (by decide +kernel) ?k1; (case k1 => walk_at "gd a"))
  | ((with_reducible show PE _ (Expr.Call (Expr.Name "len" _) _ _ _) _); refine' pe_callB (lenK (by assumption)) rfl (Frees.h (by assumption) _ (by decide +kernel)) (by decide +kernel) ?k1; (case k1 => walk_at "gd a"))
  | ((with_reducible show PE _ (Expr.Call (Expr.Name "divmod" _) _ _ _) _); refine' pe_callB call_divmod rfl (Frees.h (by assumption) _ (by decide +kernel)) (by decide +kernel) ?k1; (case k1 => walk_at "gd a"))
  | ((with_reducible show PE _ (Expr.Call (Expr.Name "all" _) _ _ _) _); refine' pe_callB (allK (by assumption) rfl) rfl (Frees.h (by assumption) _ (by decide +kernel)) (by decide +kernel) ?k1; (case k1 => walk_at "gd a"))
  | ((with_reducible show PE _ (Expr.Call (Expr.Name "isinstance" _) _ _ _) _); refine' pe_callB (isXK (by assumption)) rfl (Frees.h (by assumption) _ (by decide +kernel)) (by decide +kernel) ?k1; (case k1 => walk_at "gd a"))
  | ((with_reducible show PE _ (Expr.Call (Expr.Name "repr" _) _ _ _) _); refine' pe_callB (call_repr (by assumption) (by assumption)) rfl (Frees.h (by assumption) _ (by decide +kernel)) (by decide +kernel) ?k1; (case k1 => walk_at "gd a"))
  | ((with_reducible show PE _ (Expr.Call (Expr.Name "int" _) _ _ _) _); refine' pe_callTy call_int1 rfl (Frees.h (by assumption) _ (by decide +kernel)) (by decide +kernel) ?k1; (case k1 => walk_at "gd a"))
  | ((with_reducible show PE _ (Expr.Call (Expr.Name "tuple" _) _ _ _) _); refine' pe_callTy (tupK (by assumption)) rfl (Frees.h (by assumption) _ (by decide +kernel)) (by decide +kernel) ?k1; (case k1 => walk_at "gd a")))
local macro_rules | `(tactic| walk_at "gd call") => `(tactic| first
  | walk_at "gd blt"
  | (refine' pe_dn (by assumption) (by assumption) rfl (by first | decide | omega) ?k1; (case k1 => walk_at "gd a"))
  | (refine' pe_dnG (by assumption) (by assumption) (by assumption) rfl (by first | decide | omega) ?k1; (case k1 => walk_at "gd a"))
  | walk_at "gd own")
local macro_rules | `(tactic| walk_at "gd own") => `(tactic| fail)
local macro_rules | `(tactic| walk_at "gd it") => `(tactic| fail)
local macro_rules | `(tactic| walk_at "gd i") => `(tactic| first
  | ((with_reducible show PI _ _ (Expr.Call (Expr.Name "range" _) [_] _ _) _); refine' pi_range1 rfl (Frees.h (by assumption) _ (by decide +kernel)) ?k1; (case k1 => walk_at "gd a"))
  | walk_at "gd it")
local macro_rules | `(tactic| walk_at "gd cv") => `(tactic| fail)
local macro_rules | `(tactic| walk_at "gd lc") => `(tactic| walk_at "gd cv")
local macro_rules | `(tactic| walk_at "gd e") => `(tactic| first
  | ((with_reducible show PE _ (Expr.Constant _ _ _) _); first | exact pe_int | exact pe_str | exact pe_bl | exact pe_non)
  | ((with_reducible show PE _ (Expr.Name _ _) _); walk_at "gd var")
  | ((with_reducible show PE _ (Expr.BinOp _ Operator.Add _ _) _); refine' pe_op op_addA ?k1 ?k2; (case k1 => walk_at "gd e"); (case k2 => walk_at "gd e"))
  | ((with_reducible show PE _ (Expr.BinOp _ Operator.Sub _ _) _); refine' pe_op op_sub ?k1 ?k2; (case k1 => walk_at "gd e"); (case k2 => walk_at "gd e"))
  | ((with_reducible show PE _ (Expr.BinOp _ Operator.Mult _ _) _); refine' pe_op op_mulA ?k1 ?k2; (case k1 => walk_at "gd e"); (case k2 => walk_at "gd e"))
  | ((with_reducible show PE _ (Expr.BinOp _ Operator.Mod _ _) _); refine' pe_op op_mod ?k1 ?k2; (case k1 => walk_at "gd e"); (case k2 => walk_at "gd e"))
  | ((with_reducible show PE _ (Expr.BinOp _ Operator.FloorDiv _ _) _); refine' pe_op op_fdivW ?k1 ?k2; (case k1 => walk_at "gd e"); (case k2 => walk_at "gd e"))
  | ((with_reducible show PE _ (Expr.BinOp _ Operator.Pow _ _) _); refine' pe_op op_pow ?k1 ?k2; (case k1 => walk_at "gd e"); (case k2 => walk_at "gd e"))
  | ((with_reducible show PE _ (Expr.UnaryOp UnaryOp.USub _ _) _); refine' pe_un un_neg ?k1; (case k1 => walk_at "gd e"))
  | ((with_reducible show PE _ (Expr.UnaryOp UnaryOp.Not _ _) _); refine' pe_not ?k1; (case k1 => walk_at "gd e"))
  | ((with_reducible show PE _ (Expr.Compare _ [CmpOp.Lt] _ _) _); refine' pe_cmpR op_lt ?k1 ?k2 (by rfl); (case k1 => walk_at "gd e"); (case k2 => walk_at "gd e"))
  | ((with_reducible show PE _ (Expr.Compare _ [CmpOp.LtE] _ _) _); refine' pe_cmpR op_le ?k1 ?k2 (by rfl); (case k1 => walk_at "gd e"); (case k2 => walk_at "gd e"))
  | ((with_reducible show PE _ (Expr.Compare _ [CmpOp.Gt] _ _) _); refine' pe_cmpR op_gt ?k1 ?k2 (by rfl); (case k1 => walk_at "gd e"); (case k2 => walk_at "gd e"))
  | ((with_reducible show PE _ (Expr.Compare _ [CmpOp.GtE] _ _) _); refine' pe_cmpR op_ge ?k1 ?k2 (by rfl); (case k1 => walk_at "gd e"); (case k2 => walk_at "gd e"))
  | ((with_reducible show PE _ (Expr.Compare _ [CmpOp.Eq] _ _) _); refine' pe_cmpR (eqK (by assumption) (by assumption)) ?k1 ?k2 (by rfl); (case k1 => walk_at "gd e"); (case k2 => walk_at "gd e"))
  | ((with_reducible show PE _ (Expr.Compare _ [CmpOp.NotEq] _ _) _); refine' pe_cmpR (neK (by assumption) (by assumption)) ?k1 ?k2 (by rfl); (case k1 => walk_at "gd e"); (case k2 => walk_at "gd e"))
  | ((with_reducible show PE _ (Expr.Compare _ [CmpOp.In] _ _) _); refine' pe_cmpR (inK (by assumption)) ?k1 ?k2 (by rfl); (case k1 => walk_at "gd e"); (case k2 => walk_at "gd e"))
  | ((with_reducible show PE _ (Expr.Compare _ [CmpOp.NotIn] _ _) _); refine' pe_cmpR (niK (by assumption)) ?k1 ?k2 (by rfl); (case k1 => walk_at "gd e"); (case k2 => walk_at "gd e"))
  | ((with_reducible show PE _ (Expr.IfExp _ _ _ _) _); refine' pe_ifExp ?k1 ?k2 ?k3; (case k1 => walk_at "gd t"); (case k2 => walk_at "gd e"); (case k3 => walk_at "gd e"))
  | ((with_reducible show PE _ (Expr.Subscript _ (Expr.Slice none (some _) none _) _) _); refine' pe_slice sl_str ?k1 po_none (po_some ?k2); (case k1 => walk_at "gd e"); (case k2 => walk_at "gd e"))
  | ((with_reducible show PE _ (Expr.Subscript _ _ _) _); refine' pe_ix (ixK (by assumption)) ?k1 ?k2 (fun _ _ => rfl); (case k1 => walk_at "gd e"); (case k2 => walk_at "gd e"))
  | ((with_reducible show PE _ (Expr.List _ _) _); refine' pe_lst ?k1; (case k1 => walk_at "gd a"))
  | ((with_reducible show PE _ (Expr.Tuple _ _ _) _); refine' pe_tup ?k1; (case k1 => walk_at "gd a"))
  | ((with_reducible show PE _ (Expr.Dict [] [] _) _); exact pe_dnewK)
  | ((with_reducible show PE _ (Expr.Dict [_] [_] _) _); refine' pe_disp (pps_cons ?k1 ?k2 pps_nil) rfl rfl (fun z => by cases z) (by decide); (case k1 => walk_at "gd e"); (case k2 => walk_at "gd e"))
  | ((with_reducible show PE _ (Expr.Call (Expr.Attribute _ "join" _) _ _ _) _); refine' joinK (by assumption) ?k1 ?k2; (case k1 => walk_at "gd e"); (case k2 => walk_at "gd e"))
  | ((with_reducible show PE _ (Expr.Call (Expr.Attribute _ "append" _) _ _ _) _); refine' pe_bm PySem.F.plainAttrs_list PySem.F.slot_list_append PySem.F.type_list_append mt_append ?k1 ?k2; (case k1 => walk_at "gd e"); (case k2 => walk_at "gd a"))
  | ((with_reducible show PE _ (Expr.Attribute _ _ _) _); refine' efK (by assumption) ?k1; (case k1 => walk_at "gd e"))
  | ((with_reducible show PE _ (Expr.ListComp _ _ _ _) _); walk_at "gd lc")
  | walk_at "gd call")
local macro_rules | `(tactic| walk_at "gd t") => `(tactic| first
  | ((with_reducible show PT _ (Expr.UnaryOp UnaryOp.Not _ _) _); refine' pt_not ?k1; (case k1 => walk_at "gd t"))
  | ((with_reducible show PT _ (Expr.BoolOp BoolOp.And [_, _] _) _); refine' PW.pt (pw_and ?k1 (pw_and1 ?k2)); (case k1 => walk_at "gd t"); (case k2 => walk_at "gd t"))
  | ((with_reducible show PT _ (Expr.BoolOp BoolOp.Or [_, _] _) _); refine' PW.pt (pw_or ?k1 (pw_or1 ?k2)); (case k1 => walk_at "gd t"); (case k2 => walk_at "gd t"))
  | ((with_reducible show PT _ (Expr.Compare _ [CmpOp.Lt] _ _) _); refine' pt_cmpR op_lt ?k1 ?k2 (by rfl); (case k1 => walk_at "gd e"); (case k2 => walk_at "gd e"))
  | ((with_reducible show PT _ (Expr.Compare _ [CmpOp.LtE] _ _) _); refine' pt_cmpR op_le ?k1 ?k2 (by rfl); (case k1 => walk_at "gd e"); (case k2 => walk_at "gd e"))
  | ((with_reducible show PT _ (Expr.Compare _ [CmpOp.Gt] _ _) _); refine' pt_cmpR op_gt ?k1 ?k2 (by rfl); (case k1 => walk_at "gd e"); (case k2 => walk_at "gd e"))
  | ((with_reducible show PT _ (Expr.Compare _ [CmpOp.GtE] _ _) _); refine' pt_cmpR op_ge ?k1 ?k2 (by rfl); (case k1 => walk_at "gd e"); (case k2 => walk_at "gd e"))
  | ((with_reducible show PT _ (Expr.Compare _ [CmpOp.Eq] _ _) _); refine' pt_cmpR (eqK (by assumption) (by assumption)) ?k1 ?k2 (by rfl); (case k1 => walk_at "gd e"); (case k2 => walk_at "gd e"))
  | ((with_reducible show PT _ (Expr.Compare _ [CmpOp.NotEq] _ _) _); refine' pt_cmpR (neK (by assumption) (by assumption)) ?k1 ?k2 (by rfl); (case k1 => walk_at "gd e"); (case k2 => walk_at "gd e"))
  | ((with_reducible show PT _ (Expr.Compare _ [CmpOp.In] _ _) _); refine' pt_cmpR (inK (by assumption)) ?k1 ?k2 (by rfl); (case k1 => walk_at "gd e"); (case k2 => walk_at "gd e"))
  | ((with_reducible show PT _ (Expr.Compare _ [CmpOp.NotIn] _ _) _); refine' pt_cmpR (niK (by assumption)) ?k1 ?k2 (by rfl); (case k1 => walk_at "gd e"); (case k2 => walk_at "gd e"))
  | (refine' pt_val ?k1; (case k1 => walk_at "gd e")))
local macro_rules | `(tactic| walk_at "gd g") => `(tactic| first
  | ((with_reducible show PG _ (Expr.Name _ _) _); first | exact pg_name (i := 0) (by walk_at "gd nd") rfl (by walk_at "gd lo") | exact pg_name (i := 1) (by walk_at "gd nd") rfl (by walk_at "gd lo") | exact pg_name (i := 2) (by walk_at "gd nd") rfl (by walk_at "gd lo") | exact pg_name (i := 3) (by walk_at "gd nd") rfl (by walk_at "gd lo") | exact pg_name (i := 4) (by walk_at "gd nd") rfl (by walk_at "gd lo") | exact pg_name (i := 5) (by walk_at "gd nd") rfl (by walk_at "gd lo") | exact pg_name (i := 6) (by walk_at "gd nd") rfl (by walk_at "gd lo") | exact pg_name (i := 7) (by walk_at "gd nd") rfl (by walk_at "gd lo") | exact pg_name (i := 8) (by walk_at "gd nd") rfl (by walk_at "gd lo") | exact pg_name (i := 9) (by walk_at "gd nd") rfl (by walk_at "gd lo") | exact pg_name (i := 10) (by walk_at "gd nd") rfl (by walk_at "gd lo") | exact pg_name (i := 11) (by walk_at "gd nd") rfl (by walk_at "gd lo") | exact pg_name (i := 12) (by walk_at "gd nd") rfl (by walk_at "gd lo") | exact pg_name (i := 13) (by walk_at "gd nd") rfl (by walk_at "gd lo"))
  | ((with_reducible show PG _ (Expr.Subscript _ _ _) _); refine' pg_sub ?k1 ?k2 set_list; (case k1 => walk_at "gd e"); (case k2 => walk_at "gd e"))
  | ((with_reducible show PG _ (Expr.Tuple _ _ _) _); refine' pg_tup rfl ?k1; (case k1 => walk_at "gd gs")))
local macro_rules | `(tactic| walk_at "gd gs") => `(tactic| first | exact pgs_nil | (refine' pgs_cons ?k1 ?k2; (case k1 => walk_at "gd g"); (case k2 => walk_at "gd gs")))
local macro_rules | `(tactic| walk_at "gd set") => `(tactic| first | (refine' ps_set (i := 0) (by walk_at "gd nd") rfl (by walk_at "gd lo") ?k1; (case k1 => walk_at "gd e")) | (refine' ps_set (i := 1) (by walk_at "gd nd") rfl (by walk_at "gd lo") ?k1; (case k1 => walk_at "gd e")) | (refine' ps_set (i := 2) (by walk_at "gd nd") rfl (by walk_at "gd lo") ?k1; (case k1 => walk_at "gd e")) | (refine' ps_set (i := 3) (by walk_at "gd nd") rfl (by walk_at "gd lo") ?k1; (case k1 => walk_at "gd e")) | (refine' ps_set (i := 4) (by walk_at "gd nd") rfl (by walk_at "gd lo") ?k1; (case k1 => walk_at "gd e")) | (refine' ps_set (i := 5) (by walk_at "gd nd") rfl (by walk_at "gd lo") ?k1; (case k1 => walk_at "gd e")) | (refine' ps_set (i := 6) (by walk_at "gd nd") rfl (by walk_at "gd lo") ?k1; (case k1 => walk_at "gd e")) | (refine' ps_set (i := 7) (by walk_at "gd nd") rfl (by walk_at "gd lo") ?k1; (case k1 => walk_at "gd e")) | (refine' ps_set (i := 8) (by walk_at "gd nd") rfl (by walk_at "gd lo") ?k1; (case k1 => walk_at "gd e")) | (refine' ps_set (i := 9) (by walk_at "gd nd") rfl (by walk_at "gd lo") ?k1; (case k1 => walk_at "gd e")) | (refine' ps_set (i := 10) (by walk_at "gd nd") rfl (by walk_at "gd lo") ?k1; (case k1 => walk_at "gd e")) | (refine' ps_set (i := 11) (by walk_at "gd nd") rfl (by walk_at "gd lo") ?k1; (case k1 => walk_at "gd e")) | (refine' ps_set (i := 12) (by walk_at "gd nd") rfl (by walk_at "gd lo") ?k1; (case k1 => walk_at "gd e")) | (refine' ps_set (i := 13) (by walk_at "gd nd") rfl (by walk_at "gd lo") ?k1; (case k1 => walk_at "gd e")))
local macro_rules | `(tactic| walk_at "gd os") => `(tactic| fail)
local macro_rules | `(tactic| walk_at "gd slc") => `(tactic| fail)
local macro_rules | `(tactic| walk_at "gd par") => `(tactic| fail)
local macro_rules | `(tactic| walk_at "gd s") => `(tactic| first
  | ((with_reducible show PS _ (Stmt.Return (some _) _) _); refine' ps_ret ?k1; (case k1 => walk_at "gd e"))
  | ((with_reducible show PS _ (Stmt.If _ _ _ _) _); refine' ps_if ?k1 ?k2 ?k3; (case k1 => walk_at "gd t"); (case k2 => walk_at "gd ss"); (case k3 => walk_at "gd ss"))
  | ((with_reducible show PS _ (Stmt.Assign [Expr.Name _ _] (Expr.ListComp _ _ _ _) _) _); walk_at "gd slc")
  | ((with_reducible show PS _ (Stmt.Assign [Expr.Name _ _] _ _) _); walk_at "gd set")
  | ((with_reducible show PS _ (Stmt.Assign [_] _ _) _); refine' ps_asg ?k1 ?k2; (case k1 => walk_at "gd e"); (case k2 => walk_at "gd g"))
  | ((with_reducible show PS _ (Stmt.Assign [_] _ _) _); walk_at "gd par")
  | ((with_reducible show PS _ (Stmt.For _ _ _ _ _) _); refine' ps_for PassesOwn.never rfl ?k1 ?k2 ?k3; (case k1 => walk_at "gd i"); (case k2 => walk_at "gd g"); (case k3 => walk_at "gd ss"))
  | ((with_reducible show PS _ (Stmt.Expr _ _) _); refine' ps_expr ?k1; (case k1 => walk_at "gd e"))
  | walk_at "gd os")
local macro_rules | `(tactic| walk_at "gd ss") => `(tactic| first | exact pss_nil | (refine' pss_one ?k1; (case k1 => walk_at "gd s")) | (refine' pss_cons ?k1 ?k2; (case k1 => walk_at "gd s"); (case k2 => walk_at "gd ss")))
abbrev sHeld : Stmt := top 51
abbrev sKin : Stmt := top 52
abbrev sAbv : Stmt := top 53
theorem scHeld : FnScope ["_law_e", "_law_way"] ["_law_e", "_law_way"] (defScope sHeld) := ⟨rfl, rfl, rfl, by decide +kernel, rfl, by decide +kernel, by decide +kernel⟩
theorem scKin : FnScope ["_law_e", "_law_some"] ["_law_e"] (defScope sKin) := ⟨rfl, rfl, rfl, by decide +kernel, rfl, by decide +kernel, by decide +kernel⟩
/-- what the classes say of their attributes -/
structure Att (K : W.Frag) : Prop where
  ea : ∀ n, n < 35 → Ge.EA K (He.ga K (cn n))
  nf : ∀ n x y v f, n < 34 → (flds n x y).lookup f = some v → W.findIn K (.ref (He.ga K (cn n))) f = some none
/-- .. and of their kin -/
structure Kin (K : W.Frag) : Prop where
  own : ∀ n j, n < 35 → j < 35 → W.kitOne K (.ref (He.ga K (cn n))) (.ref (He.ga K (cn j))) = some (decide (j = n))
def dueV (n : Nat) (x y : V) : List V := if n < 32 then [x] else if n = 34 then [] else [x, y]
def spHeld (K : W.Frag) : Sp := fun vs H Q _ => ∃ (e : Addr) (n : Nat) (x y : V), vs = [.ref e, .int n] ∧ n < 35 ∧ Er K H n x y e ∧ ∀ (l : Addr) (H' : Hp), All H H' → H' l = some (.lst (dueV n x y)) → H l = none → Q (.ref l) H'
def kinV (n : Nat) : List V := (List.range 35).map fun j => V.bl (decide (j = n))
def spKin (K : W.Frag) : Sp := fun vs H Q _ => ∃ (e : Addr) (n : Nat) (x y : V), vs = [.ref e] ∧ n < 35 ∧ Er K H n x y e ∧ ∀ (l : Addr) (H' : Hp), All H H' → H' l = some (.lst (kinV n)) → H l = none → Q (.ref l) H'
section
variable {P : Program} {w : World} {K : W.Frag} {mg : Str → Option Value} {base : Heap} {f : Addr} {fd : FuncData}
theorem ef_of {H : Hp} {n : Nat} {x y v : V} {e : Addr} {f : Str} {Q : VK} (at_ : Att K) (er : Er K H n x y e) (h : n < 34) (l : (flds n x y).lookup f = some v) (q : Q v H) :
    ∃ (e' C d : Addr) (fs : List (Str × V)) (v : V), V.ref e = .ref e' ∧ Ge.EA K C ∧ W.findIn K (.ref C) f = some none ∧ H e' = some (exo e' C (some d)) ∧ H d = some (exd d fs) ∧ fs.lookup f = some v ∧ Q v H := by
  rcases er with ⟨z, _⟩ | ⟨_, d, h1, h2⟩
  · omega
  · exact ⟨e, _, d, _, v, rfl, at_.ea n (by omega), at_.nf n x y v f h l, h1, h2, l, q⟩
theorem er_at {H : Hp} {n : Nat} {x y : V} {e : Addr} (er : Er K H n x y e) (h : n < 34) : ∃ d, H e = some (exo e (He.ga K (cn n)) (some d)) ∧ H d = some (exd d (flds n x y)) := by
  rcases er with ⟨z, _⟩ | ⟨_, d, h1, h2⟩
  · omega
  · exact ⟨d, h1, h2⟩
theorem isx_of {H : Hp} {n j : Nat} {x y : V} {e : Addr} {Q : VK} (at_ : Att K) (ki : Kin K) (er : Er K H n x y e) (hn : n < 35) (hj : j < 35) (q : Q (.bl (decide (j = n))) H) :
    Ge.rIsX K [.ref e, .ref (He.ga K (cn j))] H Q := by
  rcases er with ⟨z, h1⟩ | ⟨z, d, h1, h2⟩
  · exact ⟨e, _, none, _, _, _, rfl, h1, (fun _ z => nomatch z), at_.ea n hn, .own _, ki.own n j hn hj, q⟩
  · exact ⟨e, _, some d, _, _, _, rfl, h1, (fun dx z => by cases z; exact ⟨_, h2⟩), at_.ea n hn, .own _, ki.own n j hn hj, q⟩
theorem one_f : ∀ n, n < 32 → ∀ x y f, fnm n = f → (flds n x y).lookup f = some x := by
  intro n h x y f e
  subst e
  rw [flds, if_pos h]
  simp [List.lookup]
theorem ok_held (fr : Frees mg) (at_ : Att K) (F : Fun K "_law_held_by" "_law_held_by" sHeld f fd) : FnOk P w K mg base CX0 1 f fd ["_law_e", "_law_way"] (spHeld K) := by
  refine F.ok scHeld (fun vs H Q E h => ?_) (fun cdv A outer s H vs Q E hr h => ⟨?t, ?d, ?r⟩)
  · obtain ⟨e, n, x, y, rfl, _⟩ := h
    rfl
  case d =>
    have nd := scHeld.nd
    have isk : IsK K := ⟨trivial⟩
    walk_at "gd ss"
  case r =>
    obtain ⟨e, n, x, y, rfl, h1, er, q⟩ := h
    have lt : ∀ {i : Int}, decide ((n : Int) < i) = true → (n : Int) < i := fun h => of_decide_eq_true h
    have nlt : ∀ {i : Int}, ¬decide ((n : Int) < i) = true → i ≤ n := fun {i} h => by
      have : ¬ (n : Int) < i := fun z => h (decide_eq_true z)
      omega
    have d1 : n < 32 → dueV n x y = [x] := fun h => if_pos h
    have one : n < 32 → ∀ l, H l = none → Q (.ref l) (upd H l (.lst [x])) := fun h l hl => q l _ (All.new hl) (by rw [upd_same, d1 h]) hl
    refine ⟨_, rfl, n, 9, rfl, rfl, _, rfl, ite2 (fun c => ?_) (fun c => ?_)⟩
    · have c' := lt c
      exact ⟨_, rfl, ef_of at_ er (by omega) (one_f n (by omega) x y _ ((by decide +kernel : ∀ n, n < 9 → 0 ≤ n → fnm n = ("value" : Str)) n (by omega) (by omega))) ⟨(by show 1 ≤ sizeLine; decide), one (by omega)⟩⟩
    have c9 := nlt c
    clear c
    refine ⟨_, rfl, n, 18, rfl, rfl, _, rfl, ite2 (fun c => ?_) (fun c => ?_)⟩
    · have c' := lt c
      exact ⟨_, rfl, ef_of at_ er (by omega) (one_f n (by omega) x y _ ((by decide +kernel : ∀ n, n < 18 → 9 ≤ n → fnm n = ("position" : Str)) n (by omega) (by omega))) ⟨(by show 1 ≤ sizeLine; decide), one (by omega)⟩⟩
    have c18 := nlt c
    clear c
    refine ⟨_, rfl, n, 22, rfl, rfl, _, rfl, ite2 (fun c => ?_) (fun c => ?_)⟩
    · have c' := lt c
      exact ⟨_, rfl, ef_of at_ er (by omega) (one_f n (by omega) x y _ ((by decide +kernel : ∀ n, n < 22 → 18 ≤ n → fnm n = ("field" : Str)) n (by omega) (by omega))) ⟨(by show 1 ≤ sizeLine; decide), one (by omega)⟩⟩
    have c22 := nlt c
    clear c
    refine ⟨_, rfl, n, 25, rfl, rfl, _, rfl, ite2 (fun c => ?_) (fun c => ?_)⟩
    · have c' := lt c
      exact ⟨_, rfl, ef_of at_ er (by omega) (one_f n (by omega) x y _ ((by decide +kernel : ∀ n, n < 25 → 22 ≤ n → fnm n = ("name" : Str)) n (by omega) (by omega))) ⟨(by show 1 ≤ sizeLine; decide), one (by omega)⟩⟩
    have c25 := nlt c
    clear c
    refine ⟨_, rfl, n, 28, rfl, rfl, _, rfl, ite2 (fun c => ?_) (fun c => ?_)⟩
    · have c' := lt c
      exact ⟨_, rfl, ef_of at_ er (by omega) (one_f n (by omega) x y _ ((by decide +kernel : ∀ n, n < 28 → 25 ≤ n → fnm n = ("rule" : Str)) n (by omega) (by omega))) ⟨(by show 1 ≤ sizeLine; decide), one (by omega)⟩⟩
    have c28 := nlt c
    clear c
    refine ⟨_, rfl, n, 30, rfl, rfl, _, rfl, ite2 (fun c => ?_) (fun c => ?_)⟩
    · have c' := lt c
      exact ⟨_, rfl, ef_of at_ er (by omega) (one_f n (by omega) x y _ ((by decide +kernel : ∀ n, n < 30 → 28 ≤ n → fnm n = ("rule_set" : Str)) n (by omega) (by omega))) ⟨(by show 1 ≤ sizeLine; decide), one (by omega)⟩⟩
    have c30 := nlt c
    clear c
    refine ⟨_, rfl, .inl ⟨rfl, _, rfl, ite2 (fun c => ?_) (fun c => ?_)⟩⟩
    · obtain rfl := eqI c
      exact ⟨_, rfl, ef_of at_ er (by decide) (one_f 30 (by decide) x y _ rfl) ⟨(by show 1 ≤ sizeLine; decide), one (by decide)⟩⟩
    have e30 := neI c
    clear c
    refine ⟨_, rfl, .inl ⟨rfl, _, rfl, ite2 (fun c => ?_) (fun c => ?_)⟩⟩
    · obtain rfl := eqI c
      exact ⟨_, rfl, ef_of at_ er (by decide) (one_f 31 (by decide) x y _ rfl) ⟨(by show 1 ≤ sizeLine; decide), one (by decide)⟩⟩
    have e31 := neI c
    clear c
    refine ⟨_, rfl, .inl ⟨rfl, _, rfl, ite2 (fun c => ?_) (fun c => ?_)⟩⟩
    · obtain rfl := eqI c
      obtain ⟨d, g1, g2⟩ := er_at er (by decide)
      refine ⟨_, rfl, e, _, d, _, _, rfl, at_.ea 32 (by decide), at_.nf 32 x y _ _ (by decide) rfl, g1, g2, rfl, ?_⟩
      refine ⟨_, rfl, e, _, d, _, _, rfl, at_.ea 32 (by decide), at_.nf 32 x y _ _ (by decide) rfl, g1, g2, rfl, ?_⟩
      exact ⟨(by show 2 ≤ sizeLine; decide), fun l hl => q l _ (All.new hl) upd_same hl⟩
    have e32 := neI c
    clear c
    refine ⟨_, rfl, .inl ⟨rfl, _, rfl, ite2 (fun c => ?_) (fun c => ?_)⟩⟩
    · obtain rfl := eqI c
      obtain ⟨d, g1, g2⟩ := er_at er (by decide)
      refine ⟨_, rfl, e, _, d, _, _, rfl, at_.ea 33 (by decide), at_.nf 33 x y _ _ (by decide) rfl, g1, g2, rfl, ?_⟩
      refine ⟨_, rfl, e, _, d, _, _, rfl, at_.ea 33 (by decide), at_.nf 33 x y _ _ (by decide) rfl, g1, g2, rfl, ?_⟩
      exact ⟨(by show 2 ≤ sizeLine; decide), fun l hl => q l _ (All.new hl) upd_same hl⟩
    have e33 := neI c
    obtain rfl : n = 34 := by omega
    exact ⟨(by show 0 ≤ sizeLine; decide), fun l hl => q l _ (All.new hl) upd_same hl⟩
end
end K10

set_option Elab.async false
set_option linter.all false
set_option maxRecDepth 100000
set_option maxHeartbeats 4000000
namespace K10
open PySem PySem.Spec L2 Gd

/-! ### derivations by the text's shape -/
local macro_rules | `(tactic| walk_at "gd nd") => `(tactic| assumption)
local macro_rules | `(tactic| walk_at "gd lo") => `(tactic| first | exact Or.inl rfl | exact Or.inr rfl)
local macro_rules | `(tactic| walk_at "gd var") => `(tactic| first | exact pv 0 | exact pv 1 | exact pv 2 | exact pv 3 | exact pv 4 | exact pv 5 | exact pv 6 | exact pv 7 | exact pv 8 | exact pv 9 | exact pv 10 | exact pv 11 | exact pv 12 | exact pv 13 | exact pe_glob rfl (by assumption) rfl | exact pe_glob (v := V.ref (He.ga _ _)) rfl (Globs.h (by assumption) _ (by decide +kernel)) rfl | exact pe_bltn (v := V.ty _) rfl (Frees.h (by assumption) _ (by decide +kernel)) (by rfl) rfl | exact pe_bltn rfl (Frees.h (by assumption) _ (by decide +kernel)) (by decide +kernel) rfl)
local macro_rules | `(tactic| walk_at "gd a") => `(tactic| first | exact pa_nil | (refine' pa_cons ?k1 ?k2; (case k1 => walk_at "gd e"); (case k2 => walk_at "gd a")))
local macro_rules | `(tactic| walk_at "gd blt") => `(tactic| first
  | ((with_reducible show PE _ (Expr.Call (Expr.Name "abs" _) _ _ _) _); refine' pe_callB call_abs rfl (Frees.h (by assumption) _ (by decide +kernel)) (by decide +kernel) ?k1; (case k1 => walk_at "gd a"))
  | ((with_reducible show PE _ (Expr.Call (Expr.Name "max" _) _ _ _) _); refine' pe_callB (call_max2 rfl) rfl (Frees.h (by assumption) _ (by decide +kernel)) (by decide +kernel) ?k1; (case k1 => walk_at "gd a"))
  | ((with_reducible show PE _ (Expr.Call (Expr.Name "min" _) _ _ _) _); refine' pe_callB (call_min2 rfl) rfl (Frees.h (by assumption) _ (by decide +kernel)) (by decide +kernel) ?k1; (case k1 => walk_at "gd a"))
  | ((with_reducible show PE _ (Expr.Call (Expr.Name "len" _) _ _ _) _); refine' pe_callB (lenK (by assumption)) rfl (Frees.h (by assumption) _ (by decide +kernel)) (by decide +kernel) ?k1; (case k1 => walk_at "gd a"))
  | ((with_reducible show PE _ (Expr.Call (Expr.Name "divmod" _) _ _ _) _); refine' pe_callB call_divmod rfl (Frees.h (by assumption) _ (by decide +kernel)) (by decide +kernel) ?k1; (case k1 => walk_at "gd a"))
  | ((with_reducible show PE _ (Expr.Call (Expr.Name "all" _) _ _ _) _); refine' pe_callB (allK (by assumption) rfl) rfl (Frees.h (by assumption) _ (by decide +kernel)) (by decide +kernel) ?k1; (case k1 => walk_at "gd a"))
  | ((with_reducible show PE _ (Expr.Call (Expr.Name "isinstance" _) _ _ _) _); refine' pe_callB (isXK (by assumption)) rfl (Frees.h (by assumption) _ (by decide +kernel)) (by decide +kernel) ?k1; (case k1 => walk_at "gd a"))
  | ((with_reducible show PE _ (Expr.Call (Expr.Name "repr" _) _ _ _) _); refine' pe_callB (call_repr (by assumption) (by assumption)) rfl (Frees.h (by assumption) _ (by decide +kernel)) (by decide +kernel) ?k1; (case k1 => walk_at "gd a"))
  | ((with_reducible show PE _ (Expr.Call (Expr.Name "int" _) _ _ _) _); refine' pe_callTy call_int1 rfl (Frees.h (by assumption) _ (by decide +kernel)) (by decide +kernel) ?k1; (case k1 => walk_at "gd a"))
  | ((with_reducible show PE _ (Expr.Call (Expr.Name "tuple" _) _ _ _) _); refine' pe_callTy (tupK (by assumption)) rfl (Frees.h (by assumption) _ (by decide +kernel)) (by decide +kernel) ?k1; (case k1 => walk_at "gd a")))
local macro_rules | `(tactic| walk_at "gd call") => `(tactic| first
  | walk_at "gd blt"
  | (refine' pe_dn (by assumption) (by assumption) rfl (by first | decide | omega) ?k1; (case k1 => walk_at "gd a"))
  | (refine' pe_dnG (by assumption) (by assumption) (by assumption) rfl (by first | decide | omega) ?k1; (case k1 => walk_at "gd a"))
  | walk_at "gd own")
local macro_rules | `(tactic| walk_at "gd own") => `(tactic| fail)
local macro_rules | `(tactic| walk_at "gd it") => `(tactic| fail)
local macro_rules | `(tactic| walk_at "gd i") => `(tactic| first
  | ((with_reducible show PI _ _ (Expr.Call (Expr.Name "range" _) [_] _ _) _); refine' pi_range1 rfl (Frees.h (by assumption) _ (by decide +kernel)) ?k1; (case k1 => walk_at "gd a"))
  | walk_at "gd it")
local macro_rules | `(tactic| walk_at "gd cv") => `(tactic| fail)
local macro_rules | `(tactic| walk_at "gd lc") => `(tactic| walk_at "gd cv")
local macro_rules | `(tactic| walk_at "gd e") => `(tactic| first
  | ((with_reducible show PE _ (Expr.Constant _ _ _) _); first | exact pe_int | exact pe_str | exact pe_bl | exact pe_non)
  | ((with_reducible show PE _ (Expr.Name _ _) _); walk_at "gd var")
  | ((with_reducible show PE _ (Expr.BinOp _ Operator.Add _ _) _); refine' pe_op op_addA ?k1 ?k2; (case k1 => walk_at "gd e"); (case k2 => walk_at "gd e"))
  | ((with_reducible show PE _ (Expr.BinOp _ Operator.Sub _ _) _); refine' pe_op op_sub ?k1 ?k2; (case k1 => walk_at "gd e"); (case k2 => walk_at "gd e"))
  | ((with_reducible show PE _ (Expr.BinOp _ Operator.Mult _ _) _); refine' pe_op op_mulA ?k1 ?k2; (case k1 => walk_at "gd e"); (case k2 => walk_at "gd e"))
  | ((with_reducible show PE _ (Expr.BinOp _ Operator.Mod _ _) _); refine' pe_op op_mod ?k1 ?k2; (case k1 => walk_at "gd e"); (case k2 => walk_at "gd e"))
  | ((with_reducible show PE _ (Expr.BinOp _ Operator.FloorDiv _ _) _); refine' pe_op op_fdivW ?k1 ?k2; (case k1 => walk_at "gd e"); (case k2 => walk_at "gd e"))
  | ((with_reducible show PE _ (Expr.BinOp _ Operator.Pow _ _) _); refine' pe_op op_pow ?k1 ?k2; (case k1 => walk_at "gd e"); (case k2 => walk_at "gd e"))
  | ((with_reducible show PE _ (Expr.UnaryOp UnaryOp.USub _ _) _); refine' pe_un un_neg ?k1; (case k1 => walk_at "gd e"))
  | ((with_reducible show PE _ (Expr.UnaryOp UnaryOp.Not _ _) _); refine' pe_not ?k1; (case k1 => walk_at "gd e"))
  | ((with_reducible show PE _ (Expr.Compare _ [CmpOp.Lt] _ _) _); refine' pe_cmpR op_lt ?k1 ?k2 (by rfl); (case k1 => walk_at "gd e"); (case k2 => walk_at "gd e"))
  | ((with_reducible show PE _ (Expr.Compare _ [CmpOp.LtE] _ _) _); refine' pe_cmpR op_le ?k1 ?k2 (by rfl); (case k1 => walk_at "gd e"); (case k2 => walk_at "gd e"))
  | ((with_reducible show PE _ (Expr.Compare _ [CmpOp.Gt] _ _) _); refine' pe_cmpR op_gt ?k1 ?k2 (by rfl); (case k1 => walk_at "gd e"); (case k2 => walk_at "gd e"))
  | ((with_reducible show PE _ (Expr.Compare _ [CmpOp.GtE] _ _) _); refine' pe_cmpR op_ge ?k1 ?k2 (by rfl); (case k1 => walk_at "gd e"); (case k2 => walk_at "gd e"))
  | ((with_reducible show PE _ (Expr.Compare _ [CmpOp.Eq] _ _) _); refine' pe_cmpR (eqK (by assumption) (by assumption)) ?k1 ?k2 (by rfl); (case k1 => walk_at "gd e"); (case k2 => walk_at "gd e"))
  | ((with_reducible show PE _ (Expr.Compare _ [CmpOp.NotEq] _ _) _); refine' pe_cmpR (neK (by assumption) (by assumption)) ?k1 ?k2 (by rfl); (case k1 => walk_at "gd e"); (case k2 => walk_at "gd e"))
  | ((with_reducible show PE _ (Expr.Compare _ [CmpOp.In] _ _) _); refine' pe_cmpR (inK (by assumption)) ?k1 ?k2 (by rfl); (case k1 => walk_at "gd e"); (case k2 => walk_at "gd e"))
  | ((with_reducible show PE _ (Expr.Compare _ [CmpOp.NotIn] _ _) _); refine' pe_cmpR (niK (by assumption)) ?k1 ?k2 (by rfl); (case k1 => walk_at "gd e"); (case k2 => walk_at "gd e"))
  | ((with_reducible show PE _ (Expr.IfExp _ _ _ _) _); refine' pe_ifExp ?k1 ?k2 ?k3; (case k1 => walk_at "gd t"); (case k2 => walk_at "gd e"); (case k3 => walk_at "gd e"))
  | ((with_reducible show PE _ (Expr.Subscript _ (Expr.Slice none (some _) none _) _) _); refine' pe_slice sl_str ?k1 po_none (po_some ?k2); (case k1 => walk_at "gd e"); (case k2 => walk_at "gd e"))
  | ((with_reducible show PE _ (Expr.Subscript _ _ _) _); refine' pe_ix (ixK (by assumption)) ?k1 ?k2 (fun _ _ => rfl); (case k1 => walk_at "gd e"); (case k2 => walk_at "gd e"))
  | ((with_reducible show PE _ (Expr.List _ _) _); refine' pe_lst ?k1; (case k1 => walk_at "gd a"))
  | ((with_reducible show PE _ (Expr.Tuple _ _ _) _); refine' pe_tup ?k1; (case k1 => walk_at "gd a"))
  | ((with_reducible show PE _ (Expr.Dict [] [] _) _); exact pe_dnewK)
  | ((with_reducible show PE _ (Expr.Dict [_] [_] _) _); refine' pe_disp (pps_cons ?k1 ?k2 pps_nil) rfl rfl (fun z => by cases z) (by decide); (case k1 => walk_at "gd e"); (case k2 => walk_at "gd e"))
  | ((with_reducible show PE _ (Expr.Call (Expr.Attribute _ "join" _) _ _ _) _); refine' joinK (by assumption) ?k1 ?k2; (case k1 => walk_at "gd e"); (case k2 => walk_at "gd e"))
  | ((with_reducible show PE _ (Expr.Call (Expr.Attribute _ "append" _) _ _ _) _); refine' pe_bm PySem.F.plainAttrs_list PySem.F.slot_list_append PySem.F.type_list_append mt_append ?k1 ?k2; (case k1 => walk_at "gd e"); (case k2 => walk_at "gd a"))
  | ((with_reducible show PE _ (Expr.Attribute _ _ _) _); refine' efK (by assumption) ?k1; (case k1 => walk_at "gd e"))
  | ((with_reducible show PE _ (Expr.ListComp _ _ _ _) _); walk_at "gd lc")
  | walk_at "gd call")
local macro_rules | `(tactic| walk_at "gd t") => `(tactic| first
  | ((with_reducible show PT _ (Expr.UnaryOp UnaryOp.Not _ _) _); refine' pt_not ?k1; (case k1 => walk_at "gd t"))
  | ((with_reducible show PT _ (Expr.BoolOp BoolOp.And [_, _] _) _); refine' PW.pt (pw_and ?k1 (pw_and1 ?k2)); (case k1 => walk_at "gd t"); (case k2 => walk_at "gd t"))
  | ((with_reducible show PT _ (Expr.BoolOp BoolOp.Or [_, _] _) _); refine' PW.pt (pw_or ?k1 (pw_or1 ?k2)); (case k1 => walk_at "gd t"); (case k2 => walk_at "gd t"))
  | ((with_reducible show PT _ (Expr.Compare _ [CmpOp.Lt] _ _) _); refine' pt_cmpR op_lt ?k1 ?k2 (by rfl); (case k1 => walk_at "gd e"); (case k2 => walk_at "gd e"))
  | ((with_reducible show PT _ (Expr.Compare _ [CmpOp.LtE] _ _) _); refine' pt_cmpR op_le ?k1 ?k2 (by rfl); (case k1 => walk_at "gd e"); (case k2 => walk_at "gd e"))
  | ((with_reducible show PT _ (Expr.Compare _ [CmpOp.Gt] _ _) _); refine' pt_cmpR op_gt ?k1 ?k2 (by rfl); (case k1 => walk_at "gd e"); (case k2 => walk_at "gd e"))
  | ((with_reducible show PT _ (Expr.Compare _ [CmpOp.GtE] _ _) _); refine' pt_cmpR op_ge ?k1 ?k2 (by rfl); (case k1 => walk_at "gd e"); (case k2 => walk_at "gd e"))
  | ((with_reducible show PT _ (Expr.Compare _ [CmpOp.Eq] _ _) _); refine' pt_cmpR (eqK (by assumption) (by assumption)) ?k1 ?k2 (by rfl); (case k1 => walk_at "gd e"); (case k2 => walk_at "gd e"))
  | ((with_reducible show PT _ (Expr.Compare _ [CmpOp.NotEq] _ _) _); refine' pt_cmpR (neK (by assumption) (by assumption)) ?k1 ?k2 (by rfl); (case k1 => walk_at "gd e"); (case k2 => walk_at "gd e"))
  | ((with_reducible show PT _ (Expr.Compare _ [CmpOp.In] _ _) _); refine' pt_cmpR (inK (by assumption)) ?k1 ?k2 (by rfl); (case k1 => walk_at "gd e"); (case k2 => walk_at "gd e"))
  | ((with_reducible show PT _ (Expr.Compare _ [CmpOp.NotIn] _ _) _); refine' pt_cmpR (niK (by assumption)) ?k1 ?k2 (by rfl); (case k1 => walk_at "gd e"); (case k2 => walk_at "gd e"))
  | (refine' pt_val ?k1; (case k1 => walk_at "gd e")))
local macro_rules | `(tactic| walk_at "gd g") => `(tactic| first
  | ((with_reducible show PG _ (Expr.Name _ _) _); first | exact pg_name (i := 0) (by walk_at "gd nd") rfl (by walk_at "gd lo") | exact pg_name (i := 1) (by walk_at "gd nd") rfl (by walk_at "gd lo") | exact pg_name (i := 2) (by walk_at "gd nd") rfl (by walk_at "gd lo") | exact pg_name (i := 3) (by walk_at "gd nd") rfl (by walk_at "gd lo") | exact pg_name (i := 4) (by walk_at "gd nd") rfl (by walk_at "gd lo") | exact pg_name (i := 5) (by walk_at "gd nd") rfl (by walk_at "gd lo") | exact pg_name (i := 6) (by walk_at "gd nd") rfl (by walk_at "gd lo") | exact pg_name (i := 7) (by walk_at "gd nd") rfl (by walk_at "gd lo") | exact pg_name (i := 8) (by walk_at "gd nd") rfl (by walk_at "gd lo") | exact pg_name (i := 9) (by walk_at "gd nd") rfl (by walk_at "gd lo") | exact pg_name (i := 10) (by walk_at "gd nd") rfl (by walk_at "gd lo") | exact pg_name (i := 11) (by walk_at "gd nd") rfl (by walk_at "gd lo") | exact pg_name (i := 12) (by walk_at "gd nd") rfl (by walk_at "gd lo") | exact pg_name (i := 13) (by walk_at "gd nd") rfl (by walk_at "gd lo"))
  | ((with_reducible show PG _ (Expr.Subscript _ _ _) _); refine' pg_sub ?k1 ?k2 set_list; (case k1 => walk_at "gd e"); (case k2 => walk_at "gd e"))
  | ((with_reducible show PG _ (Expr.Tuple _ _ _) _); refine' pg_tup rfl ?k1; (case k1 => walk_at "gd gs")))
local macro_rules | `(tactic| walk_at "gd gs") => `(tactic| first | exact pgs_nil | (refine' pgs_cons ?k1 ?k2; (case k1 => walk_at "gd g"); (case k2 => walk_at "gd gs")))
local macro_rules | `(tactic| walk_at "gd set") => `(tactic| first | (refine' ps_set (i := 0) (by walk_at "gd nd") rfl (by walk_at "gd lo") ?k1; (case k1 => walk_at "gd e")) | (refine' ps_set (i := 1) (by walk_at "gd nd") rfl (by walk_at "gd lo") ?k1; (case k1 => walk_at "gd e")) | (refine' ps_set (i := 2) (by walk_at "gd nd") rfl (by walk_at "gd lo") ?k1; (case k1 => walk_at "gd e")) | (refine' ps_set (i := 3) (by walk_at "gd nd") rfl (by walk_at "gd lo") ?k1; (case k1 => walk_at "gd e")) | (refine' ps_set (i := 4) (by walk_at "gd nd") rfl (by walk_at "gd lo") ?k1; (case k1 => walk_at "gd e")) | (refine' ps_set (i := 5) (by walk_at "gd nd") rfl (by walk_at "gd lo") ?k1; (case k1 => walk_at "gd e")) | (refine' ps_set (i := 6) (by walk_at "gd nd") rfl (by walk_at "gd lo") ?k1; (case k1 => walk_at "gd e")) | (refine' ps_set (i := 7) (by walk_at "gd nd") rfl (by walk_at "gd lo") ?k1; (case k1 => walk_at "gd e")) | (refine' ps_set (i := 8) (by walk_at "gd nd") rfl (by walk_at "gd lo") ?k1; (case k1 => walk_at "gd e")) | (refine' ps_set (i := 9) (by walk_at "gd nd") rfl (by walk_at "gd lo") ?k1; (case k1 => walk_at "gd e")) | (refine' ps_set (i := 10) (by walk_at "gd nd") rfl (by walk_at "gd lo") ?k1; (case k1 => walk_at "gd e")) | (refine' ps_set (i := 11) (by walk_at "gd nd") rfl (by walk_at "gd lo") ?k1; (case k1 => walk_at "gd e")) | (refine' ps_set (i := 12) (by walk_at "gd nd") rfl (by walk_at "gd lo") ?k1; (case k1 => walk_at "gd e")) | (refine' ps_set (i := 13) (by walk_at "gd nd") rfl (by walk_at "gd lo") ?k1; (case k1 => walk_at "gd e")))
local macro_rules | `(tactic| walk_at "gd os") => `(tactic| fail)
local macro_rules | `(tactic| walk_at "gd slc") => `(tactic| fail)
local macro_rules | `(tactic| walk_at "gd par") => `(tactic| fail)
local macro_rules | `(tactic| walk_at "gd s") => `(tactic| first
  | ((with_reducible show PS _ (Stmt.Return (some _) _) _); refine' ps_ret ?k1; (case k1 => walk_at "gd e"))
  | ((with_reducible show PS _ (Stmt.If _ _ _ _) _); refine' ps_if ?k1 ?k2 ?k3; (case k1 => walk_at "gd t"); (case k2 => walk_at "gd ss"); (case k3 => walk_at "gd ss"))
  | ((with_reducible show PS _ (Stmt.Assign [Expr.Name _ _] (Expr.ListComp _ _ _ _) _) _); walk_at "gd slc")
  | ((with_reducible show PS _ (Stmt.Assign [Expr.Name _ _] _ _) _); walk_at "gd set")
  | ((with_reducible show PS _ (Stmt.Assign [_] _ _) _); refine' ps_asg ?k1 ?k2; (case k1 => walk_at "gd e"); (case k2 => walk_at "gd g"))
  | ((with_reducible show PS _ (Stmt.Assign [_] _ _) _); walk_at "gd par")
  | ((with_reducible show PS _ (Stmt.For _ _ _ _ _) _); refine' ps_for PassesOwn.never rfl ?k1 ?k2 ?k3; (case k1 => walk_at "gd i"); (case k2 => walk_at "gd g"); (case k3 => walk_at "gd ss"))
  | ((with_reducible show PS _ (Stmt.Expr _ _) _); refine' ps_expr ?k1; (case k1 => walk_at "gd e"))
  | walk_at "gd os")
local macro_rules | `(tactic| walk_at "gd ss") => `(tactic| first | exact pss_nil | (refine' pss_one ?k1; (case k1 => walk_at "gd s")) | (refine' pss_cons ?k1 ?k2; (case k1 => walk_at "gd s"); (case k2 => walk_at "gd ss")))
section
variable {P : Program} {w : World} {K : W.Frag} {mg : Str → Option Value} {base : Heap} {f : Addr} {fd : FuncData}
theorem cat_step {Hk : Hp} {xs ys : List V} {l0 : Addr} {Q : VK} (h0 : Hk l0 = some (.lst xs)) (lx : xs.length + ys.length ≤ 1000)
    (next : ∀ (l1 : Addr) (H' : Hp), All Hk H' → H' l1 = some (.lst (xs ++ ys)) → Hk l1 = none → Q (.ref l1) H') :
    ys.length ≤ sizeLine ∧ ∀ m, Hk m = none → (rI0 (fun i j => V.int (i + j)) (.ref l0) (.ref m) (upd Hk m (.lst ys)) Q ∨ (∃ i j, V.ref l0 = V.str i ∧ V.ref m = V.str j ∧ i.length + j.length ≤ sizeLine ∧ Q (V.str (i ++ j)) (upd Hk m (.lst ys))) ∨ rCat (.ref l0) (.ref m) (upd Hk m (.lst ys)) Q) := by
  have big : (1000 : Nat) < sizeLine := by decide
  refine ⟨by omega, fun m hm => .inr (.inr ⟨l0, m, xs, ys, rfl, rfl, All.new hm _ _ h0, upd_same, by omega, fun l1 h1 => next l1 _ ((All.new hm).trans (All.new h1)) upd_same ?_⟩)⟩
  cases z : Hk l1 with
  | none => rfl
  | some o => rw [All.new hm _ _ z] at h1; cases h1
def ExAt (H : Hp) (e C : Addr) (d : Option Addr) : Prop := H e = some (exo e C d) ∧ ∀ dx, d = some dx → ∃ fs, H dx = some (exd dx fs)
theorem ex_at {H : Hp} {n : Nat} {x y : V} {e : Addr} (er : Er K H n x y e) : ∃ d, ExAt H e (He.ga K (cn n)) d := by
  rcases er with ⟨z, h1⟩ | ⟨z, d, h1, h2⟩
  · exact ⟨none, h1, fun _ z => nomatch z⟩
  · exact ⟨some d, h1, fun dx z => by cases z; exact ⟨_, h2⟩⟩
theorem ex_on {H H' : Hp} {e C : Addr} {d : Option Addr} (g : ExAt H e C d) (a : All H H') : ExAt H' e C d := ⟨a _ _ g.1, fun dx z => let ⟨fs, h⟩ := g.2 dx z; ⟨fs, a _ _ h⟩⟩
theorem none_of {H H' : Hp} {a : Addr} (h : All H H') (n : H' a = none) : H a = none := by
  cases z : H a with
  | none => rfl
  | some o => rw [h _ _ z] at n; cases n
theorem lst_step {Hk : Hp} {ys : List V} {Q : VK} (lx : ys.length ≤ 1000) (next : ∀ (l1 : Addr) (H' : Hp), All Hk H' → H' l1 = some (.lst ys) → Hk l1 = none → Q (.ref l1) H') :
    ys.length ≤ sizeLine ∧ ∀ m, Hk m = none → Q (.ref m) (upd Hk m (.lst ys)) := by
  have big : (1000 : Nat) < sizeLine := by decide
  exact ⟨by omega, fun m hm => next m _ (All.new hm) upd_same hm⟩
theorem ok_kin (fr : Frees mg) (gl : Globs K gnames mg) (at_ : Att K) (ki : Kin K) (F : Fun K "_law_kin" "_law_kin" sKin f fd) : FnOk P w K mg base CX0 1 f fd ["_law_e"] (spKin K) := by
  refine F.ok scKin (fun vs H Q E h => ?_) (fun cdv A outer s H vs Q E hr h => ⟨?t, ?d, ?r⟩)
  · obtain ⟨e, n, x, y, rfl, _⟩ := h
    rfl
  case d =>
    have nd := scKin.nd
    have isk : IsK K := ⟨trivial⟩
    walk_at "gd ss"
  case r =>
    obtain ⟨e, n, x, y, rfl, hn, er, q⟩ := h
    obtain ⟨d0, g⟩ := ex_at er
    refine ⟨_, rfl, e, _, d0, _, _, _, rfl, g.1, g.2, at_.ea n hn, .own _, ki.own n 0 hn (by decide), ?_⟩
    refine ⟨_, rfl, e, _, d0, _, _, _, rfl, g.1, g.2, at_.ea n hn, .own _, ki.own n 1 hn (by decide), ?_⟩
    refine ⟨_, rfl, e, _, d0, _, _, _, rfl, g.1, g.2, at_.ea n hn, .own _, ki.own n 2 hn (by decide), ?_⟩
    refine ⟨(by show 3 ≤ sizeLine; decide), fun l0 n0 => ?_⟩
    have a0 : All H (upd H l0 (.lst [V.bl (decide (0 = n)), V.bl (decide (1 = n)), V.bl (decide (2 = n))])) := All.new n0
    have L0 : upd H l0 (.lst [V.bl (decide (0 = n)), V.bl (decide (1 = n)), V.bl (decide (2 = n))]) l0 = some (.lst [V.bl (decide (0 = n)), V.bl (decide (1 = n)), V.bl (decide (2 = n))]) := upd_same
    generalize upd H l0 (HO.lst [V.bl (decide (0 = n)), V.bl (decide (1 = n)), V.bl (decide (2 = n))]) = H0 at a0 L0 ⊢
    have g0 := ex_on g a0
    have A0 := a0
    refine ⟨_, rfl, ?_⟩
    refine ⟨_, rfl, e, _, d0, _, _, _, rfl, g0.1, g0.2, at_.ea n hn, .own _, ki.own n 3 hn (by decide), ?_⟩
    refine ⟨_, rfl, e, _, d0, _, _, _, rfl, g0.1, g0.2, at_.ea n hn, .own _, ki.own n 4 hn (by decide), ?_⟩
    refine ⟨_, rfl, e, _, d0, _, _, _, rfl, g0.1, g0.2, at_.ea n hn, .own _, ki.own n 5 hn (by decide), ?_⟩
    refine ⟨(by show 3 ≤ sizeLine; decide), fun m1 h1 => .inr (.inr ⟨l0, m1, _, _, rfl, rfl, All.new h1 _ _ L0, upd_same, (by show 3 + 3 ≤ sizeLine; decide), fun l1 k1 => ?_⟩)⟩
    have n1 : H l1 = none := none_of (A0.trans (All.new (o := HO.lst [V.bl (decide (3 = n)), V.bl (decide (4 = n)), V.bl (decide (5 = n))]) h1)) k1
    have a1 : All H0 (upd (upd H0 m1 (HO.lst [V.bl (decide (3 = n)), V.bl (decide (4 = n)), V.bl (decide (5 = n))])) l1 (HO.lst ([V.bl (decide (0 = n)), V.bl (decide (1 = n)), V.bl (decide (2 = n))] ++ [V.bl (decide (3 = n)), V.bl (decide (4 = n)), V.bl (decide (5 = n))]))) := (All.new h1).trans (All.new k1)
    have L1 : (upd (upd H0 m1 (HO.lst [V.bl (decide (3 = n)), V.bl (decide (4 = n)), V.bl (decide (5 = n))])) l1 (HO.lst ([V.bl (decide (0 = n)), V.bl (decide (1 = n)), V.bl (decide (2 = n))] ++ [V.bl (decide (3 = n)), V.bl (decide (4 = n)), V.bl (decide (5 = n))]))) l1 = some (.lst [V.bl (decide (0 = n)), V.bl (decide (1 = n)), V.bl (decide (2 = n)), V.bl (decide (3 = n)), V.bl (decide (4 = n)), V.bl (decide (5 = n))]) := upd_same
    generalize upd (upd H0 m1 (HO.lst [V.bl (decide (3 = n)), V.bl (decide (4 = n)), V.bl (decide (5 = n))])) l1 (HO.lst ([V.bl (decide (0 = n)), V.bl (decide (1 = n)), V.bl (decide (2 = n))] ++ [V.bl (decide (3 = n)), V.bl (decide (4 = n)), V.bl (decide (5 = n))])) = H1 at a1 L1 ⊢
    clear k1 h1
    have g1 := ex_on g0 a1
    have A1 := A0.trans a1
    clear a1 g0 A0 L0 n0
    refine ⟨_, rfl, ?_⟩
    refine ⟨_, rfl, e, _, d0, _, _, _, rfl, g1.1, g1.2, at_.ea n hn, .own _, ki.own n 6 hn (by decide), ?_⟩
    refine ⟨_, rfl, e, _, d0, _, _, _, rfl, g1.1, g1.2, at_.ea n hn, .own _, ki.own n 7 hn (by decide), ?_⟩
    refine ⟨_, rfl, e, _, d0, _, _, _, rfl, g1.1, g1.2, at_.ea n hn, .own _, ki.own n 8 hn (by decide), ?_⟩
    refine ⟨(by show 3 ≤ sizeLine; decide), fun m2 h2 => .inr (.inr ⟨l1, m2, _, _, rfl, rfl, All.new h2 _ _ L1, upd_same, (by show 6 + 3 ≤ sizeLine; decide), fun l2 k2 => ?_⟩)⟩
    have n2 : H l2 = none := none_of (A1.trans (All.new (o := HO.lst [V.bl (decide (6 = n)), V.bl (decide (7 = n)), V.bl (decide (8 = n))]) h2)) k2
    have a2 : All H1 (upd (upd H1 m2 (HO.lst [V.bl (decide (6 = n)), V.bl (decide (7 = n)), V.bl (decide (8 = n))])) l2 (HO.lst ([V.bl (decide (0 = n)), V.bl (decide (1 = n)), V.bl (decide (2 = n)), V.bl (decide (3 = n)), V.bl (decide (4 = n)), V.bl (decide (5 = n))] ++ [V.bl (decide (6 = n)), V.bl (decide (7 = n)), V.bl (decide (8 = n))]))) := (All.new h2).trans (All.new k2)
    have L2 : (upd (upd H1 m2 (HO.lst [V.bl (decide (6 = n)), V.bl (decide (7 = n)), V.bl (decide (8 = n))])) l2 (HO.lst ([V.bl (decide (0 = n)), V.bl (decide (1 = n)), V.bl (decide (2 = n)), V.bl (decide (3 = n)), V.bl (decide (4 = n)), V.bl (decide (5 = n))] ++ [V.bl (decide (6 = n)), V.bl (decide (7 = n)), V.bl (decide (8 = n))]))) l2 = some (.lst [V.bl (decide (0 = n)), V.bl (decide (1 = n)), V.bl (decide (2 = n)), V.bl (decide (3 = n)), V.bl (decide (4 = n)), V.bl (decide (5 = n)), V.bl (decide (6 = n)), V.bl (decide (7 = n)), V.bl (decide (8 = n))]) := upd_same
    generalize upd (upd H1 m2 (HO.lst [V.bl (decide (6 = n)), V.bl (decide (7 = n)), V.bl (decide (8 = n))])) l2 (HO.lst ([V.bl (decide (0 = n)), V.bl (decide (1 = n)), V.bl (decide (2 = n)), V.bl (decide (3 = n)), V.bl (decide (4 = n)), V.bl (decide (5 = n))] ++ [V.bl (decide (6 = n)), V.bl (decide (7 = n)), V.bl (decide (8 = n))])) = H2 at a2 L2 ⊢
    clear k2 h2
    have g2 := ex_on g1 a2
    have A2 := A1.trans a2
    clear a2 g1 A1 L1 n1
    refine ⟨_, rfl, ?_⟩
    refine ⟨_, rfl, e, _, d0, _, _, _, rfl, g2.1, g2.2, at_.ea n hn, .own _, ki.own n 9 hn (by decide), ?_⟩
    refine ⟨_, rfl, e, _, d0, _, _, _, rfl, g2.1, g2.2, at_.ea n hn, .own _, ki.own n 10 hn (by decide), ?_⟩
    refine ⟨_, rfl, e, _, d0, _, _, _, rfl, g2.1, g2.2, at_.ea n hn, .own _, ki.own n 11 hn (by decide), ?_⟩
    refine ⟨(by show 3 ≤ sizeLine; decide), fun m3 h3 => .inr (.inr ⟨l2, m3, _, _, rfl, rfl, All.new h3 _ _ L2, upd_same, (by show 9 + 3 ≤ sizeLine; decide), fun l3 k3 => ?_⟩)⟩
    have n3 : H l3 = none := none_of (A2.trans (All.new (o := HO.lst [V.bl (decide (9 = n)), V.bl (decide (10 = n)), V.bl (decide (11 = n))]) h3)) k3
    have a3 : All H2 (upd (upd H2 m3 (HO.lst [V.bl (decide (9 = n)), V.bl (decide (10 = n)), V.bl (decide (11 = n))])) l3 (HO.lst ([V.bl (decide (0 = n)), V.bl (decide (1 = n)), V.bl (decide (2 = n)), V.bl (decide (3 = n)), V.bl (decide (4 = n)), V.bl (decide (5 = n)), V.bl (decide (6 = n)), V.bl (decide (7 = n)), V.bl (decide (8 = n))] ++ [V.bl (decide (9 = n)), V.bl (decide (10 = n)), V.bl (decide (11 = n))]))) := (All.new h3).trans (All.new k3)
    have L3 : (upd (upd H2 m3 (HO.lst [V.bl (decide (9 = n)), V.bl (decide (10 = n)), V.bl (decide (11 = n))])) l3 (HO.lst ([V.bl (decide (0 = n)), V.bl (decide (1 = n)), V.bl (decide (2 = n)), V.bl (decide (3 = n)), V.bl (decide (4 = n)), V.bl (decide (5 = n)), V.bl (decide (6 = n)), V.bl (decide (7 = n)), V.bl (decide (8 = n))] ++ [V.bl (decide (9 = n)), V.bl (decide (10 = n)), V.bl (decide (11 = n))]))) l3 = some (.lst [V.bl (decide (0 = n)), V.bl (decide (1 = n)), V.bl (decide (2 = n)), V.bl (decide (3 = n)), V.bl (decide (4 = n)), V.bl (decide (5 = n)), V.bl (decide (6 = n)), V.bl (decide (7 = n)), V.bl (decide (8 = n)), V.bl (decide (9 = n)), V.bl (decide (10 = n)), V.bl (decide (11 = n))]) := upd_same
    generalize upd (upd H2 m3 (HO.lst [V.bl (decide (9 = n)), V.bl (decide (10 = n)), V.bl (decide (11 = n))])) l3 (HO.lst ([V.bl (decide (0 = n)), V.bl (decide (1 = n)), V.bl (decide (2 = n)), V.bl (decide (3 = n)), V.bl (decide (4 = n)), V.bl (decide (5 = n)), V.bl (decide (6 = n)), V.bl (decide (7 = n)), V.bl (decide (8 = n))] ++ [V.bl (decide (9 = n)), V.bl (decide (10 = n)), V.bl (decide (11 = n))])) = H3 at a3 L3 ⊢
    clear k3 h3
    have g3 := ex_on g2 a3
    have A3 := A2.trans a3
    clear a3 g2 A2 L2 n2
    refine ⟨_, rfl, ?_⟩
    refine ⟨_, rfl, e, _, d0, _, _, _, rfl, g3.1, g3.2, at_.ea n hn, .own _, ki.own n 12 hn (by decide), ?_⟩
    refine ⟨_, rfl, e, _, d0, _, _, _, rfl, g3.1, g3.2, at_.ea n hn, .own _, ki.own n 13 hn (by decide), ?_⟩
    refine ⟨_, rfl, e, _, d0, _, _, _, rfl, g3.1, g3.2, at_.ea n hn, .own _, ki.own n 14 hn (by decide), ?_⟩
    refine ⟨(by show 3 ≤ sizeLine; decide), fun m4 h4 => .inr (.inr ⟨l3, m4, _, _, rfl, rfl, All.new h4 _ _ L3, upd_same, (by show 12 + 3 ≤ sizeLine; decide), fun l4 k4 => ?_⟩)⟩
    have n4 : H l4 = none := none_of (A3.trans (All.new (o := HO.lst [V.bl (decide (12 = n)), V.bl (decide (13 = n)), V.bl (decide (14 = n))]) h4)) k4
    have a4 : All H3 (upd (upd H3 m4 (HO.lst [V.bl (decide (12 = n)), V.bl (decide (13 = n)), V.bl (decide (14 = n))])) l4 (HO.lst ([V.bl (decide (0 = n)), V.bl (decide (1 = n)), V.bl (decide (2 = n)), V.bl (decide (3 = n)), V.bl (decide (4 = n)), V.bl (decide (5 = n)), V.bl (decide (6 = n)), V.bl (decide (7 = n)), V.bl (decide (8 = n)), V.bl (decide (9 = n)), V.bl (decide (10 = n)), V.bl (decide (11 = n))] ++ [V.bl (decide (12 = n)), V.bl (decide (13 = n)), V.bl (decide (14 = n))]))) := (All.new h4).trans (All.new k4)
    have L4 : (upd (upd H3 m4 (HO.lst [V.bl (decide (12 = n)), V.bl (decide (13 = n)), V.bl (decide (14 = n))])) l4 (HO.lst ([V.bl (decide (0 = n)), V.bl (decide (1 = n)), V.bl (decide (2 = n)), V.bl (decide (3 = n)), V.bl (decide (4 = n)), V.bl (decide (5 = n)), V.bl (decide (6 = n)), V.bl (decide (7 = n)), V.bl (decide (8 = n)), V.bl (decide (9 = n)), V.bl (decide (10 = n)), V.bl (decide (11 = n))] ++ [V.bl (decide (12 = n)), V.bl (decide (13 = n)), V.bl (decide (14 = n))]))) l4 = some (.lst [V.bl (decide (0 = n)), V.bl (decide (1 = n)), V.bl (decide (2 = n)), V.bl (decide (3 = n)), V.bl (decide (4 = n)), V.bl (decide (5 = n)), V.bl (decide (6 = n)), V.bl (decide (7 = n)), V.bl (decide (8 = n)), V.bl (decide (9 = n)), V.bl (decide (10 = n)), V.bl (decide (11 = n)), V.bl (decide (12 = n)), V.bl (decide (13 = n)), V.bl (decide (14 = n))]) := upd_same
    generalize upd (upd H3 m4 (HO.lst [V.bl (decide (12 = n)), V.bl (decide (13 = n)), V.bl (decide (14 = n))])) l4 (HO.lst ([V.bl (decide (0 = n)), V.bl (decide (1 = n)), V.bl (decide (2 = n)), V.bl (decide (3 = n)), V.bl (decide (4 = n)), V.bl (decide (5 = n)), V.bl (decide (6 = n)), V.bl (decide (7 = n)), V.bl (decide (8 = n)), V.bl (decide (9 = n)), V.bl (decide (10 = n)), V.bl (decide (11 = n))] ++ [V.bl (decide (12 = n)), V.bl (decide (13 = n)), V.bl (decide (14 = n))])) = H4 at a4 L4 ⊢
    clear k4 h4
    have g4 := ex_on g3 a4
    have A4 := A3.trans a4
    clear a4 g3 A3 L3 n3
    refine ⟨_, rfl, ?_⟩
    refine ⟨_, rfl, e, _, d0, _, _, _, rfl, g4.1, g4.2, at_.ea n hn, .own _, ki.own n 15 hn (by decide), ?_⟩
    refine ⟨_, rfl, e, _, d0, _, _, _, rfl, g4.1, g4.2, at_.ea n hn, .own _, ki.own n 16 hn (by decide), ?_⟩
    refine ⟨_, rfl, e, _, d0, _, _, _, rfl, g4.1, g4.2, at_.ea n hn, .own _, ki.own n 17 hn (by decide), ?_⟩
    refine ⟨(by show 3 ≤ sizeLine; decide), fun m5 h5 => .inr (.inr ⟨l4, m5, _, _, rfl, rfl, All.new h5 _ _ L4, upd_same, (by show 15 + 3 ≤ sizeLine; decide), fun l5 k5 => ?_⟩)⟩
    have n5 : H l5 = none := none_of (A4.trans (All.new (o := HO.lst [V.bl (decide (15 = n)), V.bl (decide (16 = n)), V.bl (decide (17 = n))]) h5)) k5
    have a5 : All H4 (upd (upd H4 m5 (HO.lst [V.bl (decide (15 = n)), V.bl (decide (16 = n)), V.bl (decide (17 = n))])) l5 (HO.lst ([V.bl (decide (0 = n)), V.bl (decide (1 = n)), V.bl (decide (2 = n)), V.bl (decide (3 = n)), V.bl (decide (4 = n)), V.bl (decide (5 = n)), V.bl (decide (6 = n)), V.bl (decide (7 = n)), V.bl (decide (8 = n)), V.bl (decide (9 = n)), V.bl (decide (10 = n)), V.bl (decide (11 = n)), V.bl (decide (12 = n)), V.bl (decide (13 = n)), V.bl (decide (14 = n))] ++ [V.bl (decide (15 = n)), V.bl (decide (16 = n)), V.bl (decide (17 = n))]))) := (All.new h5).trans (All.new k5)
    have L5 : (upd (upd H4 m5 (HO.lst [V.bl (decide (15 = n)), V.bl (decide (16 = n)), V.bl (decide (17 = n))])) l5 (HO.lst ([V.bl (decide (0 = n)), V.bl (decide (1 = n)), V.bl (decide (2 = n)), V.bl (decide (3 = n)), V.bl (decide (4 = n)), V.bl (decide (5 = n)), V.bl (decide (6 = n)), V.bl (decide (7 = n)), V.bl (decide (8 = n)), V.bl (decide (9 = n)), V.bl (decide (10 = n)), V.bl (decide (11 = n)), V.bl (decide (12 = n)), V.bl (decide (13 = n)), V.bl (decide (14 = n))] ++ [V.bl (decide (15 = n)), V.bl (decide (16 = n)), V.bl (decide (17 = n))]))) l5 = some (.lst [V.bl (decide (0 = n)), V.bl (decide (1 = n)), V.bl (decide (2 = n)), V.bl (decide (3 = n)), V.bl (decide (4 = n)), V.bl (decide (5 = n)), V.bl (decide (6 = n)), V.bl (decide (7 = n)), V.bl (decide (8 = n)), V.bl (decide (9 = n)), V.bl (decide (10 = n)), V.bl (decide (11 = n)), V.bl (decide (12 = n)), V.bl (decide (13 = n)), V.bl (decide (14 = n)), V.bl (decide (15 = n)), V.bl (decide (16 = n)), V.bl (decide (17 = n))]) := upd_same
    generalize upd (upd H4 m5 (HO.lst [V.bl (decide (15 = n)), V.bl (decide (16 = n)), V.bl (decide (17 = n))])) l5 (HO.lst ([V.bl (decide (0 = n)), V.bl (decide (1 = n)), V.bl (decide (2 = n)), V.bl (decide (3 = n)), V.bl (decide (4 = n)), V.bl (decide (5 = n)), V.bl (decide (6 = n)), V.bl (decide (7 = n)), V.bl (decide (8 = n)), V.bl (decide (9 = n)), V.bl (decide (10 = n)), V.bl (decide (11 = n)), V.bl (decide (12 = n)), V.bl (decide (13 = n)), V.bl (decide (14 = n))] ++ [V.bl (decide (15 = n)), V.bl (decide (16 = n)), V.bl (decide (17 = n))])) = H5 at a5 L5 ⊢
    clear k5 h5
    have g5 := ex_on g4 a5
    have A5 := A4.trans a5
    clear a5 g4 A4 L4 n4
    refine ⟨_, rfl, ?_⟩
    refine ⟨_, rfl, e, _, d0, _, _, _, rfl, g5.1, g5.2, at_.ea n hn, .own _, ki.own n 18 hn (by decide), ?_⟩
    refine ⟨_, rfl, e, _, d0, _, _, _, rfl, g5.1, g5.2, at_.ea n hn, .own _, ki.own n 19 hn (by decide), ?_⟩
    refine ⟨_, rfl, e, _, d0, _, _, _, rfl, g5.1, g5.2, at_.ea n hn, .own _, ki.own n 20 hn (by decide), ?_⟩
    refine ⟨(by show 3 ≤ sizeLine; decide), fun m6 h6 => .inr (.inr ⟨l5, m6, _, _, rfl, rfl, All.new h6 _ _ L5, upd_same, (by show 18 + 3 ≤ sizeLine; decide), fun l6 k6 => ?_⟩)⟩
    have n6 : H l6 = none := none_of (A5.trans (All.new (o := HO.lst [V.bl (decide (18 = n)), V.bl (decide (19 = n)), V.bl (decide (20 = n))]) h6)) k6
    have a6 : All H5 (upd (upd H5 m6 (HO.lst [V.bl (decide (18 = n)), V.bl (decide (19 = n)), V.bl (decide (20 = n))])) l6 (HO.lst ([V.bl (decide (0 = n)), V.bl (decide (1 = n)), V.bl (decide (2 = n)), V.bl (decide (3 = n)), V.bl (decide (4 = n)), V.bl (decide (5 = n)), V.bl (decide (6 = n)), V.bl (decide (7 = n)), V.bl (decide (8 = n)), V.bl (decide (9 = n)), V.bl (decide (10 = n)), V.bl (decide (11 = n)), V.bl (decide (12 = n)), V.bl (decide (13 = n)), V.bl (decide (14 = n)), V.bl (decide (15 = n)), V.bl (decide (16 = n)), V.bl (decide (17 = n))] ++ [V.bl (decide (18 = n)), V.bl (decide (19 = n)), V.bl (decide (20 = n))]))) := (All.new h6).trans (All.new k6)
    have L6 : (upd (upd H5 m6 (HO.lst [V.bl (decide (18 = n)), V.bl (decide (19 = n)), V.bl (decide (20 = n))])) l6 (HO.lst ([V.bl (decide (0 = n)), V.bl (decide (1 = n)), V.bl (decide (2 = n)), V.bl (decide (3 = n)), V.bl (decide (4 = n)), V.bl (decide (5 = n)), V.bl (decide (6 = n)), V.bl (decide (7 = n)), V.bl (decide (8 = n)), V.bl (decide (9 = n)), V.bl (decide (10 = n)), V.bl (decide (11 = n)), V.bl (decide (12 = n)), V.bl (decide (13 = n)), V.bl (decide (14 = n)), V.bl (decide (15 = n)), V.bl (decide (16 = n)), V.bl (decide (17 = n))] ++ [V.bl (decide (18 = n)), V.bl (decide (19 = n)), V.bl (decide (20 = n))]))) l6 = some (.lst [V.bl (decide (0 = n)), V.bl (decide (1 = n)), V.bl (decide (2 = n)), V.bl (decide (3 = n)), V.bl (decide (4 = n)), V.bl (decide (5 = n)), V.bl (decide (6 = n)), V.bl (decide (7 = n)), V.bl (decide (8 = n)), V.bl (decide (9 = n)), V.bl (decide (10 = n)), V.bl (decide (11 = n)), V.bl (decide (12 = n)), V.bl (decide (13 = n)), V.bl (decide (14 = n)), V.bl (decide (15 = n)), V.bl (decide (16 = n)), V.bl (decide (17 = n)), V.bl (decide (18 = n)), V.bl (decide (19 = n)), V.bl (decide (20 = n))]) := upd_same
    generalize upd (upd H5 m6 (HO.lst [V.bl (decide (18 = n)), V.bl (decide (19 = n)), V.bl (decide (20 = n))])) l6 (HO.lst ([V.bl (decide (0 = n)), V.bl (decide (1 = n)), V.bl (decide (2 = n)), V.bl (decide (3 = n)), V.bl (decide (4 = n)), V.bl (decide (5 = n)), V.bl (decide (6 = n)), V.bl (decide (7 = n)), V.bl (decide (8 = n)), V.bl (decide (9 = n)), V.bl (decide (10 = n)), V.bl (decide (11 = n)), V.bl (decide (12 = n)), V.bl (decide (13 = n)), V.bl (decide (14 = n)), V.bl (decide (15 = n)), V.bl (decide (16 = n)), V.bl (decide (17 = n))] ++ [V.bl (decide (18 = n)), V.bl (decide (19 = n)), V.bl (decide (20 = n))])) = H6 at a6 L6 ⊢
    clear k6 h6
    have g6 := ex_on g5 a6
    have A6 := A5.trans a6
    clear a6 g5 A5 L5 n5
    refine ⟨_, rfl, ?_⟩
    refine ⟨_, rfl, e, _, d0, _, _, _, rfl, g6.1, g6.2, at_.ea n hn, .own _, ki.own n 21 hn (by decide), ?_⟩
    refine ⟨_, rfl, e, _, d0, _, _, _, rfl, g6.1, g6.2, at_.ea n hn, .own _, ki.own n 22 hn (by decide), ?_⟩
    refine ⟨_, rfl, e, _, d0, _, _, _, rfl, g6.1, g6.2, at_.ea n hn, .own _, ki.own n 23 hn (by decide), ?_⟩
    refine ⟨(by show 3 ≤ sizeLine; decide), fun m7 h7 => .inr (.inr ⟨l6, m7, _, _, rfl, rfl, All.new h7 _ _ L6, upd_same, (by show 21 + 3 ≤ sizeLine; decide), fun l7 k7 => ?_⟩)⟩
    have n7 : H l7 = none := none_of (A6.trans (All.new (o := HO.lst [V.bl (decide (21 = n)), V.bl (decide (22 = n)), V.bl (decide (23 = n))]) h7)) k7
    have a7 : All H6 (upd (upd H6 m7 (HO.lst [V.bl (decide (21 = n)), V.bl (decide (22 = n)), V.bl (decide (23 = n))])) l7 (HO.lst ([V.bl (decide (0 = n)), V.bl (decide (1 = n)), V.bl (decide (2 = n)), V.bl (decide (3 = n)), V.bl (decide (4 = n)), V.bl (decide (5 = n)), V.bl (decide (6 = n)), V.bl (decide (7 = n)), V.bl (decide (8 = n)), V.bl (decide (9 = n)), V.bl (decide (10 = n)), V.bl (decide (11 = n)), V.bl (decide (12 = n)), V.bl (decide (13 = n)), V.bl (decide (14 = n)), V.bl (decide (15 = n)), V.bl (decide (16 = n)), V.bl (decide (17 = n)), V.bl (decide (18 = n)), V.bl (decide (19 = n)), V.bl (decide (20 = n))] ++ [V.bl (decide (21 = n)), V.bl (decide (22 = n)), V.bl (decide (23 = n))]))) := (All.new h7).trans (All.new k7)
    have L7 : (upd (upd H6 m7 (HO.lst [V.bl (decide (21 = n)), V.bl (decide (22 = n)), V.bl (decide (23 = n))])) l7 (HO.lst ([V.bl (decide (0 = n)), V.bl (decide (1 = n)), V.bl (decide (2 = n)), V.bl (decide (3 = n)), V.bl (decide (4 = n)), V.bl (decide (5 = n)), V.bl (decide (6 = n)), V.bl (decide (7 = n)), V.bl (decide (8 = n)), V.bl (decide (9 = n)), V.bl (decide (10 = n)), V.bl (decide (11 = n)), V.bl (decide (12 = n)), V.bl (decide (13 = n)), V.bl (decide (14 = n)), V.bl (decide (15 = n)), V.bl (decide (16 = n)), V.bl (decide (17 = n)), V.bl (decide (18 = n)), V.bl (decide (19 = n)), V.bl (decide (20 = n))] ++ [V.bl (decide (21 = n)), V.bl (decide (22 = n)), V.bl (decide (23 = n))]))) l7 = some (.lst [V.bl (decide (0 = n)), V.bl (decide (1 = n)), V.bl (decide (2 = n)), V.bl (decide (3 = n)), V.bl (decide (4 = n)), V.bl (decide (5 = n)), V.bl (decide (6 = n)), V.bl (decide (7 = n)), V.bl (decide (8 = n)), V.bl (decide (9 = n)), V.bl (decide (10 = n)), V.bl (decide (11 = n)), V.bl (decide (12 = n)), V.bl (decide (13 = n)), V.bl (decide (14 = n)), V.bl (decide (15 = n)), V.bl (decide (16 = n)), V.bl (decide (17 = n)), V.bl (decide (18 = n)), V.bl (decide (19 = n)), V.bl (decide (20 = n)), V.bl (decide (21 = n)), V.bl (decide (22 = n)), V.bl (decide (23 = n))]) := upd_same
    generalize upd (upd H6 m7 (HO.lst [V.bl (decide (21 = n)), V.bl (decide (22 = n)), V.bl (decide (23 = n))])) l7 (HO.lst ([V.bl (decide (0 = n)), V.bl (decide (1 = n)), V.bl (decide (2 = n)), V.bl (decide (3 = n)), V.bl (decide (4 = n)), V.bl (decide (5 = n)), V.bl (decide (6 = n)), V.bl (decide (7 = n)), V.bl (decide (8 = n)), V.bl (decide (9 = n)), V.bl (decide (10 = n)), V.bl (decide (11 = n)), V.bl (decide (12 = n)), V.bl (decide (13 = n)), V.bl (decide (14 = n)), V.bl (decide (15 = n)), V.bl (decide (16 = n)), V.bl (decide (17 = n)), V.bl (decide (18 = n)), V.bl (decide (19 = n)), V.bl (decide (20 = n))] ++ [V.bl (decide (21 = n)), V.bl (decide (22 = n)), V.bl (decide (23 = n))])) = H7 at a7 L7 ⊢
    clear k7 h7
    have g7 := ex_on g6 a7
    have A7 := A6.trans a7
    clear a7 g6 A6 L6 n6
    refine ⟨_, rfl, ?_⟩
    refine ⟨_, rfl, e, _, d0, _, _, _, rfl, g7.1, g7.2, at_.ea n hn, .own _, ki.own n 24 hn (by decide), ?_⟩
    refine ⟨_, rfl, e, _, d0, _, _, _, rfl, g7.1, g7.2, at_.ea n hn, .own _, ki.own n 25 hn (by decide), ?_⟩
    refine ⟨_, rfl, e, _, d0, _, _, _, rfl, g7.1, g7.2, at_.ea n hn, .own _, ki.own n 26 hn (by decide), ?_⟩
    refine ⟨(by show 3 ≤ sizeLine; decide), fun m8 h8 => .inr (.inr ⟨l7, m8, _, _, rfl, rfl, All.new h8 _ _ L7, upd_same, (by show 24 + 3 ≤ sizeLine; decide), fun l8 k8 => ?_⟩)⟩
    have n8 : H l8 = none := none_of (A7.trans (All.new (o := HO.lst [V.bl (decide (24 = n)), V.bl (decide (25 = n)), V.bl (decide (26 = n))]) h8)) k8
    have a8 : All H7 (upd (upd H7 m8 (HO.lst [V.bl (decide (24 = n)), V.bl (decide (25 = n)), V.bl (decide (26 = n))])) l8 (HO.lst ([V.bl (decide (0 = n)), V.bl (decide (1 = n)), V.bl (decide (2 = n)), V.bl (decide (3 = n)), V.bl (decide (4 = n)), V.bl (decide (5 = n)), V.bl (decide (6 = n)), V.bl (decide (7 = n)), V.bl (decide (8 = n)), V.bl (decide (9 = n)), V.bl (decide (10 = n)), V.bl (decide (11 = n)), V.bl (decide (12 = n)), V.bl (decide (13 = n)), V.bl (decide (14 = n)), V.bl (decide (15 = n)), V.bl (decide (16 = n)), V.bl (decide (17 = n)), V.bl (decide (18 = n)), V.bl (decide (19 = n)), V.bl (decide (20 = n)), V.bl (decide (21 = n)), V.bl (decide (22 = n)), V.bl (decide (23 = n))] ++ [V.bl (decide (24 = n)), V.bl (decide (25 = n)), V.bl (decide (26 = n))]))) := (All.new h8).trans (All.new k8)
    have L8 : (upd (upd H7 m8 (HO.lst [V.bl (decide (24 = n)), V.bl (decide (25 = n)), V.bl (decide (26 = n))])) l8 (HO.lst ([V.bl (decide (0 = n)), V.bl (decide (1 = n)), V.bl (decide (2 = n)), V.bl (decide (3 = n)), V.bl (decide (4 = n)), V.bl (decide (5 = n)), V.bl (decide (6 = n)), V.bl (decide (7 = n)), V.bl (decide (8 = n)), V.bl (decide (9 = n)), V.bl (decide (10 = n)), V.bl (decide (11 = n)), V.bl (decide (12 = n)), V.bl (decide (13 = n)), V.bl (decide (14 = n)), V.bl (decide (15 = n)), V.bl (decide (16 = n)), V.bl (decide (17 = n)), V.bl (decide (18 = n)), V.bl (decide (19 = n)), V.bl (decide (20 = n)), V.bl (decide (21 = n)), V.bl (decide (22 = n)), V.bl (decide (23 = n))] ++ [V.bl (decide (24 = n)), V.bl (decide (25 = n)), V.bl (decide (26 = n))]))) l8 = some (.lst [V.bl (decide (0 = n)), V.bl (decide (1 = n)), V.bl (decide (2 = n)), V.bl (decide (3 = n)), V.bl (decide (4 = n)), V.bl (decide (5 = n)), V.bl (decide (6 = n)), V.bl (decide (7 = n)), V.bl (decide (8 = n)), V.bl (decide (9 = n)), V.bl (decide (10 = n)), V.bl (decide (11 = n)), V.bl (decide (12 = n)), V.bl (decide (13 = n)), V.bl (decide (14 = n)), V.bl (decide (15 = n)), V.bl (decide (16 = n)), V.bl (decide (17 = n)), V.bl (decide (18 = n)), V.bl (decide (19 = n)), V.bl (decide (20 = n)), V.bl (decide (21 = n)), V.bl (decide (22 = n)), V.bl (decide (23 = n)), V.bl (decide (24 = n)), V.bl (decide (25 = n)), V.bl (decide (26 = n))]) := upd_same
    generalize upd (upd H7 m8 (HO.lst [V.bl (decide (24 = n)), V.bl (decide (25 = n)), V.bl (decide (26 = n))])) l8 (HO.lst ([V.bl (decide (0 = n)), V.bl (decide (1 = n)), V.bl (decide (2 = n)), V.bl (decide (3 = n)), V.bl (decide (4 = n)), V.bl (decide (5 = n)), V.bl (decide (6 = n)), V.bl (decide (7 = n)), V.bl (decide (8 = n)), V.bl (decide (9 = n)), V.bl (decide (10 = n)), V.bl (decide (11 = n)), V.bl (decide (12 = n)), V.bl (decide (13 = n)), V.bl (decide (14 = n)), V.bl (decide (15 = n)), V.bl (decide (16 = n)), V.bl (decide (17 = n)), V.bl (decide (18 = n)), V.bl (decide (19 = n)), V.bl (decide (20 = n)), V.bl (decide (21 = n)), V.bl (decide (22 = n)), V.bl (decide (23 = n))] ++ [V.bl (decide (24 = n)), V.bl (decide (25 = n)), V.bl (decide (26 = n))])) = H8 at a8 L8 ⊢
    clear k8 h8
    have g8 := ex_on g7 a8
    have A8 := A7.trans a8
    clear a8 g7 A7 L7 n7
    refine ⟨_, rfl, ?_⟩
    refine ⟨_, rfl, e, _, d0, _, _, _, rfl, g8.1, g8.2, at_.ea n hn, .own _, ki.own n 27 hn (by decide), ?_⟩
    refine ⟨_, rfl, e, _, d0, _, _, _, rfl, g8.1, g8.2, at_.ea n hn, .own _, ki.own n 28 hn (by decide), ?_⟩
    refine ⟨_, rfl, e, _, d0, _, _, _, rfl, g8.1, g8.2, at_.ea n hn, .own _, ki.own n 29 hn (by decide), ?_⟩
    refine ⟨(by show 3 ≤ sizeLine; decide), fun m9 h9 => .inr (.inr ⟨l8, m9, _, _, rfl, rfl, All.new h9 _ _ L8, upd_same, (by show 27 + 3 ≤ sizeLine; decide), fun l9 k9 => ?_⟩)⟩
    have n9 : H l9 = none := none_of (A8.trans (All.new (o := HO.lst [V.bl (decide (27 = n)), V.bl (decide (28 = n)), V.bl (decide (29 = n))]) h9)) k9
    have a9 : All H8 (upd (upd H8 m9 (HO.lst [V.bl (decide (27 = n)), V.bl (decide (28 = n)), V.bl (decide (29 = n))])) l9 (HO.lst ([V.bl (decide (0 = n)), V.bl (decide (1 = n)), V.bl (decide (2 = n)), V.bl (decide (3 = n)), V.bl (decide (4 = n)), V.bl (decide (5 = n)), V.bl (decide (6 = n)), V.bl (decide (7 = n)), V.bl (decide (8 = n)), V.bl (decide (9 = n)), V.bl (decide (10 = n)), V.bl (decide (11 = n)), V.bl (decide (12 = n)), V.bl (decide (13 = n)), V.bl (decide (14 = n)), V.bl (decide (15 = n)), V.bl (decide (16 = n)), V.bl (decide (17 = n)), V.bl (decide (18 = n)), V.bl (decide (19 = n)), V.bl (decide (20 = n)), V.bl (decide (21 = n)), V.bl (decide (22 = n)), V.bl (decide (23 = n)), V.bl (decide (24 = n)), V.bl (decide (25 = n)), V.bl (decide (26 = n))] ++ [V.bl (decide (27 = n)), V.bl (decide (28 = n)), V.bl (decide (29 = n))]))) := (All.new h9).trans (All.new k9)
    have L9 : (upd (upd H8 m9 (HO.lst [V.bl (decide (27 = n)), V.bl (decide (28 = n)), V.bl (decide (29 = n))])) l9 (HO.lst ([V.bl (decide (0 = n)), V.bl (decide (1 = n)), V.bl (decide (2 = n)), V.bl (decide (3 = n)), V.bl (decide (4 = n)), V.bl (decide (5 = n)), V.bl (decide (6 = n)), V.bl (decide (7 = n)), V.bl (decide (8 = n)), V.bl (decide (9 = n)), V.bl (decide (10 = n)), V.bl (decide (11 = n)), V.bl (decide (12 = n)), V.bl (decide (13 = n)), V.bl (decide (14 = n)), V.bl (decide (15 = n)), V.bl (decide (16 = n)), V.bl (decide (17 = n)), V.bl (decide (18 = n)), V.bl (decide (19 = n)), V.bl (decide (20 = n)), V.bl (decide (21 = n)), V.bl (decide (22 = n)), V.bl (decide (23 = n)), V.bl (decide (24 = n)), V.bl (decide (25 = n)), V.bl (decide (26 = n))] ++ [V.bl (decide (27 = n)), V.bl (decide (28 = n)), V.bl (decide (29 = n))]))) l9 = some (.lst [V.bl (decide (0 = n)), V.bl (decide (1 = n)), V.bl (decide (2 = n)), V.bl (decide (3 = n)), V.bl (decide (4 = n)), V.bl (decide (5 = n)), V.bl (decide (6 = n)), V.bl (decide (7 = n)), V.bl (decide (8 = n)), V.bl (decide (9 = n)), V.bl (decide (10 = n)), V.bl (decide (11 = n)), V.bl (decide (12 = n)), V.bl (decide (13 = n)), V.bl (decide (14 = n)), V.bl (decide (15 = n)), V.bl (decide (16 = n)), V.bl (decide (17 = n)), V.bl (decide (18 = n)), V.bl (decide (19 = n)), V.bl (decide (20 = n)), V.bl (decide (21 = n)), V.bl (decide (22 = n)), V.bl (decide (23 = n)), V.bl (decide (24 = n)), V.bl (decide (25 = n)), V.bl (decide (26 = n)), V.bl (decide (27 = n)), V.bl (decide (28 = n)), V.bl (decide (29 = n))]) := upd_same
    generalize upd (upd H8 m9 (HO.lst [V.bl (decide (27 = n)), V.bl (decide (28 = n)), V.bl (decide (29 = n))])) l9 (HO.lst ([V.bl (decide (0 = n)), V.bl (decide (1 = n)), V.bl (decide (2 = n)), V.bl (decide (3 = n)), V.bl (decide (4 = n)), V.bl (decide (5 = n)), V.bl (decide (6 = n)), V.bl (decide (7 = n)), V.bl (decide (8 = n)), V.bl (decide (9 = n)), V.bl (decide (10 = n)), V.bl (decide (11 = n)), V.bl (decide (12 = n)), V.bl (decide (13 = n)), V.bl (decide (14 = n)), V.bl (decide (15 = n)), V.bl (decide (16 = n)), V.bl (decide (17 = n)), V.bl (decide (18 = n)), V.bl (decide (19 = n)), V.bl (decide (20 = n)), V.bl (decide (21 = n)), V.bl (decide (22 = n)), V.bl (decide (23 = n)), V.bl (decide (24 = n)), V.bl (decide (25 = n)), V.bl (decide (26 = n))] ++ [V.bl (decide (27 = n)), V.bl (decide (28 = n)), V.bl (decide (29 = n))])) = H9 at a9 L9 ⊢
    clear k9 h9
    have g9 := ex_on g8 a9
    have A9 := A8.trans a9
    clear a9 g8 A8 L8 n8
    refine ⟨_, rfl, ?_⟩
    refine ⟨_, rfl, e, _, d0, _, _, _, rfl, g9.1, g9.2, at_.ea n hn, .own _, ki.own n 30 hn (by decide), ?_⟩
    refine ⟨_, rfl, e, _, d0, _, _, _, rfl, g9.1, g9.2, at_.ea n hn, .own _, ki.own n 31 hn (by decide), ?_⟩
    refine ⟨_, rfl, e, _, d0, _, _, _, rfl, g9.1, g9.2, at_.ea n hn, .own _, ki.own n 32 hn (by decide), ?_⟩
    refine ⟨(by show 3 ≤ sizeLine; decide), fun m10 h10 => .inr (.inr ⟨l9, m10, _, _, rfl, rfl, All.new h10 _ _ L9, upd_same, (by show 30 + 3 ≤ sizeLine; decide), fun l10 k10 => ?_⟩)⟩
    have n10 : H l10 = none := none_of (A9.trans (All.new (o := HO.lst [V.bl (decide (30 = n)), V.bl (decide (31 = n)), V.bl (decide (32 = n))]) h10)) k10
    have a10 : All H9 (upd (upd H9 m10 (HO.lst [V.bl (decide (30 = n)), V.bl (decide (31 = n)), V.bl (decide (32 = n))])) l10 (HO.lst ([V.bl (decide (0 = n)), V.bl (decide (1 = n)), V.bl (decide (2 = n)), V.bl (decide (3 = n)), V.bl (decide (4 = n)), V.bl (decide (5 = n)), V.bl (decide (6 = n)), V.bl (decide (7 = n)), V.bl (decide (8 = n)), V.bl (decide (9 = n)), V.bl (decide (10 = n)), V.bl (decide (11 = n)), V.bl (decide (12 = n)), V.bl (decide (13 = n)), V.bl (decide (14 = n)), V.bl (decide (15 = n)), V.bl (decide (16 = n)), V.bl (decide (17 = n)), V.bl (decide (18 = n)), V.bl (decide (19 = n)), V.bl (decide (20 = n)), V.bl (decide (21 = n)), V.bl (decide (22 = n)), V.bl (decide (23 = n)), V.bl (decide (24 = n)), V.bl (decide (25 = n)), V.bl (decide (26 = n)), V.bl (decide (27 = n)), V.bl (decide (28 = n)), V.bl (decide (29 = n))] ++ [V.bl (decide (30 = n)), V.bl (decide (31 = n)), V.bl (decide (32 = n))]))) := (All.new h10).trans (All.new k10)
    have L10 : (upd (upd H9 m10 (HO.lst [V.bl (decide (30 = n)), V.bl (decide (31 = n)), V.bl (decide (32 = n))])) l10 (HO.lst ([V.bl (decide (0 = n)), V.bl (decide (1 = n)), V.bl (decide (2 = n)), V.bl (decide (3 = n)), V.bl (decide (4 = n)), V.bl (decide (5 = n)), V.bl (decide (6 = n)), V.bl (decide (7 = n)), V.bl (decide (8 = n)), V.bl (decide (9 = n)), V.bl (decide (10 = n)), V.bl (decide (11 = n)), V.bl (decide (12 = n)), V.bl (decide (13 = n)), V.bl (decide (14 = n)), V.bl (decide (15 = n)), V.bl (decide (16 = n)), V.bl (decide (17 = n)), V.bl (decide (18 = n)), V.bl (decide (19 = n)), V.bl (decide (20 = n)), V.bl (decide (21 = n)), V.bl (decide (22 = n)), V.bl (decide (23 = n)), V.bl (decide (24 = n)), V.bl (decide (25 = n)), V.bl (decide (26 = n)), V.bl (decide (27 = n)), V.bl (decide (28 = n)), V.bl (decide (29 = n))] ++ [V.bl (decide (30 = n)), V.bl (decide (31 = n)), V.bl (decide (32 = n))]))) l10 = some (.lst [V.bl (decide (0 = n)), V.bl (decide (1 = n)), V.bl (decide (2 = n)), V.bl (decide (3 = n)), V.bl (decide (4 = n)), V.bl (decide (5 = n)), V.bl (decide (6 = n)), V.bl (decide (7 = n)), V.bl (decide (8 = n)), V.bl (decide (9 = n)), V.bl (decide (10 = n)), V.bl (decide (11 = n)), V.bl (decide (12 = n)), V.bl (decide (13 = n)), V.bl (decide (14 = n)), V.bl (decide (15 = n)), V.bl (decide (16 = n)), V.bl (decide (17 = n)), V.bl (decide (18 = n)), V.bl (decide (19 = n)), V.bl (decide (20 = n)), V.bl (decide (21 = n)), V.bl (decide (22 = n)), V.bl (decide (23 = n)), V.bl (decide (24 = n)), V.bl (decide (25 = n)), V.bl (decide (26 = n)), V.bl (decide (27 = n)), V.bl (decide (28 = n)), V.bl (decide (29 = n)), V.bl (decide (30 = n)), V.bl (decide (31 = n)), V.bl (decide (32 = n))]) := upd_same
    generalize upd (upd H9 m10 (HO.lst [V.bl (decide (30 = n)), V.bl (decide (31 = n)), V.bl (decide (32 = n))])) l10 (HO.lst ([V.bl (decide (0 = n)), V.bl (decide (1 = n)), V.bl (decide (2 = n)), V.bl (decide (3 = n)), V.bl (decide (4 = n)), V.bl (decide (5 = n)), V.bl (decide (6 = n)), V.bl (decide (7 = n)), V.bl (decide (8 = n)), V.bl (decide (9 = n)), V.bl (decide (10 = n)), V.bl (decide (11 = n)), V.bl (decide (12 = n)), V.bl (decide (13 = n)), V.bl (decide (14 = n)), V.bl (decide (15 = n)), V.bl (decide (16 = n)), V.bl (decide (17 = n)), V.bl (decide (18 = n)), V.bl (decide (19 = n)), V.bl (decide (20 = n)), V.bl (decide (21 = n)), V.bl (decide (22 = n)), V.bl (decide (23 = n)), V.bl (decide (24 = n)), V.bl (decide (25 = n)), V.bl (decide (26 = n)), V.bl (decide (27 = n)), V.bl (decide (28 = n)), V.bl (decide (29 = n))] ++ [V.bl (decide (30 = n)), V.bl (decide (31 = n)), V.bl (decide (32 = n))])) = H10 at a10 L10 ⊢
    clear k10 h10
    have g10 := ex_on g9 a10
    have A10 := A9.trans a10
    clear a10 g9 A9 L9 n9
    refine ⟨_, rfl, ?_⟩
    refine ⟨_, rfl, e, _, d0, _, _, _, rfl, g10.1, g10.2, at_.ea n hn, .own _, ki.own n 33 hn (by decide), ?_⟩
    refine ⟨_, rfl, e, _, d0, _, _, _, rfl, g10.1, g10.2, at_.ea n hn, .own _, ki.own n 34 hn (by decide), ?_⟩
    refine ⟨(by show 2 ≤ sizeLine; decide), fun m11 h11 => .inr (.inr ⟨l10, m11, _, _, rfl, rfl, All.new h11 _ _ L10, upd_same, (by show 33 + 2 ≤ sizeLine; decide), fun l11 k11 => ?_⟩)⟩
    have n11 : H l11 = none := none_of (A10.trans (All.new (o := HO.lst [V.bl (decide (33 = n)), V.bl (decide (34 = n))]) h11)) k11
    have a11 : All H10 (upd (upd H10 m11 (HO.lst [V.bl (decide (33 = n)), V.bl (decide (34 = n))])) l11 (HO.lst ([V.bl (decide (0 = n)), V.bl (decide (1 = n)), V.bl (decide (2 = n)), V.bl (decide (3 = n)), V.bl (decide (4 = n)), V.bl (decide (5 = n)), V.bl (decide (6 = n)), V.bl (decide (7 = n)), V.bl (decide (8 = n)), V.bl (decide (9 = n)), V.bl (decide (10 = n)), V.bl (decide (11 = n)), V.bl (decide (12 = n)), V.bl (decide (13 = n)), V.bl (decide (14 = n)), V.bl (decide (15 = n)), V.bl (decide (16 = n)), V.bl (decide (17 = n)), V.bl (decide (18 = n)), V.bl (decide (19 = n)), V.bl (decide (20 = n)), V.bl (decide (21 = n)), V.bl (decide (22 = n)), V.bl (decide (23 = n)), V.bl (decide (24 = n)), V.bl (decide (25 = n)), V.bl (decide (26 = n)), V.bl (decide (27 = n)), V.bl (decide (28 = n)), V.bl (decide (29 = n)), V.bl (decide (30 = n)), V.bl (decide (31 = n)), V.bl (decide (32 = n))] ++ [V.bl (decide (33 = n)), V.bl (decide (34 = n))]))) := (All.new h11).trans (All.new k11)
    have L11 : (upd (upd H10 m11 (HO.lst [V.bl (decide (33 = n)), V.bl (decide (34 = n))])) l11 (HO.lst ([V.bl (decide (0 = n)), V.bl (decide (1 = n)), V.bl (decide (2 = n)), V.bl (decide (3 = n)), V.bl (decide (4 = n)), V.bl (decide (5 = n)), V.bl (decide (6 = n)), V.bl (decide (7 = n)), V.bl (decide (8 = n)), V.bl (decide (9 = n)), V.bl (decide (10 = n)), V.bl (decide (11 = n)), V.bl (decide (12 = n)), V.bl (decide (13 = n)), V.bl (decide (14 = n)), V.bl (decide (15 = n)), V.bl (decide (16 = n)), V.bl (decide (17 = n)), V.bl (decide (18 = n)), V.bl (decide (19 = n)), V.bl (decide (20 = n)), V.bl (decide (21 = n)), V.bl (decide (22 = n)), V.bl (decide (23 = n)), V.bl (decide (24 = n)), V.bl (decide (25 = n)), V.bl (decide (26 = n)), V.bl (decide (27 = n)), V.bl (decide (28 = n)), V.bl (decide (29 = n)), V.bl (decide (30 = n)), V.bl (decide (31 = n)), V.bl (decide (32 = n))] ++ [V.bl (decide (33 = n)), V.bl (decide (34 = n))]))) l11 = some (.lst [V.bl (decide (0 = n)), V.bl (decide (1 = n)), V.bl (decide (2 = n)), V.bl (decide (3 = n)), V.bl (decide (4 = n)), V.bl (decide (5 = n)), V.bl (decide (6 = n)), V.bl (decide (7 = n)), V.bl (decide (8 = n)), V.bl (decide (9 = n)), V.bl (decide (10 = n)), V.bl (decide (11 = n)), V.bl (decide (12 = n)), V.bl (decide (13 = n)), V.bl (decide (14 = n)), V.bl (decide (15 = n)), V.bl (decide (16 = n)), V.bl (decide (17 = n)), V.bl (decide (18 = n)), V.bl (decide (19 = n)), V.bl (decide (20 = n)), V.bl (decide (21 = n)), V.bl (decide (22 = n)), V.bl (decide (23 = n)), V.bl (decide (24 = n)), V.bl (decide (25 = n)), V.bl (decide (26 = n)), V.bl (decide (27 = n)), V.bl (decide (28 = n)), V.bl (decide (29 = n)), V.bl (decide (30 = n)), V.bl (decide (31 = n)), V.bl (decide (32 = n)), V.bl (decide (33 = n)), V.bl (decide (34 = n))]) := upd_same
    generalize upd (upd H10 m11 (HO.lst [V.bl (decide (33 = n)), V.bl (decide (34 = n))])) l11 (HO.lst ([V.bl (decide (0 = n)), V.bl (decide (1 = n)), V.bl (decide (2 = n)), V.bl (decide (3 = n)), V.bl (decide (4 = n)), V.bl (decide (5 = n)), V.bl (decide (6 = n)), V.bl (decide (7 = n)), V.bl (decide (8 = n)), V.bl (decide (9 = n)), V.bl (decide (10 = n)), V.bl (decide (11 = n)), V.bl (decide (12 = n)), V.bl (decide (13 = n)), V.bl (decide (14 = n)), V.bl (decide (15 = n)), V.bl (decide (16 = n)), V.bl (decide (17 = n)), V.bl (decide (18 = n)), V.bl (decide (19 = n)), V.bl (decide (20 = n)), V.bl (decide (21 = n)), V.bl (decide (22 = n)), V.bl (decide (23 = n)), V.bl (decide (24 = n)), V.bl (decide (25 = n)), V.bl (decide (26 = n)), V.bl (decide (27 = n)), V.bl (decide (28 = n)), V.bl (decide (29 = n)), V.bl (decide (30 = n)), V.bl (decide (31 = n)), V.bl (decide (32 = n))] ++ [V.bl (decide (33 = n)), V.bl (decide (34 = n))])) = H11 at a11 L11 ⊢
    clear k11 h11
    have g11 := ex_on g10 a11
    have A11 := A10.trans a11
    clear a11 g10 A10 L10 n10
    exact q l11 H11 A11 L11 n11
end
end K10

set_option Elab.async false
set_option linter.all false
set_option maxRecDepth 100000
set_option maxHeartbeats 4000000
namespace K10
open PySem PySem.Spec L2 Gd
abbrev nAbv : List Str := ["_law_e", "_law_way", "_law_some", "_law_first", "_law_at"]

/-! ### derivations by the text's shape -/
local macro_rules | `(tactic| walk_at "gd nd") => `(tactic| assumption)
local macro_rules | `(tactic| walk_at "gd lo") => `(tactic| first | exact Or.inl rfl | exact Or.inr rfl)
local macro_rules | `(tactic| walk_at "gd var") => `(tactic| first | exact pv 0 | exact pv 1 | exact pv 2 | exact pv 3 | exact pv 4 | exact pv 5 | exact pv 6 | exact pv 7 | exact pv 8 | exact pv 9 | exact pv 10 | exact pv 11 | exact pv 12 | exact pv 13 | exact pe_glob rfl (by assumption) rfl | exact pe_glob (v := V.ref (He.ga _ _)) rfl (Globs.h (by assumption) _ (by decide +kernel)) rfl | exact pe_bltn (v := V.ty _) rfl (Frees.h (by assumption) _ (by decide +kernel)) (by rfl) rfl | exact pe_bltn rfl (Frees.h (by assumption) _ (by decide +kernel)) (by decide +kernel) rfl)
local macro_rules | `(tactic| walk_at "gd a") => `(tactic| first | exact pa_nil | (refine' pa_cons ?k1 ?k2; (case k1 => walk_at "gd e"); (case k2 => walk_at "gd a")))
local macro_rules | `(tactic| walk_at "gd blt") => `(tactic| first
  | ((with_reducible show PE _ (Expr.Call (Expr.Name "abs" _) _ _ _) _); refine' pe_callB call_abs rfl (Frees.h (by assumption) _ (by decide +kernel)) (by decide +kernel) ?k1; (case k1 => walk_at "gd a"))
  | ((with_reducible show PE _ (Expr.Call (Expr.Name "max" _) _ _ _) _); refine' pe_callB (call_max2 rfl) rfl (Frees.h (by assumption) _ (by decide +kernel)) (by decide +kernel) ?k1; (case k1 => walk_at "gd a"))
  | ((with_reducible show PE _ (Expr.Call (Expr.Name "min" _) _ _ _) _); refine' pe_callB (call_min2 rfl) rfl (Frees.h (by assumption) _ (by decide +kernel)) (by decide +kernel) ?k1; (case k1 => walk_at "gd a"))
  | ((with_reducible show PE _ (Expr.Call (Expr.Name "len" _) _ _ _) _); refine' pe_callB (lenK (by assumption)) rfl (Frees.h (by assumption) _ (by decide +kernel)) (by decide +kernel) ?k1; (case k1 => walk_at "gd a"))
  | ((with_reducible show PE _ (Expr.Call (Expr.Name "divmod" _) _ _ _) _); refine' pe_callB call_divmod rfl (Frees.h (by assumption) _ (by decide +kernel)) (by decide +kernel) ?k1; (case k1 => walk_at "gd a"))
  | ((with_reducible show PE _ (Expr.Call (Expr.Name "all" _) _ _ _) _); refine' pe_callB (allK (by assumption) rfl) rfl (Frees.h (by assumption) _ (by decide +kernel)) (by decide +kernel) ?k1; (case k1 => walk_at "gd a"))
  | ((with_reducible show PE _ (Expr.Call (Expr.Name "isinstance" _) _ _ _) _); refine' pe_callB (isXK (by assumption)) rfl (Frees.h (by assumption) _ (by decide +kernel)) (by decide +kernel) ?k1; (case k1 => walk_at "gd a"))
  | ((with_reducible show PE _ (Expr.Call (Expr.Name "repr" _) _ _ _) _); refine' pe_callB (call_repr (by assumption) (by assumption)) rfl (Frees.h (by assumption) _ (by decide +kernel)) (by decide +kernel) ?k1; (case k1 => walk_at "gd a"))
  | ((with_reducible show PE _ (Expr.Call (Expr.Name "int" _) _ _ _) _); refine' pe_callTy call_int1 rfl (Frees.h (by assumption) _ (by decide +kernel)) (by decide +kernel) ?k1; (case k1 => walk_at "gd a"))
  | ((with_reducible show PE _ (Expr.Call (Expr.Name "tuple" _) _ _ _) _); refine' pe_callTy (tupK (by assumption)) rfl (Frees.h (by assumption) _ (by decide +kernel)) (by decide +kernel) ?k1; (case k1 => walk_at "gd a")))
local macro_rules | `(tactic| walk_at "gd call") => `(tactic| first
  | walk_at "gd blt"
  | (refine' pe_dn (by assumption) (by assumption) rfl (by first | decide | omega) ?k1; (case k1 => walk_at "gd a"))
  | (refine' pe_dnG (by assumption) (by assumption) (by assumption) rfl (by first | decide | omega) ?k1; (case k1 => walk_at "gd a"))
  | walk_at "gd own")
local macro_rules | `(tactic| walk_at "gd own") => `(tactic| fail)
local macro_rules | `(tactic| walk_at "gd it") => `(tactic| fail)
local macro_rules | `(tactic| walk_at "gd i") => `(tactic| first
  | ((with_reducible show PI _ _ (Expr.Call (Expr.Name "range" _) [_] _ _) _); refine' pi_range1 rfl (Frees.h (by assumption) _ (by decide +kernel)) ?k1; (case k1 => walk_at "gd a"))
  | walk_at "gd it")
local macro_rules | `(tactic| walk_at "gd cv") => `(tactic| fail)
local macro_rules | `(tactic| walk_at "gd lc") => `(tactic| walk_at "gd cv")
local macro_rules | `(tactic| walk_at "gd e") => `(tactic| first
  | ((with_reducible show PE _ (Expr.Constant _ _ _) _); first | exact pe_int | exact pe_str | exact pe_bl | exact pe_non)
  | ((with_reducible show PE _ (Expr.Name _ _) _); walk_at "gd var")
  | ((with_reducible show PE _ (Expr.BinOp _ Operator.Add _ _) _); refine' pe_op op_addA ?k1 ?k2; (case k1 => walk_at "gd e"); (case k2 => walk_at "gd e"))
  | ((with_reducible show PE _ (Expr.BinOp _ Operator.Sub _ _) _); refine' pe_op op_sub ?k1 ?k2; (case k1 => walk_at "gd e"); (case k2 => walk_at "gd e"))
  | ((with_reducible show PE _ (Expr.BinOp _ Operator.Mult _ _) _); refine' pe_op op_mulA ?k1 ?k2; (case k1 => walk_at "gd e"); (case k2 => walk_at "gd e"))
  | ((with_reducible show PE _ (Expr.BinOp _ Operator.Mod _ _) _); refine' pe_op op_mod ?k1 ?k2; (case k1 => walk_at "gd e"); (case k2 => walk_at "gd e"))
  | ((with_reducible show PE _ (Expr.BinOp _ Operator.FloorDiv _ _) _); refine' pe_op op_fdivW ?k1 ?k2; (case k1 => walk_at "gd e"); (case k2 => walk_at "gd e"))
  | ((with_reducible show PE _ (Expr.BinOp _ Operator.Pow _ _) _); refine' pe_op op_pow ?k1 ?k2; (case k1 => walk_at "gd e"); (case k2 => walk_at "gd e"))
  | ((with_reducible show PE _ (Expr.UnaryOp UnaryOp.USub _ _) _); refine' pe_un un_neg ?k1; (case k1 => walk_at "gd e"))
  | ((with_reducible show PE _ (Expr.UnaryOp UnaryOp.Not _ _) _); refine' pe_not ?k1; (case k1 => walk_at "gd e"))
  | ((with_reducible show PE _ (Expr.Compare _ [CmpOp.Lt] _ _) _); refine' pe_cmpR op_lt ?k1 ?k2 (by rfl); (case k1 => walk_at "gd e"); (case k2 => walk_at "gd e"))
  | ((with_reducible show PE _ (Expr.Compare _ [CmpOp.LtE] _ _) _); refine' pe_cmpR op_le ?k1 ?k2 (by rfl); (case k1 => walk_at "gd e"); (case k2 => walk_at "gd e"))
  | ((with_reducible show PE _ (Expr.Compare _ [CmpOp.Gt] _ _) _); refine' pe_cmpR op_gt ?k1 ?k2 (by rfl); (case k1 => walk_at "gd e"); (case k2 => walk_at "gd e"))
  | ((with_reducible show PE _ (Expr.Compare _ [CmpOp.GtE] _ _) _); refine' pe_cmpR op_ge ?k1 ?k2 (by rfl); (case k1 => walk_at "gd e"); (case k2 => walk_at "gd e"))
  | ((with_reducible show PE _ (Expr.Compare _ [CmpOp.Eq] _ _) _); refine' pe_cmpR (eqK (by assumption) (by assumption)) ?k1 ?k2 (by rfl); (case k1 => walk_at "gd e"); (case k2 => walk_at "gd e"))
  | ((with_reducible show PE _ (Expr.Compare _ [CmpOp.NotEq] _ _) _); refine' pe_cmpR (neK (by assumption) (by assumption)) ?k1 ?k2 (by rfl); (case k1 => walk_at "gd e"); (case k2 => walk_at "gd e"))
  | ((with_reducible show PE _ (Expr.Compare _ [CmpOp.In] _ _) _); refine' pe_cmpR (inK (by assumption)) ?k1 ?k2 (by rfl); (case k1 => walk_at "gd e"); (case k2 => walk_at "gd e"))
  | ((with_reducible show PE _ (Expr.Compare _ [CmpOp.NotIn] _ _) _); refine' pe_cmpR (niK (by assumption)) ?k1 ?k2 (by rfl); (case k1 => walk_at "gd e"); (case k2 => walk_at "gd e"))
  | ((with_reducible show PE _ (Expr.IfExp _ _ _ _) _); refine' pe_ifExp ?k1 ?k2 ?k3; (case k1 => walk_at "gd t"); (case k2 => walk_at "gd e"); (case k3 => walk_at "gd e"))
  | ((with_reducible show PE _ (Expr.Subscript _ (Expr.Slice none (some _) none _) _) _); refine' pe_slice sl_str ?k1 po_none (po_some ?k2); (case k1 => walk_at "gd e"); (case k2 => walk_at "gd e"))
  | ((with_reducible show PE _ (Expr.Subscript _ _ _) _); refine' pe_ix (ixK (by assumption)) ?k1 ?k2 (fun _ _ => rfl); (case k1 => walk_at "gd e"); (case k2 => walk_at "gd e"))
  | ((with_reducible show PE _ (Expr.List _ _) _); refine' pe_lst ?k1; (case k1 => walk_at "gd a"))
  | ((with_reducible show PE _ (Expr.Tuple _ _ _) _); refine' pe_tup ?k1; (case k1 => walk_at "gd a"))
  | ((with_reducible show PE _ (Expr.Dict [] [] _) _); exact pe_dnewK)
  | ((with_reducible show PE _ (Expr.Dict [_] [_] _) _); refine' pe_disp (pps_cons ?k1 ?k2 pps_nil) rfl rfl (fun z => by cases z) (by decide); (case k1 => walk_at "gd e"); (case k2 => walk_at "gd e"))
  | ((with_reducible show PE _ (Expr.Call (Expr.Attribute _ "join" _) _ _ _) _); refine' joinK (by assumption) ?k1 ?k2; (case k1 => walk_at "gd e"); (case k2 => walk_at "gd e"))
  | ((with_reducible show PE _ (Expr.Call (Expr.Attribute _ "append" _) _ _ _) _); refine' pe_bm PySem.F.plainAttrs_list PySem.F.slot_list_append PySem.F.type_list_append mt_append ?k1 ?k2; (case k1 => walk_at "gd e"); (case k2 => walk_at "gd a"))
  | ((with_reducible show PE _ (Expr.Attribute _ _ _) _); refine' efK (by assumption) ?k1; (case k1 => walk_at "gd e"))
  | ((with_reducible show PE _ (Expr.ListComp _ _ _ _) _); walk_at "gd lc")
  | walk_at "gd call")
local macro_rules | `(tactic| walk_at "gd t") => `(tactic| first
  | ((with_reducible show PT _ (Expr.UnaryOp UnaryOp.Not _ _) _); refine' pt_not ?k1; (case k1 => walk_at "gd t"))
  | ((with_reducible show PT _ (Expr.BoolOp BoolOp.And [_, _] _) _); refine' PW.pt (pw_and ?k1 (pw_and1 ?k2)); (case k1 => walk_at "gd t"); (case k2 => walk_at "gd t"))
  | ((with_reducible show PT _ (Expr.BoolOp BoolOp.Or [_, _] _) _); refine' PW.pt (pw_or ?k1 (pw_or1 ?k2)); (case k1 => walk_at "gd t"); (case k2 => walk_at "gd t"))
  | ((with_reducible show PT _ (Expr.Compare _ [CmpOp.Lt] _ _) _); refine' pt_cmpR op_lt ?k1 ?k2 (by rfl); (case k1 => walk_at "gd e"); (case k2 => walk_at "gd e"))
  | ((with_reducible show PT _ (Expr.Compare _ [CmpOp.LtE] _ _) _); refine' pt_cmpR op_le ?k1 ?k2 (by rfl); (case k1 => walk_at "gd e"); (case k2 => walk_at "gd e"))
  | ((with_reducible show PT _ (Expr.Compare _ [CmpOp.Gt] _ _) _); refine' pt_cmpR op_gt ?k1 ?k2 (by rfl); (case k1 => walk_at "gd e"); (case k2 => walk_at "gd e"))
  | ((with_reducible show PT _ (Expr.Compare _ [CmpOp.GtE] _ _) _); refine' pt_cmpR op_ge ?k1 ?k2 (by rfl); (case k1 => walk_at "gd e"); (case k2 => walk_at "gd e"))
  | ((with_reducible show PT _ (Expr.Compare _ [CmpOp.Eq] _ _) _); refine' pt_cmpR (eqK (by assumption) (by assumption)) ?k1 ?k2 (by rfl); (case k1 => walk_at "gd e"); (case k2 => walk_at "gd e"))
  | ((with_reducible show PT _ (Expr.Compare _ [CmpOp.NotEq] _ _) _); refine' pt_cmpR (neK (by assumption) (by assumption)) ?k1 ?k2 (by rfl); (case k1 => walk_at "gd e"); (case k2 => walk_at "gd e"))
  | ((with_reducible show PT _ (Expr.Compare _ [CmpOp.In] _ _) _); refine' pt_cmpR (inK (by assumption)) ?k1 ?k2 (by rfl); (case k1 => walk_at "gd e"); (case k2 => walk_at "gd e"))
  | ((with_reducible show PT _ (Expr.Compare _ [CmpOp.NotIn] _ _) _); refine' pt_cmpR (niK (by assumption)) ?k1 ?k2 (by rfl); (case k1 => walk_at "gd e"); (case k2 => walk_at "gd e"))
  | (refine' pt_val ?k1; (case k1 => walk_at "gd e")))
local macro_rules | `(tactic| walk_at "gd g") => `(tactic| first
  | ((with_reducible show PG _ (Expr.Name _ _) _); first | exact pg_name (i := 0) (by walk_at "gd nd") rfl (by walk_at "gd lo") | exact pg_name (i := 1) (by walk_at "gd nd") rfl (by walk_at "gd lo") | exact pg_name (i := 2) (by walk_at "gd nd") rfl (by walk_at "gd lo") | exact pg_name (i := 3) (by walk_at "gd nd") rfl (by walk_at "gd lo") | exact pg_name (i := 4) (by walk_at "gd nd") rfl (by walk_at "gd lo") | exact pg_name (i := 5) (by walk_at "gd nd") rfl (by walk_at "gd lo") | exact pg_name (i := 6) (by walk_at "gd nd") rfl (by walk_at "gd lo") | exact pg_name (i := 7) (by walk_at "gd nd") rfl (by walk_at "gd lo") | exact pg_name (i := 8) (by walk_at "gd nd") rfl (by walk_at "gd lo") | exact pg_name (i := 9) (by walk_at "gd nd") rfl (by walk_at "gd lo") | exact pg_name (i := 10) (by walk_at "gd nd") rfl (by walk_at "gd lo") | exact pg_name (i := 11) (by walk_at "gd nd") rfl (by walk_at "gd lo") | exact pg_name (i := 12) (by walk_at "gd nd") rfl (by walk_at "gd lo") | exact pg_name (i := 13) (by walk_at "gd nd") rfl (by walk_at "gd lo"))
  | ((with_reducible show PG _ (Expr.Subscript _ _ _) _); refine' pg_sub ?k1 ?k2 set_list; (case k1 => walk_at "gd e"); (case k2 => walk_at "gd e"))
  | ((with_reducible show PG _ (Expr.Tuple _ _ _) _); refine' pg_tup rfl ?k1; (case k1 => walk_at "gd gs")))
local macro_rules | `(tactic| walk_at "gd gs") => `(tactic| first | exact pgs_nil | (refine' pgs_cons ?k1 ?k2; (case k1 => walk_at "gd g"); (case k2 => walk_at "gd gs")))
local macro_rules | `(tactic| walk_at "gd set") => `(tactic| first | (refine' ps_set (i := 0) (by walk_at "gd nd") rfl (by walk_at "gd lo") ?k1; (case k1 => walk_at "gd e")) | (refine' ps_set (i := 1) (by walk_at "gd nd") rfl (by walk_at "gd lo") ?k1; (case k1 => walk_at "gd e")) | (refine' ps_set (i := 2) (by walk_at "gd nd") rfl (by walk_at "gd lo") ?k1; (case k1 => walk_at "gd e")) | (refine' ps_set (i := 3) (by walk_at "gd nd") rfl (by walk_at "gd lo") ?k1; (case k1 => walk_at "gd e")) | (refine' ps_set (i := 4) (by walk_at "gd nd") rfl (by walk_at "gd lo") ?k1; (case k1 => walk_at "gd e")) | (refine' ps_set (i := 5) (by walk_at "gd nd") rfl (by walk_at "gd lo") ?k1; (case k1 => walk_at "gd e")) | (refine' ps_set (i := 6) (by walk_at "gd nd") rfl (by walk_at "gd lo") ?k1; (case k1 => walk_at "gd e")) | (refine' ps_set (i := 7) (by walk_at "gd nd") rfl (by walk_at "gd lo") ?k1; (case k1 => walk_at "gd e")) | (refine' ps_set (i := 8) (by walk_at "gd nd") rfl (by walk_at "gd lo") ?k1; (case k1 => walk_at "gd e")) | (refine' ps_set (i := 9) (by walk_at "gd nd") rfl (by walk_at "gd lo") ?k1; (case k1 => walk_at "gd e")) | (refine' ps_set (i := 10) (by walk_at "gd nd") rfl (by walk_at "gd lo") ?k1; (case k1 => walk_at "gd e")) | (refine' ps_set (i := 11) (by walk_at "gd nd") rfl (by walk_at "gd lo") ?k1; (case k1 => walk_at "gd e")) | (refine' ps_set (i := 12) (by walk_at "gd nd") rfl (by walk_at "gd lo") ?k1; (case k1 => walk_at "gd e")) | (refine' ps_set (i := 13) (by walk_at "gd nd") rfl (by walk_at "gd lo") ?k1; (case k1 => walk_at "gd e")))
local macro_rules | `(tactic| walk_at "gd os") => `(tactic| fail)
local macro_rules | `(tactic| walk_at "gd slc") => `(tactic| fail)
local macro_rules | `(tactic| walk_at "gd par") => `(tactic| fail)
local macro_rules | `(tactic| walk_at "gd s") => `(tactic| first
  | ((with_reducible show PS _ (Stmt.Return (some _) _) _); refine' ps_ret ?k1; (case k1 => walk_at "gd e"))
  | ((with_reducible show PS _ (Stmt.If _ _ _ _) _); refine' ps_if ?k1 ?k2 ?k3; (case k1 => walk_at "gd t"); (case k2 => walk_at "gd ss"); (case k3 => walk_at "gd ss"))
  | ((with_reducible show PS _ (Stmt.Assign [Expr.Name _ _] (Expr.ListComp _ _ _ _) _) _); walk_at "gd slc")
  | ((with_reducible show PS _ (Stmt.Assign [Expr.Name _ _] _ _) _); walk_at "gd set")
  | ((with_reducible show PS _ (Stmt.Assign [_] _ _) _); refine' ps_asg ?k1 ?k2; (case k1 => walk_at "gd e"); (case k2 => walk_at "gd g"))
  | ((with_reducible show PS _ (Stmt.Assign [_] _ _) _); walk_at "gd par")
  | ((with_reducible show PS _ (Stmt.For _ _ _ _ _) _); refine' ps_for PassesOwn.never rfl ?k1 ?k2 ?k3; (case k1 => walk_at "gd i"); (case k2 => walk_at "gd g"); (case k3 => walk_at "gd ss"))
  | ((with_reducible show PS _ (Stmt.Expr _ _) _); refine' ps_expr ?k1; (case k1 => walk_at "gd e"))
  | walk_at "gd os")
local macro_rules | `(tactic| walk_at "gd ss") => `(tactic| first | exact pss_nil | (refine' pss_one ?k1; (case k1 => walk_at "gd s")) | (refine' pss_cons ?k1 ?k2; (case k1 => walk_at "gd s"); (case k2 => walk_at "gd ss")))
local macro_rules | `(tactic| walk_at "gd cv") => `(tactic| ((with_reducible show PE _ (Expr.ListComp _ [⟨Expr.Name "_law_at" _, _, _, _⟩] _ _) _); refine' pe_lc (own := [("_law_at", 4)]) (g := gName 4) (tt := tYes) rfl (by assumption) ?k1 (blkOk_by (N := nAbv) (sc := defScope sAbv) (by decide +kernel)) (fun _ _ _ _ _ => pg_name (i := 4) (by assumption) rfl (Or.inl rfl)) (fun _ _ _ _ _ => pts_nil) (fun _ _ _ _ _ => ?k2); (case k1 => walk_at "gd i"); (case k2 => walk_at "gd e")))
local macro_rules | `(tactic| walk_at "gd ss") => `(tactic| first | exact pss_nil | (refine' pss_one ?k1; (case k1 => walk_at "gd s")) | ((with_reducible show PSs _ (Stmt.If _ _ _ _ :: _) _); refine' C8.pss_cut ?k1 ?k2; (case k1 => walk_at "gd s"); (case k2 => walk_at "gd ss")) | (refine' pss_cons ?k1 ?k2; (case k1 => walk_at "gd s"); (case k2 => walk_at "gd ss")))
theorem scAbv : FnScope nAbv ["_law_e", "_law_way"] (defScope sAbv) := ⟨rfl, rfl, rfl, by decide +kernel, rfl, by decide +kernel, by decide +kernel⟩
def upV (K : W.Frag) (j : Nat) : Value := if j = 0 then .ref (He.ga K "FormError") else if j = 1 then .type "ValueError" else if j = 2 then .ref (He.ga K "MissingError") else if j = 3 then .type "LookupError" else if j = 4 then .ref (He.ga K "StateError") else if j = 5 then .type "RuntimeError"
  else if j = 6 then .ref (He.ga K "AmountError") else .type "ArithmeticError"
structure Up (K : W.Frag) : Prop where
  up : ∀ n j, n < 35 → j < 8 → W.kitOne K (.ref (He.ga K (cn n))) (upV K j) = some (decide (j = firstOf n ∨ j = firstOf n + 1))
def upL (n : Nat) : List Bool := (List.range 8).map fun j => decide (j = firstOf n ∨ j = firstOf n + 1)
def f1 (n : Nat) : Int := if n = 7 ∨ n = 8 then 2 else 0
def f2 (n : Nat) : Int := if n = 17 ∨ n = 21 ∨ n = 24 ∨ n = 29 ∨ n = 34 then 4 else f1 n
theorem f2_is : ∀ n, n < 35 → n ≠ 27 → f2 n = firstOf n := by decide
abbrev stA (e : Addr) (n : Nat) (l : Addr) (v : Int) : St := ((L2.start nAbv [V.ref e, V.int n]).set 2 (some (V.ref l))).set 3 (some (.int v))
theorem All.over {H H' : Hp} {D : Addr} {o : HO} (a : All H H') (h : H D = none) : All H (upd H' D o) := fun b u e => by
  rw [upd_ne (ne_of_none e h)]
  exact a b u e
def spAbv (K : W.Frag) : Sp := fun vs H Q _ => ∃ (e : Addr) (n : Nat) (x y : V), vs = [.ref e, .int n] ∧ n < 35 ∧ Er K H n x y e ∧ ∀ (H' : Hp), All H H' → Q (.bl true) H'
theorem dp_bools {K : W.Frag} {H : Hp} : ∀ bs : List Bool, DpAll K H (bs.map V.bl) (bs.map PyData.bool)
  | [] => .nil
  | b :: bs => .cons (.bl b) (dp_bools bs)
theorem eqd_same {K : W.Frag} {H : Hp} {a b : Addr} {xs : List V} {ds : List PyData} {Q : VK} (ha : SqL K H a xs) (hb : SqL K H b xs) (d : DpAll K H xs ds) (hs : SeqAt.shaped (.list ds) = true) (q : Q (.bl true) H) : rEqD K (.ref a) (.ref b) H Q :=
  ⟨.list ds, .list ds, .lst ha d, .lst hb d, hs, hs, by rw [SeqAt.eqv_refl _ (SeqAt.canLay_of_shaped hs)]; exact q⟩
theorem ned_same {K : W.Frag} {H : Hp} {a b : Addr} {xs : List V} {ds : List PyData} {Q : VK} (ha : SqL K H a xs) (hb : SqL K H b xs) (d : DpAll K H xs ds) (hs : SeqAt.shaped (.list ds) = true) (q : Q (.bl false) H) : rNeD K (.ref a) (.ref b) H Q :=
  ⟨.list ds, .list ds, .lst ha d, .lst hb d, hs, hs, by rw [SeqAt.eqv_refl _ (SeqAt.canLay_of_shaped hs)]; exact q⟩
section
variable {P : Program} {w : World} {K : W.Frag} {mg : Str → Option Value} {base : Heap} {f : Addr} {fd : FuncData}
theorem ok_abv (fr : Frees mg) (gl : Globs K gnames mg) (at_ : Att K) (up : Up K) (F : Fun K "_law_above_right" "_law_above_right" sAbv f fd) : FnOk P w K mg base CX0 1 f fd ["_law_e", "_law_way"] (spAbv K) := by
  refine F.ok scAbv (fun vs H Q E h => ?_) (fun cdv A outer s H vs Q E hr h => ⟨?t, ?d, ?r⟩)
  · obtain ⟨e, n, x, y, rfl, _⟩ := h
    rfl
  case d =>
    have nd := scAbv.nd
    have isk : IsK K := ⟨trivial⟩
    walk_at "gd ss"
  case r =>
    obtain ⟨e, n, x, y, rfl, hn, er, q⟩ := h
    obtain ⟨d0, g⟩ := ex_at er
    refine ⟨_, rfl, e, _, d0, _, _, _, rfl, g.1, g.2, at_.ea n hn, .own _, up.up n 0 hn (by decide), ?_⟩
    refine ⟨_, rfl, e, _, d0, _, _, _, rfl, g.1, g.2, at_.ea n hn, .ty _, up.up n 1 hn (by decide), ?_⟩
    refine ⟨_, rfl, e, _, d0, _, _, _, rfl, g.1, g.2, at_.ea n hn, .own _, up.up n 2 hn (by decide), ?_⟩
    refine ⟨(by show 3 ≤ sizeLine; decide), fun l0 n0 => ?_⟩
    have a0 : All H (upd H l0 (.lst [V.bl (decide (0 = firstOf n ∨ 0 = firstOf n + 1)), V.bl (decide (1 = firstOf n ∨ 1 = firstOf n + 1)), V.bl (decide (2 = firstOf n ∨ 2 = firstOf n + 1))])) := All.new n0
    have J0 : upd H l0 (.lst [V.bl (decide (0 = firstOf n ∨ 0 = firstOf n + 1)), V.bl (decide (1 = firstOf n ∨ 1 = firstOf n + 1)), V.bl (decide (2 = firstOf n ∨ 2 = firstOf n + 1))]) l0 = some (.lst [V.bl (decide (0 = firstOf n ∨ 0 = firstOf n + 1)), V.bl (decide (1 = firstOf n ∨ 1 = firstOf n + 1)), V.bl (decide (2 = firstOf n ∨ 2 = firstOf n + 1))]) := upd_same
    generalize upd H l0 (HO.lst [V.bl (decide (0 = firstOf n ∨ 0 = firstOf n + 1)), V.bl (decide (1 = firstOf n ∨ 1 = firstOf n + 1)), V.bl (decide (2 = firstOf n ∨ 2 = firstOf n + 1))]) = H0 at a0 J0 ⊢
    have g0 := ex_on g a0
    have A0 := a0
    refine ⟨_, rfl, ?_⟩
    refine ⟨_, rfl, e, _, d0, _, _, _, rfl, g0.1, g0.2, at_.ea n hn, .ty _, up.up n 3 hn (by decide), ?_⟩
    refine ⟨_, rfl, e, _, d0, _, _, _, rfl, g0.1, g0.2, at_.ea n hn, .own _, up.up n 4 hn (by decide), ?_⟩
    refine ⟨_, rfl, e, _, d0, _, _, _, rfl, g0.1, g0.2, at_.ea n hn, .ty _, up.up n 5 hn (by decide), ?_⟩
    refine ⟨(by show 3 ≤ sizeLine; decide), fun m1 h1 => .inr (.inr ⟨l0, m1, _, _, rfl, rfl, All.new h1 _ _ J0, upd_same, (by show 3 + 3 ≤ sizeLine; decide), fun l1 k1 => ?_⟩)⟩
    have n1 : H l1 = none := none_of (A0.trans (All.new (o := HO.lst [V.bl (decide (3 = firstOf n ∨ 3 = firstOf n + 1)), V.bl (decide (4 = firstOf n ∨ 4 = firstOf n + 1)), V.bl (decide (5 = firstOf n ∨ 5 = firstOf n + 1))]) h1)) k1
    have a1 : All H0 (upd (upd H0 m1 (HO.lst [V.bl (decide (3 = firstOf n ∨ 3 = firstOf n + 1)), V.bl (decide (4 = firstOf n ∨ 4 = firstOf n + 1)), V.bl (decide (5 = firstOf n ∨ 5 = firstOf n + 1))])) l1 (HO.lst ([V.bl (decide (0 = firstOf n ∨ 0 = firstOf n + 1)), V.bl (decide (1 = firstOf n ∨ 1 = firstOf n + 1)), V.bl (decide (2 = firstOf n ∨ 2 = firstOf n + 1))] ++ [V.bl (decide (3 = firstOf n ∨ 3 = firstOf n + 1)), V.bl (decide (4 = firstOf n ∨ 4 = firstOf n + 1)), V.bl (decide (5 = firstOf n ∨ 5 = firstOf n + 1))]))) := (All.new h1).trans (All.new k1)
    have J1 : (upd (upd H0 m1 (HO.lst [V.bl (decide (3 = firstOf n ∨ 3 = firstOf n + 1)), V.bl (decide (4 = firstOf n ∨ 4 = firstOf n + 1)), V.bl (decide (5 = firstOf n ∨ 5 = firstOf n + 1))])) l1 (HO.lst ([V.bl (decide (0 = firstOf n ∨ 0 = firstOf n + 1)), V.bl (decide (1 = firstOf n ∨ 1 = firstOf n + 1)), V.bl (decide (2 = firstOf n ∨ 2 = firstOf n + 1))] ++ [V.bl (decide (3 = firstOf n ∨ 3 = firstOf n + 1)), V.bl (decide (4 = firstOf n ∨ 4 = firstOf n + 1)), V.bl (decide (5 = firstOf n ∨ 5 = firstOf n + 1))]))) l1 = some (.lst [V.bl (decide (0 = firstOf n ∨ 0 = firstOf n + 1)), V.bl (decide (1 = firstOf n ∨ 1 = firstOf n + 1)), V.bl (decide (2 = firstOf n ∨ 2 = firstOf n + 1)), V.bl (decide (3 = firstOf n ∨ 3 = firstOf n + 1)), V.bl (decide (4 = firstOf n ∨ 4 = firstOf n + 1)), V.bl (decide (5 = firstOf n ∨ 5 = firstOf n + 1))]) := upd_same
    generalize upd (upd H0 m1 (HO.lst [V.bl (decide (3 = firstOf n ∨ 3 = firstOf n + 1)), V.bl (decide (4 = firstOf n ∨ 4 = firstOf n + 1)), V.bl (decide (5 = firstOf n ∨ 5 = firstOf n + 1))])) l1 (HO.lst ([V.bl (decide (0 = firstOf n ∨ 0 = firstOf n + 1)), V.bl (decide (1 = firstOf n ∨ 1 = firstOf n + 1)), V.bl (decide (2 = firstOf n ∨ 2 = firstOf n + 1))] ++ [V.bl (decide (3 = firstOf n ∨ 3 = firstOf n + 1)), V.bl (decide (4 = firstOf n ∨ 4 = firstOf n + 1)), V.bl (decide (5 = firstOf n ∨ 5 = firstOf n + 1))])) = H1 at a1 J1 ⊢
    clear k1 h1
    have g1 := ex_on g0 a1
    have A1 := A0.trans a1
    clear a1 g0 A0 J0 n0
    refine ⟨_, rfl, ?_⟩
    refine ⟨_, rfl, e, _, d0, _, _, _, rfl, g1.1, g1.2, at_.ea n hn, .own _, up.up n 6 hn (by decide), ?_⟩
    refine ⟨_, rfl, e, _, d0, _, _, _, rfl, g1.1, g1.2, at_.ea n hn, .ty _, up.up n 7 hn (by decide), ?_⟩
    refine ⟨(by show 2 ≤ sizeLine; decide), fun m2 h2 => .inr (.inr ⟨l1, m2, _, _, rfl, rfl, All.new h2 _ _ J1, upd_same, (by show 6 + 2 ≤ sizeLine; decide), fun l2 k2 => ?_⟩)⟩
    have n2 : H l2 = none := none_of (A1.trans (All.new (o := HO.lst [V.bl (decide (6 = firstOf n ∨ 6 = firstOf n + 1)), V.bl (decide (7 = firstOf n ∨ 7 = firstOf n + 1))]) h2)) k2
    have a2 : All H1 (upd (upd H1 m2 (HO.lst [V.bl (decide (6 = firstOf n ∨ 6 = firstOf n + 1)), V.bl (decide (7 = firstOf n ∨ 7 = firstOf n + 1))])) l2 (HO.lst ([V.bl (decide (0 = firstOf n ∨ 0 = firstOf n + 1)), V.bl (decide (1 = firstOf n ∨ 1 = firstOf n + 1)), V.bl (decide (2 = firstOf n ∨ 2 = firstOf n + 1)), V.bl (decide (3 = firstOf n ∨ 3 = firstOf n + 1)), V.bl (decide (4 = firstOf n ∨ 4 = firstOf n + 1)), V.bl (decide (5 = firstOf n ∨ 5 = firstOf n + 1))] ++ [V.bl (decide (6 = firstOf n ∨ 6 = firstOf n + 1)), V.bl (decide (7 = firstOf n ∨ 7 = firstOf n + 1))]))) := (All.new h2).trans (All.new k2)
    have J2 : (upd (upd H1 m2 (HO.lst [V.bl (decide (6 = firstOf n ∨ 6 = firstOf n + 1)), V.bl (decide (7 = firstOf n ∨ 7 = firstOf n + 1))])) l2 (HO.lst ([V.bl (decide (0 = firstOf n ∨ 0 = firstOf n + 1)), V.bl (decide (1 = firstOf n ∨ 1 = firstOf n + 1)), V.bl (decide (2 = firstOf n ∨ 2 = firstOf n + 1)), V.bl (decide (3 = firstOf n ∨ 3 = firstOf n + 1)), V.bl (decide (4 = firstOf n ∨ 4 = firstOf n + 1)), V.bl (decide (5 = firstOf n ∨ 5 = firstOf n + 1))] ++ [V.bl (decide (6 = firstOf n ∨ 6 = firstOf n + 1)), V.bl (decide (7 = firstOf n ∨ 7 = firstOf n + 1))]))) l2 = some (.lst [V.bl (decide (0 = firstOf n ∨ 0 = firstOf n + 1)), V.bl (decide (1 = firstOf n ∨ 1 = firstOf n + 1)), V.bl (decide (2 = firstOf n ∨ 2 = firstOf n + 1)), V.bl (decide (3 = firstOf n ∨ 3 = firstOf n + 1)), V.bl (decide (4 = firstOf n ∨ 4 = firstOf n + 1)), V.bl (decide (5 = firstOf n ∨ 5 = firstOf n + 1)), V.bl (decide (6 = firstOf n ∨ 6 = firstOf n + 1)), V.bl (decide (7 = firstOf n ∨ 7 = firstOf n + 1))]) := upd_same
    generalize upd (upd H1 m2 (HO.lst [V.bl (decide (6 = firstOf n ∨ 6 = firstOf n + 1)), V.bl (decide (7 = firstOf n ∨ 7 = firstOf n + 1))])) l2 (HO.lst ([V.bl (decide (0 = firstOf n ∨ 0 = firstOf n + 1)), V.bl (decide (1 = firstOf n ∨ 1 = firstOf n + 1)), V.bl (decide (2 = firstOf n ∨ 2 = firstOf n + 1)), V.bl (decide (3 = firstOf n ∨ 3 = firstOf n + 1)), V.bl (decide (4 = firstOf n ∨ 4 = firstOf n + 1)), V.bl (decide (5 = firstOf n ∨ 5 = firstOf n + 1))] ++ [V.bl (decide (6 = firstOf n ∨ 6 = firstOf n + 1)), V.bl (decide (7 = firstOf n ∨ 7 = firstOf n + 1))])) = H2 at a2 J2 ⊢
    clear k2 h2
    have g2 := ex_on g1 a2
    have A2 := A1.trans a2
    clear a2 g1 A1 J1 n1
    have J : H2 l2 = some (.lst ((upL n).map V.bl)) := J2
    clear J2 g2
    have st : ∀ v : Int, (((((L2.start nAbv [V.ref e, V.int n]).set 2 (some (V.ref l0))).set 2 (some (V.ref l1))).set 2 (some (V.ref l2))).set 3 (some (.int v))) = stA e n l2 v := fun _ => rfl
    refine ⟨fun σ H' => σ = stA e n l2 (f1 n) ∧ All H H' ∧ H' l2 = some (.lst ((upL n).map V.bl)), ?_, ?_⟩
    · refine ⟨_, rfl, (by show 2 ≤ sizeLine; decide), fun tp htp => ⟨tp, _, rfl, .inr (SqT.of upd_same), rfl, rfl, _, rfl, ite2 (fun c => ?_) (fun c => ?_)⟩⟩
      · have h : n = 7 ∨ n = 8 := by
          simp [inV, eqV] at c
          omega
        exact ⟨by rw [f1, if_pos h]; rfl, A2.trans (All.new htp), All.new htp _ _ J⟩
      · have h : ¬(n = 7 ∨ n = 8) := by
          simp [inV, eqV] at c
          omega
        exact ⟨by rw [f1, if_neg h]; rfl, A2.trans (All.new htp), All.new htp _ _ J⟩
    rintro σ H3 ⟨rfl, A3, J3⟩
    refine ⟨fun σ H' => σ = stA e n l2 (f2 n) ∧ All H H' ∧ H' l2 = some (.lst ((upL n).map V.bl)), ?_, ?_⟩
    · refine ⟨_, rfl, (by show 5 ≤ sizeLine; decide), fun tp htp => ⟨tp, _, rfl, .inr (SqT.of upd_same), rfl, rfl, _, rfl, ite2 (fun c => ?_) (fun c => ?_)⟩⟩
      · have h : n = 17 ∨ n = 21 ∨ n = 24 ∨ n = 29 ∨ n = 34 := by
          simp [inV, eqV] at c
          omega
        exact ⟨by rw [f2, if_pos h]; rfl, A3.trans (All.new htp), All.new htp _ _ J3⟩
      · have h : ¬(n = 17 ∨ n = 21 ∨ n = 24 ∨ n = 29 ∨ n = 34) := by
          simp [inV, eqV] at c
          omega
        exact ⟨by rw [f2, if_neg h], A3.trans (All.new htp), All.new htp _ _ J3⟩
    rintro σ H4 ⟨rfl, A4, J4⟩
    refine ⟨fun σ H' => σ = stA e n l2 (firstOf n) ∧ All H H' ∧ H' l2 = some (.lst ((upL n).map V.bl)), ?_, ?_⟩
    · refine ⟨_, rfl, .inl ⟨rfl, _, rfl, ite2 (fun c => ?_) (fun c => ?_)⟩⟩
      · obtain rfl := eqI c
        exact ⟨rfl, A4, J4⟩
      · have h := neI c
        exact ⟨by rw [f2_is n hn (by omega)], A4, J4⟩
    rintro σ H5 ⟨rfl, A5, J5⟩
    clear J3 J4 A3 A4 J A2
    refine ⟨_, rfl, 8, rfl, by decide, by decide, fun D hD => ?_⟩
    have zD := none_of A5 hD
    have nlD := ne_of_none J5 hD
    refine lc_range (lo := 0) (n := 8) (fun i H' => H' D = some (.lst (((List.range i).map fun j => decide (j = firstOf n ∨ j = firstOf n + 1)).map V.bl)) ∧ H' l2 = some (.lst ((upL n).map V.bl)) ∧ All H H') ?_ ?_ ?_
    · exact ⟨upd_same, All.new hD _ _ J5, A5.trans (All.new hD)⟩
    · rintro i H6 hi ⟨d6, j6, a6⟩
      refine ⟨rfl, _, rfl, _, rfl, _, rfl, .inl ⟨_, 1, rfl, rfl, (by show 2 ≤ sizeLine; decide), fun tp htp => ⟨tp, _, rfl, .inr (SqT.of upd_same), rfl, rfl, ?_⟩⟩⟩
      refine ⟨_, All.new htp _ _ d6, ?_, ?_, ?_, ?_⟩
      · have big : (1000 : Nat) < sizeLine := by decide
        simp only [List.length_map, List.length_range]
        omega
      · rw [upd_same, List.range_succ, List.map_append, List.map_append]
        have e1 : inV (.int (0 + (i : Int))) [.int (firstOf n), .int ((firstOf n : Int) + 1)] = decide (i = firstOf n ∨ i = firstOf n + 1) := by
          simp only [inV, eqV, List.any_cons, List.any_nil, Bool.or_false]
          rw [Bool.eq_iff_iff]
          simp only [Bool.or_eq_true, beq_iff_eq, decide_eq_true_eq]
          omega
        show some (HO.lst (_ ++ [V.bl (inV (.int (0 + (i : Int))) [.int (firstOf n), .int ((firstOf n : Int) + 1)])])) = _
        rw [e1]
        rfl
      · rw [upd_ne nlD]
        exact All.new htp _ _ j6
      · exact All.over (a6.trans (All.new htp)) zD
    · rintro H6 ⟨d6, j6, a6⟩
      exact .inr (eqd_same (SqL.of j6) (SqL.of d6) (dp_bools _) rfl (q _ a6))
end
end K10

set_option Elab.async false
set_option linter.all false
set_option maxRecDepth 100000
set_option maxHeartbeats 4000000
namespace K10
open PySem PySem.Spec L2 Gd
abbrev sErr : Stmt := top 56
abbrev nErr : List Str := ["_law_way", "_law_x", "_law_y", "_law_plainly", "_law_e", "_law_due", "_law_at"]
abbrev aErr : List Str := ["_law_way", "_law_x", "_law_y", "_law_plainly"]

/-! ### derivations by the text's shape -/
local macro_rules | `(tactic| walk_at "gd nd") => `(tactic| assumption)
local macro_rules | `(tactic| walk_at "gd lo") => `(tactic| first | exact Or.inl rfl | exact Or.inr rfl)
local macro_rules | `(tactic| walk_at "gd var") => `(tactic| first | exact pv 0 | exact pv 1 | exact pv 2 | exact pv 3 | exact pv 4 | exact pv 5 | exact pv 6 | exact pv 7 | exact pv 8 | exact pv 9 | exact pv 10 | exact pv 11 | exact pv 12 | exact pv 13 | exact pe_glob rfl (by assumption) rfl | exact pe_glob (v := V.ref (He.ga _ _)) rfl (Globs.h (by assumption) _ (by decide +kernel)) rfl | exact pe_bltn (v := V.ty _) rfl (Frees.h (by assumption) _ (by decide +kernel)) (by rfl) rfl | exact pe_bltn rfl (Frees.h (by assumption) _ (by decide +kernel)) (by decide +kernel) rfl)
local macro_rules | `(tactic| walk_at "gd a") => `(tactic| first | exact pa_nil | (refine' pa_cons ?k1 ?k2; (case k1 => walk_at "gd e"); (case k2 => walk_at "gd a")))
local macro_rules | `(tactic| walk_at "gd blt") => `(tactic| first
  | ((with_reducible show PE _ (Expr.Call (Expr.Name "abs" _) _ _ _) _); refine' pe_callB call_abs rfl (Frees.h (by assumption) _ (by decide +kernel)) (by decide +kernel) ?k1; (case k1 => walk_at "gd a"))
  | ((with_reducible show PE _ (Expr.Call (Expr.Name "max" _) _ _ _) _); refine' pe_callB (call_max2 rfl) rfl (Frees.h (by assumption) _ (by decide +kernel)) (by decide +kernel) ?k1; (case k1 => walk_at "gd a"))
  | ((with_reducible show PE _ (Expr.Call (Expr.Name "min" _) _ _ _) _); refine' pe_callB (call_min2 rfl) rfl (Frees.h (by assumption) _ (by decide +kernel)) (by decide +kernel) ?k1; (case k1 => walk_at "gd a"))
  | ((with_reducible show PE _ (Expr.Call (Expr.Name "len" _) _ _ _) _); refine' pe_callB (lenK (by assumption)) rfl (Frees.h (by assumption) _ (by decide +kernel)) (by decide +kernel) ?k1; (case k1 => walk_at "gd a"))
  | ((with_reducible show PE _ (Expr.Call (Expr.Name "divmod" _) _ _ _) _); refine' pe_callB call_divmod rfl (Frees.h (by assumption) _ (by decide +kernel)) (by decide +kernel) ?k1; (case k1 => walk_at "gd a"))
  | ((with_reducible show PE _ (Expr.Call (Expr.Name "all" _) _ _ _) _); refine' pe_callB (allK (by assumption) rfl) rfl (Frees.h (by assumption) _ (by decide +kernel)) (by decide +kernel) ?k1; (case k1 => walk_at "gd a"))
  | ((with_reducible show PE _ (Expr.Call (Expr.Name "isinstance" _) _ _ _) _); refine' pe_callB (isXK (by assumption)) rfl (Frees.h (by assumption) _ (by decide +kernel)) (by decide +kernel) ?k1; (case k1 => walk_at "gd a"))
  | ((with_reducible show PE _ (Expr.Call (Expr.Name "repr" _) _ _ _) _); refine' pe_callB (call_repr (by assumption) (by assumption)) rfl (Frees.h (by assumption) _ (by decide +kernel)) (by decide +kernel) ?k1; (case k1 => walk_at "gd a"))
  | ((with_reducible show PE _ (Expr.Call (Expr.Name "int" _) _ _ _) _); refine' pe_callTy call_int1 rfl (Frees.h (by assumption) _ (by decide +kernel)) (by decide +kernel) ?k1; (case k1 => walk_at "gd a"))
  | ((with_reducible show PE _ (Expr.Call (Expr.Name "tuple" _) _ _ _) _); refine' pe_callTy (tupK (by assumption)) rfl (Frees.h (by assumption) _ (by decide +kernel)) (by decide +kernel) ?k1; (case k1 => walk_at "gd a")))
local macro_rules | `(tactic| walk_at "gd call") => `(tactic| first
  | walk_at "gd blt"
  | (refine' pe_dn (by assumption) (by assumption) rfl (by first | decide | omega) ?k1; (case k1 => walk_at "gd a"))
  | (refine' pe_dnG (by assumption) (by assumption) (by assumption) rfl (by first | decide | omega) ?k1; (case k1 => walk_at "gd a"))
  | walk_at "gd own")
local macro_rules | `(tactic| walk_at "gd own") => `(tactic| fail)
local macro_rules | `(tactic| walk_at "gd it") => `(tactic| fail)
local macro_rules | `(tactic| walk_at "gd i") => `(tactic| first
  | ((with_reducible show PI _ _ (Expr.Call (Expr.Name "range" _) [_] _ _) _); refine' pi_range1 rfl (Frees.h (by assumption) _ (by decide +kernel)) ?k1; (case k1 => walk_at "gd a"))
  | walk_at "gd it")
local macro_rules | `(tactic| walk_at "gd cv") => `(tactic| fail)
local macro_rules | `(tactic| walk_at "gd lc") => `(tactic| walk_at "gd cv")
local macro_rules | `(tactic| walk_at "gd e") => `(tactic| first
  | ((with_reducible show PE _ (Expr.Constant _ _ _) _); first | exact pe_int | exact pe_str | exact pe_bl | exact pe_non)
  | ((with_reducible show PE _ (Expr.Name _ _) _); walk_at "gd var")
  | ((with_reducible show PE _ (Expr.BinOp _ Operator.Add _ _) _); refine' pe_op op_addA ?k1 ?k2; (case k1 => walk_at "gd e"); (case k2 => walk_at "gd e"))
  | ((with_reducible show PE _ (Expr.BinOp _ Operator.Sub _ _) _); refine' pe_op op_sub ?k1 ?k2; (case k1 => walk_at "gd e"); (case k2 => walk_at "gd e"))
  | ((with_reducible show PE _ (Expr.BinOp _ Operator.Mult _ _) _); refine' pe_op op_mulA ?k1 ?k2; (case k1 => walk_at "gd e"); (case k2 => walk_at "gd e"))
  | ((with_reducible show PE _ (Expr.BinOp _ Operator.Mod _ _) _); refine' pe_op op_mod ?k1 ?k2; (case k1 => walk_at "gd e"); (case k2 => walk_at "gd e"))
  | ((with_reducible show PE _ (Expr.BinOp _ Operator.FloorDiv _ _) _); refine' pe_op op_fdivW ?k1 ?k2; (case k1 => walk_at "gd e"); (case k2 => walk_at "gd e"))
  | ((with_reducible show PE _ (Expr.BinOp _ Operator.Pow _ _) _); refine' pe_op op_pow ?k1 ?k2; (case k1 => walk_at "gd e"); (case k2 => walk_at "gd e"))
  | ((with_reducible show PE _ (Expr.UnaryOp UnaryOp.USub _ _) _); refine' pe_un un_neg ?k1; (case k1 => walk_at "gd e"))
  | ((with_reducible show PE _ (Expr.UnaryOp UnaryOp.Not _ _) _); refine' pe_not ?k1; (case k1 => walk_at "gd e"))
  | ((with_reducible show PE _ (Expr.Compare _ [CmpOp.Lt] _ _) _); refine' pe_cmpR op_lt ?k1 ?k2 (by rfl); (case k1 => walk_at "gd e"); (case k2 => walk_at "gd e"))
  | ((with_reducible show PE _ (Expr.Compare _ [CmpOp.LtE] _ _) _); refine' pe_cmpR op_le ?k1 ?k2 (by rfl); (case k1 => walk_at "gd e"); (case k2 => walk_at "gd e"))
  | ((with_reducible show PE _ (Expr.Compare _ [CmpOp.Gt] _ _) _); refine' pe_cmpR op_gt ?k1 ?k2 (by rfl); (case k1 => walk_at "gd e"); (case k2 => walk_at "gd e"))
  | ((with_reducible show PE _ (Expr.Compare _ [CmpOp.GtE] _ _) _); refine' pe_cmpR op_ge ?k1 ?k2 (by rfl); (case k1 => walk_at "gd e"); (case k2 => walk_at "gd e"))
  | ((with_reducible show PE _ (Expr.Compare _ [CmpOp.Eq] _ _) _); refine' pe_cmpR (eqK (by assumption) (by assumption)) ?k1 ?k2 (by rfl); (case k1 => walk_at "gd e"); (case k2 => walk_at "gd e"))
  | ((with_reducible show PE _ (Expr.Compare _ [CmpOp.NotEq] _ _) _); refine' pe_cmpR (neK (by assumption) (by assumption)) ?k1 ?k2 (by rfl); (case k1 => walk_at "gd e"); (case k2 => walk_at "gd e"))
  | ((with_reducible show PE _ (Expr.Compare _ [CmpOp.In] _ _) _); refine' pe_cmpR (inK (by assumption)) ?k1 ?k2 (by rfl); (case k1 => walk_at "gd e"); (case k2 => walk_at "gd e"))
  | ((with_reducible show PE _ (Expr.Compare _ [CmpOp.NotIn] _ _) _); refine' pe_cmpR (niK (by assumption)) ?k1 ?k2 (by rfl); (case k1 => walk_at "gd e"); (case k2 => walk_at "gd e"))
  | ((with_reducible show PE _ (Expr.IfExp _ _ _ _) _); refine' pe_ifExp ?k1 ?k2 ?k3; (case k1 => walk_at "gd t"); (case k2 => walk_at "gd e"); (case k3 => walk_at "gd e"))
  | ((with_reducible show PE _ (Expr.Subscript _ (Expr.Slice none (some _) none _) _) _); refine' pe_slice sl_str ?k1 po_none (po_some ?k2); (case k1 => walk_at "gd e"); (case k2 => walk_at "gd e"))
  | ((with_reducible show PE _ (Expr.Subscript _ _ _) _); refine' pe_ix (ixK (by assumption)) ?k1 ?k2 (fun _ _ => rfl); (case k1 => walk_at "gd e"); (case k2 => walk_at "gd e"))
  | ((with_reducible show PE _ (Expr.List _ _) _); refine' pe_lst ?k1; (case k1 => walk_at "gd a"))
  | ((with_reducible show PE _ (Expr.Tuple _ _ _) _); refine' pe_tup ?k1; (case k1 => walk_at "gd a"))
  | ((with_reducible show PE _ (Expr.Dict [] [] _) _); exact pe_dnewK)
  | ((with_reducible show PE _ (Expr.Dict [_] [_] _) _); refine' pe_disp (pps_cons ?k1 ?k2 pps_nil) rfl rfl (fun z => by cases z) (by decide); (case k1 => walk_at "gd e"); (case k2 => walk_at "gd e"))
  | ((with_reducible show PE _ (Expr.Call (Expr.Attribute _ "join" _) _ _ _) _); refine' joinK (by assumption) ?k1 ?k2; (case k1 => walk_at "gd e"); (case k2 => walk_at "gd e"))
  | ((with_reducible show PE _ (Expr.Call (Expr.Attribute _ "append" _) _ _ _) _); refine' pe_bm PySem.F.plainAttrs_list PySem.F.slot_list_append PySem.F.type_list_append mt_append ?k1 ?k2; (case k1 => walk_at "gd e"); (case k2 => walk_at "gd a"))
  | ((with_reducible show PE _ (Expr.Attribute _ _ _) _); refine' efK (by assumption) ?k1; (case k1 => walk_at "gd e"))
  | ((with_reducible show PE _ (Expr.ListComp _ _ _ _) _); walk_at "gd lc")
  | walk_at "gd call")
local macro_rules | `(tactic| walk_at "gd t") => `(tactic| first
  | ((with_reducible show PT _ (Expr.UnaryOp UnaryOp.Not _ _) _); refine' pt_not ?k1; (case k1 => walk_at "gd t"))
  | ((with_reducible show PT _ (Expr.BoolOp BoolOp.And [_, _] _) _); refine' PW.pt (pw_and ?k1 (pw_and1 ?k2)); (case k1 => walk_at "gd t"); (case k2 => walk_at "gd t"))
  | ((with_reducible show PT _ (Expr.BoolOp BoolOp.Or [_, _] _) _); refine' PW.pt (pw_or ?k1 (pw_or1 ?k2)); (case k1 => walk_at "gd t"); (case k2 => walk_at "gd t"))
  | ((with_reducible show PT _ (Expr.Compare _ [CmpOp.Lt] _ _) _); refine' pt_cmpR op_lt ?k1 ?k2 (by rfl); (case k1 => walk_at "gd e"); (case k2 => walk_at "gd e"))
  | ((with_reducible show PT _ (Expr.Compare _ [CmpOp.LtE] _ _) _); refine' pt_cmpR op_le ?k1 ?k2 (by rfl); (case k1 => walk_at "gd e"); (case k2 => walk_at "gd e"))
  | ((with_reducible show PT _ (Expr.Compare _ [CmpOp.Gt] _ _) _); refine' pt_cmpR op_gt ?k1 ?k2 (by rfl); (case k1 => walk_at "gd e"); (case k2 => walk_at "gd e"))
  | ((with_reducible show PT _ (Expr.Compare _ [CmpOp.GtE] _ _) _); refine' pt_cmpR op_ge ?k1 ?k2 (by rfl); (case k1 => walk_at "gd e"); (case k2 => walk_at "gd e"))
  | ((with_reducible show PT _ (Expr.Compare _ [CmpOp.Eq] _ _) _); refine' pt_cmpR (eqK (by assumption) (by assumption)) ?k1 ?k2 (by rfl); (case k1 => walk_at "gd e"); (case k2 => walk_at "gd e"))
  | ((with_reducible show PT _ (Expr.Compare _ [CmpOp.NotEq] _ _) _); refine' pt_cmpR (neK (by assumption) (by assumption)) ?k1 ?k2 (by rfl); (case k1 => walk_at "gd e"); (case k2 => walk_at "gd e"))
  | ((with_reducible show PT _ (Expr.Compare _ [CmpOp.In] _ _) _); refine' pt_cmpR (inK (by assumption)) ?k1 ?k2 (by rfl); (case k1 => walk_at "gd e"); (case k2 => walk_at "gd e"))
  | ((with_reducible show PT _ (Expr.Compare _ [CmpOp.NotIn] _ _) _); refine' pt_cmpR (niK (by assumption)) ?k1 ?k2 (by rfl); (case k1 => walk_at "gd e"); (case k2 => walk_at "gd e"))
  | (refine' pt_val ?k1; (case k1 => walk_at "gd e")))
local macro_rules | `(tactic| walk_at "gd g") => `(tactic| first
  | ((with_reducible show PG _ (Expr.Name _ _) _); first | exact pg_name (i := 0) (by walk_at "gd nd") rfl (by walk_at "gd lo") | exact pg_name (i := 1) (by walk_at "gd nd") rfl (by walk_at "gd lo") | exact pg_name (i := 2) (by walk_at "gd nd") rfl (by walk_at "gd lo") | exact pg_name (i := 3) (by walk_at "gd nd") rfl (by walk_at "gd lo") | exact pg_name (i := 4) (by walk_at "gd nd") rfl (by walk_at "gd lo") | exact pg_name (i := 5) (by walk_at "gd nd") rfl (by walk_at "gd lo") | exact pg_name (i := 6) (by walk_at "gd nd") rfl (by walk_at "gd lo") | exact pg_name (i := 7) (by walk_at "gd nd") rfl (by walk_at "gd lo") | exact pg_name (i := 8) (by walk_at "gd nd") rfl (by walk_at "gd lo") | exact pg_name (i := 9) (by walk_at "gd nd") rfl (by walk_at "gd lo") | exact pg_name (i := 10) (by walk_at "gd nd") rfl (by walk_at "gd lo") | exact pg_name (i := 11) (by walk_at "gd nd") rfl (by walk_at "gd lo") | exact pg_name (i := 12) (by walk_at "gd nd") rfl (by walk_at "gd lo") | exact pg_name (i := 13) (by walk_at "gd nd") rfl (by walk_at "gd lo"))
  | ((with_reducible show PG _ (Expr.Subscript _ _ _) _); refine' pg_sub ?k1 ?k2 set_list; (case k1 => walk_at "gd e"); (case k2 => walk_at "gd e"))
  | ((with_reducible show PG _ (Expr.Tuple _ _ _) _); refine' pg_tup rfl ?k1; (case k1 => walk_at "gd gs")))
local macro_rules | `(tactic| walk_at "gd gs") => `(tactic| first | exact pgs_nil | (refine' pgs_cons ?k1 ?k2; (case k1 => walk_at "gd g"); (case k2 => walk_at "gd gs")))
local macro_rules | `(tactic| walk_at "gd set") => `(tactic| first | (refine' ps_set (i := 0) (by walk_at "gd nd") rfl (by walk_at "gd lo") ?k1; (case k1 => walk_at "gd e")) | (refine' ps_set (i := 1) (by walk_at "gd nd") rfl (by walk_at "gd lo") ?k1; (case k1 => walk_at "gd e")) | (refine' ps_set (i := 2) (by walk_at "gd nd") rfl (by walk_at "gd lo") ?k1; (case k1 => walk_at "gd e")) | (refine' ps_set (i := 3) (by walk_at "gd nd") rfl (by walk_at "gd lo") ?k1; (case k1 => walk_at "gd e")) | (refine' ps_set (i := 4) (by walk_at "gd nd") rfl (by walk_at "gd lo") ?k1; (case k1 => walk_at "gd e")) | (refine' ps_set (i := 5) (by walk_at "gd nd") rfl (by walk_at "gd lo") ?k1; (case k1 => walk_at "gd e")) | (refine' ps_set (i := 6) (by walk_at "gd nd") rfl (by walk_at "gd lo") ?k1; (case k1 => walk_at "gd e")) | (refine' ps_set (i := 7) (by walk_at "gd nd") rfl (by walk_at "gd lo") ?k1; (case k1 => walk_at "gd e")) | (refine' ps_set (i := 8) (by walk_at "gd nd") rfl (by walk_at "gd lo") ?k1; (case k1 => walk_at "gd e")) | (refine' ps_set (i := 9) (by walk_at "gd nd") rfl (by walk_at "gd lo") ?k1; (case k1 => walk_at "gd e")) | (refine' ps_set (i := 10) (by walk_at "gd nd") rfl (by walk_at "gd lo") ?k1; (case k1 => walk_at "gd e")) | (refine' ps_set (i := 11) (by walk_at "gd nd") rfl (by walk_at "gd lo") ?k1; (case k1 => walk_at "gd e")) | (refine' ps_set (i := 12) (by walk_at "gd nd") rfl (by walk_at "gd lo") ?k1; (case k1 => walk_at "gd e")) | (refine' ps_set (i := 13) (by walk_at "gd nd") rfl (by walk_at "gd lo") ?k1; (case k1 => walk_at "gd e")))
local macro_rules | `(tactic| walk_at "gd os") => `(tactic| fail)
local macro_rules | `(tactic| walk_at "gd slc") => `(tactic| fail)
local macro_rules | `(tactic| walk_at "gd par") => `(tactic| fail)
local macro_rules | `(tactic| walk_at "gd s") => `(tactic| first
  | ((with_reducible show PS _ (Stmt.Return (some _) _) _); refine' ps_ret ?k1; (case k1 => walk_at "gd e"))
  | ((with_reducible show PS _ (Stmt.If _ _ _ _) _); refine' ps_if ?k1 ?k2 ?k3; (case k1 => walk_at "gd t"); (case k2 => walk_at "gd ss"); (case k3 => walk_at "gd ss"))
  | ((with_reducible show PS _ (Stmt.Assign [Expr.Name _ _] (Expr.ListComp _ _ _ _) _) _); walk_at "gd slc")
  | ((with_reducible show PS _ (Stmt.Assign [Expr.Name _ _] _ _) _); walk_at "gd set")
  | ((with_reducible show PS _ (Stmt.Assign [_] _ _) _); refine' ps_asg ?k1 ?k2; (case k1 => walk_at "gd e"); (case k2 => walk_at "gd g"))
  | ((with_reducible show PS _ (Stmt.Assign [_] _ _) _); walk_at "gd par")
  | ((with_reducible show PS _ (Stmt.For _ _ _ _ _) _); refine' ps_for PassesOwn.never rfl ?k1 ?k2 ?k3; (case k1 => walk_at "gd i"); (case k2 => walk_at "gd g"); (case k3 => walk_at "gd ss"))
  | ((with_reducible show PS _ (Stmt.Expr _ _) _); refine' ps_expr ?k1; (case k1 => walk_at "gd e"))
  | walk_at "gd os")
local macro_rules | `(tactic| walk_at "gd ss") => `(tactic| first | exact pss_nil | (refine' pss_one ?k1; (case k1 => walk_at "gd s")) | (refine' pss_cons ?k1 ?k2; (case k1 => walk_at "gd s"); (case k2 => walk_at "gd ss")))
local macro_rules | `(tactic| walk_at "gd cv") => `(tactic| ((with_reducible show PE _ (Expr.ListComp _ [⟨Expr.Name "_law_at" _, _, _, _⟩] _ _) _); refine' pe_lc (own := [("_law_at", 6)]) (g := gName 6) (tt := tYes) rfl (by assumption) ?k1 (blkOk_by (N := nErr) (sc := defScope sErr) (by decide +kernel)) (fun _ _ _ _ _ => pg_name (i := 6) (by assumption) rfl (Or.inl rfl)) (fun _ _ _ _ _ => pts_nil) (fun _ _ _ _ _ => ?k2); (case k1 => walk_at "gd i"); (case k2 => walk_at "gd e")))
local macro_rules | `(tactic| walk_at "gd ss") => `(tactic| first | exact pss_nil | (refine' pss_one ?k1; (case k1 => walk_at "gd s")) | ((with_reducible show PSs _ (Stmt.If _ _ _ _ :: _) _); refine' C8.pss_cut ?k1 ?k2; (case k1 => walk_at "gd s"); (case k2 => walk_at "gd ss")) | (refine' pss_cons ?k1 ?k2; (case k1 => walk_at "gd s"); (case k2 => walk_at "gd ss")))
local macro_rules | `(tactic| walk_at "gd par") => `(tactic| (refine' ps_par (i := 4) (j := 5) rfl (by walk_at "gd nd") rfl rfl (by decide) rfl rfl ?k1 (by rfl); (case k1 => walk_at "gd a")))
theorem scErr : FnScope nErr aErr (defScope sErr) := ⟨rfl, rfl, rfl, by decide +kernel, rfl, by decide +kernel, by decide +kernel⟩
/-- data of bounded size -/
def Dt (H : Hp) (x : V) : Prop := ∃ as t, Rp H as 5 x t ∧ t.length ≤ 4000 ∧ ∀ b ∈ as, ∃ o, H b = some o
theorem Dt.on {H H' : Hp} {x : V} (h : Dt H x) (a : All H H') : Dt H' x := by
  obtain ⟨as, t, r, l, n⟩ := h
  exact ⟨as, t, r.keep fun b _ o z => a b o z, l, fun b hb => let ⟨o, z⟩ := n b hb; ⟨o, a b o z⟩⟩
/-- the repr of the list of what an error is made of -/
theorem due_rp {H : Hp} {x y : V} (n : Nat) (hx : Dt H x) (hy : Dt H y) : ∃ t : Str, t.length ≤ 9000 ∧ ∀ (H' : Hp) (l : Addr), All H H' → H l = none → H' l = some (.lst (dueV n x y)) → ∃ as, Rp H' as 6 (.ref l) t := by
  obtain ⟨as, t, r, lt, na⟩ := hx
  obtain ⟨bs, u, r2, lu, nb⟩ := hy
  have out : ∀ {l : Addr} {cs : List Addr}, H l = none → (∀ b ∈ cs, ∃ o, H b = some o) → l ∉ cs := fun {l cs} h k z => by
    obtain ⟨o, e⟩ := k l z
    rw [h] at e
    cases e
  by_cases c : n < 32
  · refine ⟨listText [t], ?_, fun H' l a hl e => ?_⟩
    · have := listText_le [t]
      simp [piled] at this
      omega
    · rw [dueV, if_pos c] at e
      refine ⟨l :: as, .lst (as0 := as) e (out hl na) (fun _ h => h) rfl fun i z v h1 h2 => ?_⟩
      cases i with
      | zero => cases h1; cases h2; exact r.keep fun b _ o z => a b o z
      | succ i => simp at h1
  · by_cases c2 : n = 34
    · refine ⟨listText [], by decide, fun H' l a hl e => ?_⟩
      rw [dueV, if_neg c, if_pos c2] at e
      exact ⟨[l], .lst (as0 := []) e (by simp) (fun _ h => h) rfl fun i z v h1 h2 => by simp at h1⟩
    · refine ⟨listText [t, u], ?_, fun H' l a hl e => ?_⟩
      · have := listText_le [t, u]
        simp [piled] at this
        omega
      · rw [dueV, if_neg c, if_neg c2] at e
        refine ⟨l :: (as ++ bs), .lst (as0 := as ++ bs) e (out hl fun b hb => (List.mem_append.mp hb).elim (na b) (nb b)) (fun _ h => h) rfl fun i z v h1 h2 => ?_⟩
        match i with
        | 0 => cases h1; cases h2; exact (r.keep fun b _ o z => a b o z).more fun b hb => List.mem_append_left _ hb
        | 1 => cases h1; cases h2; exact (r2.keep fun b _ o z => a b o z).more fun b hb => List.mem_append_right _ hb
        | i + 2 => simp at h1
abbrev stE (e : Addr) (n : Nat) (x y : V) (b : Bool) (l : Addr) : St := ((L2.start nErr [V.int n, x, y, V.bl b]).set 4 (some (V.ref e))).set 5 (some (V.ref l))
def d1 (n : Nat) (x y : V) : List V := if n = 32 ∨ n = 33 then [x, y] else [x]
def kb (n : Nat) : List Bool := (List.range 35).map fun j => decide (j = n)
def spErr : Sp := fun vs H Q _ => ∃ (n : Nat) (x y : V) (c : Bool), vs = [.int n, x, y, .bl c] ∧ n < 35 ∧ Dt H x ∧ Dt H y ∧ ∀ H' : Hp, All H H' → Q (.bl true) H'
section
variable {P : Program} {w : World} {K : W.Frag} {mg : Str → Option Value} {base : Heap} {f : Addr} {fd : FuncData}
theorem ok_err (fr : Frees mg) (D1 : Dn P w K mg base CX0 2 "_law_made" aMade (spMade K)) (D2 : Dn P w K mg base CX0 1 "_law_held_by" ["_law_e", "_law_way"] (spHeld K)) (D3 : Dn P w K mg base CX0 1 "_law_kin" ["_law_e"] (spKin K))
    (D4 : Dn P w K mg base CX0 1 "_law_above_right" ["_law_e", "_law_way"] (spAbv K)) (F : Fun K "_law_error_right" "_law_error_right" sErr f fd) : FnG P w K mg base CX0 3 f fd aErr spErr := by
  refine okG F scErr (fun vs H Q E h => ?_) (fun cdv A outer s H vs Q E hG hr h => ⟨?t, ?d, ?r⟩)
  · obtain ⟨n, x, y, c, rfl, _⟩ := h
    rfl
  case d =>
    have nd := scErr.nd
    have isk : IsK K := ⟨trivial⟩
    walk_at "gd ss"
  case r =>
    obtain ⟨n, x, y, b, rfl, hn, dx, dy, q⟩ := h
    obtain ⟨t, lt, rp⟩ := due_rp n dx dy
    have big : (10000 : Nat) < sizeLine := by decide
    refine ⟨_, rfl, _, rfl, _, rfl, _, rfl, n, x, y, b, rfl, hn, fun e H1 a1 er => ⟨_, rfl, (by show 1 ≤ sizeLine; decide), fun l hl => ⟨_, _, rfl, ?_⟩⟩⟩
    have b2 : All H1 (upd H1 l (.lst [x])) := All.new hl
    have l2 : upd H1 l (.lst [x]) l = some (.lst [x]) := upd_same
    have z2 := none_of a1 hl
    refine ⟨fun σ H' => ∃ l, σ = stE e n x y b l ∧ All H H' ∧ All H1 H' ∧ H l = none ∧ H' l = some (.lst (d1 n x y)), ?_, ?_⟩
    · refine ⟨_, rfl, (by show 2 ≤ sizeLine; decide), fun tp htp => ⟨tp, _, rfl, .inr (SqT.of upd_same), rfl, rfl, _, rfl, ite2 (fun c => ?_) (fun c => ?_)⟩⟩
      · have h : n = 32 ∨ n = 33 := by
          simp [inV, eqV] at c
          omega
        refine ⟨_, rfl, _, rfl, (by show 2 ≤ sizeLine; decide), fun m hm => ⟨m, rfl, a1.trans (b2.trans ((All.new htp).trans (All.new hm))), b2.trans ((All.new htp).trans (All.new hm)), none_of (a1.trans (b2.trans (All.new htp))) hm, ?_⟩⟩
        rw [upd_same, d1, if_pos h]
      · have h : ¬(n = 32 ∨ n = 33) := by
          simp [inV, eqV] at c
          omega
        exact ⟨l, rfl, a1.trans (b2.trans (All.new htp)), b2.trans (All.new htp), z2, by rw [d1, if_neg h]; exact All.new htp _ _ l2⟩
    rintro σ H3 ⟨l3, rfl, a3, b3, z3, L3⟩
    refine ⟨fun σ H' => ∃ l, σ = stE e n x y b l ∧ All H H' ∧ All H1 H' ∧ H l = none ∧ H' l = some (.lst (dueV n x y)), ?_, ?_⟩
    · refine ⟨_, rfl, .inl ⟨rfl, _, rfl, ite2 (fun c => ?_) (fun c => ?_)⟩⟩
      · obtain rfl := eqI c
        exact ⟨(by show 0 ≤ sizeLine; decide), fun m hm => ⟨m, rfl, a3.trans (All.new hm), b3.trans (All.new hm), none_of a3 hm, upd_same⟩⟩
      · have h := neI c
        refine ⟨l3, rfl, a3, b3, z3, ?_⟩
        rw [L3, d1, dueV]
        by_cases h1 : n < 32
        · rw [if_pos h1, if_neg (by omega)]
        · rw [if_neg h1, if_pos (by omega), if_neg (by omega)]
    rintro σ H4 ⟨l4, rfl, a4, b4, z4, L4⟩
    have er4 := er.on b4
    clear L3 a3 b3 z3
    refine ⟨fun σ H' => σ = stE e n x y b l4 ∧ All H H' ∧ Er K H' n x y e, ?_, ?_⟩
    · refine ⟨_, rfl, _, rfl, e, n, x, y, rfl, hn, er4, fun k H5 a5 hk nk => ?_⟩
      obtain ⟨as, r1⟩ := rp H5 k (a4.trans a5) (none_of a4 nk) hk
      obtain ⟨as2, r2⟩ := rp H5 l4 (a4.trans a5) z4 (a5 _ _ L4)
      refine ⟨_, as, 6, t, rfl, r1, by decide, by omega, _, rfl, _, as2, 6, t, rfl, r2, by decide, by omega, .inl ⟨rfl, _, rfl, ite2 (fun c => absurd c (by simp)) (fun _ => ?_)⟩⟩
      refine ⟨_, rfl, e, n, x, y, rfl, hn, er4.on a5, fun k2 H6 a6 hk2 nk2 => ⟨35, rfl, by decide, by decide, fun D hD => ?_⟩⟩
      have zD := none_of (a4.trans (a5.trans a6)) hD
      have nkD := ne_of_none hk2 hD
      have kv : kinV n = (kb n).map V.bl := rfl
      rw [kv] at hk2
      refine lc_range (lo := 0) (n := 35) (fun i H' => H' D = some (.lst (((List.range i).map fun j => decide (j = n)).map V.bl)) ∧ All H6 H') ?_ ?_ ?_
      · exact ⟨upd_same, All.new hD⟩
      · rintro i H7 hi ⟨d7, c7⟩
        refine ⟨rfl, _, rfl, _, rfl, .inl ⟨rfl, _, d7, ?_, ?_, ?_⟩⟩
        · simp only [List.length_map, List.length_range]
          omega
        · rw [upd_same, List.range_succ, List.map_append, List.map_append]
          have e1 : decide (V.int (0 + (i : Int)) = V.int (n : Int)) = decide (i = n) := by
            rw [Bool.eq_iff_iff]
            simp only [decide_eq_true_eq, V.int.injEq]
            omega
          show some (HO.lst (_ ++ [V.bl (decide (V.int (0 + (i : Int)) = V.int (n : Int)))])) = _
          rw [e1]
          rfl
        · exact All.over c7 hD
      · rintro H7 ⟨d7, c7⟩
        refine .inr (ned_same (SqL.of (c7 _ _ hk2)) (SqL.of d7) (dp_bools _) rfl ?_)
        exact ⟨false, rfl, ite2 (fun c => nomatch c) (fun _ => ⟨rfl, a4.trans (a5.trans (a6.trans c7)), er4.on (a5.trans (a6.trans c7))⟩)⟩
    rintro σ H5 ⟨rfl, a5, er5⟩
    exact ⟨_, rfl, _, rfl, e, n, x, y, rfl, hn, er5, fun H' a' => q _ (a5.trans a')⟩
end
end K10

set_option Elab.async false
set_option linter.all false
set_option maxRecDepth 100000
set_option maxHeartbeats 4000000
namespace K10
open PySem PySem.Spec L2 Gd
abbrev sRight : Stmt := top 57
abbrev sLaw : Stmt := top 58
abbrev nRight : List Str := ["_law_pot_here", "_law_x", "_law_y", "_law_plainly", "_law_due", "_law_way", "_law_at"]
abbrev nLaw : List Str := ["_law_script", "_law_k"]

/-! ### derivations by the text's shape -/
local macro_rules | `(tactic| walk_at "gd nd") => `(tactic| assumption)
local macro_rules | `(tactic| walk_at "gd lo") => `(tactic| first | exact Or.inl rfl | exact Or.inr rfl)
local macro_rules | `(tactic| walk_at "gd var") => `(tactic| first | exact pv 0 | exact pv 1 | exact pv 2 | exact pv 3 | exact pv 4 | exact pv 5 | exact pv 6 | exact pv 7 | exact pv 8 | exact pv 9 | exact pv 10 | exact pv 11 | exact pv 12 | exact pv 13 | exact pe_glob rfl (by assumption) rfl | exact pe_glob (v := V.ref (He.ga _ _)) rfl (Globs.h (by assumption) _ (by decide +kernel)) rfl | exact pe_bltn (v := V.ty _) rfl (Frees.h (by assumption) _ (by decide +kernel)) (by rfl) rfl | exact pe_bltn rfl (Frees.h (by assumption) _ (by decide +kernel)) (by decide +kernel) rfl)
local macro_rules | `(tactic| walk_at "gd a") => `(tactic| first | exact pa_nil | (refine' pa_cons ?k1 ?k2; (case k1 => walk_at "gd e"); (case k2 => walk_at "gd a")))
local macro_rules | `(tactic| walk_at "gd blt") => `(tactic| first
  | ((with_reducible show PE _ (Expr.Call (Expr.Name "abs" _) _ _ _) _); refine' pe_callB call_abs rfl (Frees.h (by assumption) _ (by decide +kernel)) (by decide +kernel) ?k1; (case k1 => walk_at "gd a"))
  | ((with_reducible show PE _ (Expr.Call (Expr.Name "max" _) _ _ _) _); refine' pe_callB (call_max2 rfl) rfl (Frees.h (by assumption) _ (by decide +kernel)) (by decide +kernel) ?k1; (case k1 => walk_at "gd a"))
  | ((with_reducible show PE _ (Expr.Call (Expr.Name "min" _) _ _ _) _); refine' pe_callB (call_min2 rfl) rfl (Frees.h (by assumption) _ (by decide +kernel)) (by decide +kernel) ?k1; (case k1 => walk_at "gd a"))
  | ((with_reducible show PE _ (Expr.Call (Expr.Name "len" _) _ _ _) _); refine' pe_callB (lenK (by assumption)) rfl (Frees.h (by assumption) _ (by decide +kernel)) (by decide +kernel) ?k1; (case k1 => walk_at "gd a"))
  | ((with_reducible show PE _ (Expr.Call (Expr.Name "divmod" _) _ _ _) _); refine' pe_callB call_divmod rfl (Frees.h (by assumption) _ (by decide +kernel)) (by decide +kernel) ?k1; (case k1 => walk_at "gd a"))
  | ((with_reducible show PE _ (Expr.Call (Expr.Name "all" _) _ _ _) _); refine' pe_callB (allK (by assumption) rfl) rfl (Frees.h (by assumption) _ (by decide +kernel)) (by decide +kernel) ?k1; (case k1 => walk_at "gd a"))
  | ((with_reducible show PE _ (Expr.Call (Expr.Name "isinstance" _) _ _ _) _); refine' pe_callB (isXK (by assumption)) rfl (Frees.h (by assumption) _ (by decide +kernel)) (by decide +kernel) ?k1; (case k1 => walk_at "gd a"))
  | ((with_reducible show PE _ (Expr.Call (Expr.Name "repr" _) _ _ _) _); refine' pe_callB (call_repr (by assumption) (by assumption)) rfl (Frees.h (by assumption) _ (by decide +kernel)) (by decide +kernel) ?k1; (case k1 => walk_at "gd a"))
  | ((with_reducible show PE _ (Expr.Call (Expr.Name "int" _) _ _ _) _); refine' pe_callTy call_int1 rfl (Frees.h (by assumption) _ (by decide +kernel)) (by decide +kernel) ?k1; (case k1 => walk_at "gd a"))
  | ((with_reducible show PE _ (Expr.Call (Expr.Name "tuple" _) _ _ _) _); refine' pe_callTy (tupK (by assumption)) rfl (Frees.h (by assumption) _ (by decide +kernel)) (by decide +kernel) ?k1; (case k1 => walk_at "gd a")))
local macro_rules | `(tactic| walk_at "gd call") => `(tactic| first
  | walk_at "gd blt"
  | (refine' pe_dn (by assumption) (by assumption) rfl (by first | decide | omega) ?k1; (case k1 => walk_at "gd a"))
  | (refine' pe_dnG (by assumption) (by assumption) (by assumption) rfl (by first | decide | omega) ?k1; (case k1 => walk_at "gd a"))
  | walk_at "gd own")
local macro_rules | `(tactic| walk_at "gd own") => `(tactic| fail)
local macro_rules | `(tactic| walk_at "gd it") => `(tactic| fail)
local macro_rules | `(tactic| walk_at "gd i") => `(tactic| first
  | ((with_reducible show PI _ _ (Expr.Call (Expr.Name "range" _) [_] _ _) _); refine' pi_range1 rfl (Frees.h (by assumption) _ (by decide +kernel)) ?k1; (case k1 => walk_at "gd a"))
  | walk_at "gd it")
local macro_rules | `(tactic| walk_at "gd cv") => `(tactic| fail)
local macro_rules | `(tactic| walk_at "gd lc") => `(tactic| walk_at "gd cv")
local macro_rules | `(tactic| walk_at "gd e") => `(tactic| first
  | ((with_reducible show PE _ (Expr.Constant _ _ _) _); first | exact pe_int | exact pe_str | exact pe_bl | exact pe_non)
  | ((with_reducible show PE _ (Expr.Name _ _) _); walk_at "gd var")
  | ((with_reducible show PE _ (Expr.BinOp _ Operator.Add _ _) _); refine' pe_op op_addA ?k1 ?k2; (case k1 => walk_at "gd e"); (case k2 => walk_at "gd e"))
  | ((with_reducible show PE _ (Expr.BinOp _ Operator.Sub _ _) _); refine' pe_op op_sub ?k1 ?k2; (case k1 => walk_at "gd e"); (case k2 => walk_at "gd e"))
  | ((with_reducible show PE _ (Expr.BinOp _ Operator.Mult _ _) _); refine' pe_op op_mulA ?k1 ?k2; (case k1 => walk_at "gd e"); (case k2 => walk_at "gd e"))
  | ((with_reducible show PE _ (Expr.BinOp _ Operator.Mod _ _) _); refine' pe_op op_mod ?k1 ?k2; (case k1 => walk_at "gd e"); (case k2 => walk_at "gd e"))
  | ((with_reducible show PE _ (Expr.BinOp _ Operator.FloorDiv _ _) _); refine' pe_op op_fdivW ?k1 ?k2; (case k1 => walk_at "gd e"); (case k2 => walk_at "gd e"))
  | ((with_reducible show PE _ (Expr.BinOp _ Operator.Pow _ _) _); refine' pe_op op_pow ?k1 ?k2; (case k1 => walk_at "gd e"); (case k2 => walk_at "gd e"))
  | ((with_reducible show PE _ (Expr.UnaryOp UnaryOp.USub _ _) _); refine' pe_un un_neg ?k1; (case k1 => walk_at "gd e"))
  | ((with_reducible show PE _ (Expr.UnaryOp UnaryOp.Not _ _) _); refine' pe_not ?k1; (case k1 => walk_at "gd e"))
  | ((with_reducible show PE _ (Expr.Compare _ [CmpOp.Lt] _ _) _); refine' pe_cmpR op_lt ?k1 ?k2 (by rfl); (case k1 => walk_at "gd e"); (case k2 => walk_at "gd e"))
  | ((with_reducible show PE _ (Expr.Compare _ [CmpOp.LtE] _ _) _); refine' pe_cmpR op_le ?k1 ?k2 (by rfl); (case k1 => walk_at "gd e"); (case k2 => walk_at "gd e"))
  | ((with_reducible show PE _ (Expr.Compare _ [CmpOp.Gt] _ _) _); refine' pe_cmpR op_gt ?k1 ?k2 (by rfl); (case k1 => walk_at "gd e"); (case k2 => walk_at "gd e"))
  | ((with_reducible show PE _ (Expr.Compare _ [CmpOp.GtE] _ _) _); refine' pe_cmpR op_ge ?k1 ?k2 (by rfl); (case k1 => walk_at "gd e"); (case k2 => walk_at "gd e"))
  | ((with_reducible show PE _ (Expr.Compare _ [CmpOp.Eq] _ _) _); refine' pe_cmpR (eqK (by assumption) (by assumption)) ?k1 ?k2 (by rfl); (case k1 => walk_at "gd e"); (case k2 => walk_at "gd e"))
  | ((with_reducible show PE _ (Expr.Compare _ [CmpOp.NotEq] _ _) _); refine' pe_cmpR (neK (by assumption) (by assumption)) ?k1 ?k2 (by rfl); (case k1 => walk_at "gd e"); (case k2 => walk_at "gd e"))
  | ((with_reducible show PE _ (Expr.Compare _ [CmpOp.In] _ _) _); refine' pe_cmpR (inK (by assumption)) ?k1 ?k2 (by rfl); (case k1 => walk_at "gd e"); (case k2 => walk_at "gd e"))
  | ((with_reducible show PE _ (Expr.Compare _ [CmpOp.NotIn] _ _) _); refine' pe_cmpR (niK (by assumption)) ?k1 ?k2 (by rfl); (case k1 => walk_at "gd e"); (case k2 => walk_at "gd e"))
  | ((with_reducible show PE _ (Expr.IfExp _ _ _ _) _); refine' pe_ifExp ?k1 ?k2 ?k3; (case k1 => walk_at "gd t"); (case k2 => walk_at "gd e"); (case k3 => walk_at "gd e"))
  | ((with_reducible show PE _ (Expr.Subscript _ (Expr.Slice none (some _) none _) _) _); refine' pe_slice sl_str ?k1 po_none (po_some ?k2); (case k1 => walk_at "gd e"); (case k2 => walk_at "gd e"))
  | ((with_reducible show PE _ (Expr.Subscript _ _ _) _); refine' pe_ix (ixK (by assumption)) ?k1 ?k2 (fun _ _ => rfl); (case k1 => walk_at "gd e"); (case k2 => walk_at "gd e"))
  | ((with_reducible show PE _ (Expr.List _ _) _); refine' pe_lst ?k1; (case k1 => walk_at "gd a"))
  | ((with_reducible show PE _ (Expr.Tuple _ _ _) _); refine' pe_tup ?k1; (case k1 => walk_at "gd a"))
  | ((with_reducible show PE _ (Expr.Dict [] [] _) _); exact pe_dnewK)
  | ((with_reducible show PE _ (Expr.Dict [_] [_] _) _); refine' pe_disp (pps_cons ?k1 ?k2 pps_nil) rfl rfl (fun z => by cases z) (by decide); (case k1 => walk_at "gd e"); (case k2 => walk_at "gd e"))
  | ((with_reducible show PE _ (Expr.Call (Expr.Attribute _ "join" _) _ _ _) _); refine' joinK (by assumption) ?k1 ?k2; (case k1 => walk_at "gd e"); (case k2 => walk_at "gd e"))
  | ((with_reducible show PE _ (Expr.Call (Expr.Attribute _ "append" _) _ _ _) _); refine' pe_bm PySem.F.plainAttrs_list PySem.F.slot_list_append PySem.F.type_list_append mt_append ?k1 ?k2; (case k1 => walk_at "gd e"); (case k2 => walk_at "gd a"))
  | ((with_reducible show PE _ (Expr.Attribute _ _ _) _); refine' efK (by assumption) ?k1; (case k1 => walk_at "gd e"))
  | ((with_reducible show PE _ (Expr.ListComp _ _ _ _) _); walk_at "gd lc")
  | walk_at "gd call")
local macro_rules | `(tactic| walk_at "gd t") => `(tactic| first
  | ((with_reducible show PT _ (Expr.UnaryOp UnaryOp.Not _ _) _); refine' pt_not ?k1; (case k1 => walk_at "gd t"))
  | ((with_reducible show PT _ (Expr.BoolOp BoolOp.And [_, _] _) _); refine' PW.pt (pw_and ?k1 (pw_and1 ?k2)); (case k1 => walk_at "gd t"); (case k2 => walk_at "gd t"))
  | ((with_reducible show PT _ (Expr.BoolOp BoolOp.Or [_, _] _) _); refine' PW.pt (pw_or ?k1 (pw_or1 ?k2)); (case k1 => walk_at "gd t"); (case k2 => walk_at "gd t"))
  | ((with_reducible show PT _ (Expr.Compare _ [CmpOp.Lt] _ _) _); refine' pt_cmpR op_lt ?k1 ?k2 (by rfl); (case k1 => walk_at "gd e"); (case k2 => walk_at "gd e"))
  | ((with_reducible show PT _ (Expr.Compare _ [CmpOp.LtE] _ _) _); refine' pt_cmpR op_le ?k1 ?k2 (by rfl); (case k1 => walk_at "gd e"); (case k2 => walk_at "gd e"))
  | ((with_reducible show PT _ (Expr.Compare _ [CmpOp.Gt] _ _) _); refine' pt_cmpR op_gt ?k1 ?k2 (by rfl); (case k1 => walk_at "gd e"); (case k2 => walk_at "gd e"))
  | ((with_reducible show PT _ (Expr.Compare _ [CmpOp.GtE] _ _) _); refine' pt_cmpR op_ge ?k1 ?k2 (by rfl); (case k1 => walk_at "gd e"); (case k2 => walk_at "gd e"))
  | ((with_reducible show PT _ (Expr.Compare _ [CmpOp.Eq] _ _) _); refine' pt_cmpR (eqK (by assumption) (by assumption)) ?k1 ?k2 (by rfl); (case k1 => walk_at "gd e"); (case k2 => walk_at "gd e"))
  | ((with_reducible show PT _ (Expr.Compare _ [CmpOp.NotEq] _ _) _); refine' pt_cmpR (neK (by assumption) (by assumption)) ?k1 ?k2 (by rfl); (case k1 => walk_at "gd e"); (case k2 => walk_at "gd e"))
  | ((with_reducible show PT _ (Expr.Compare _ [CmpOp.In] _ _) _); refine' pt_cmpR (inK (by assumption)) ?k1 ?k2 (by rfl); (case k1 => walk_at "gd e"); (case k2 => walk_at "gd e"))
  | ((with_reducible show PT _ (Expr.Compare _ [CmpOp.NotIn] _ _) _); refine' pt_cmpR (niK (by assumption)) ?k1 ?k2 (by rfl); (case k1 => walk_at "gd e"); (case k2 => walk_at "gd e"))
  | (refine' pt_val ?k1; (case k1 => walk_at "gd e")))
local macro_rules | `(tactic| walk_at "gd g") => `(tactic| first
  | ((with_reducible show PG _ (Expr.Name _ _) _); first | exact pg_name (i := 0) (by walk_at "gd nd") rfl (by walk_at "gd lo") | exact pg_name (i := 1) (by walk_at "gd nd") rfl (by walk_at "gd lo") | exact pg_name (i := 2) (by walk_at "gd nd") rfl (by walk_at "gd lo") | exact pg_name (i := 3) (by walk_at "gd nd") rfl (by walk_at "gd lo") | exact pg_name (i := 4) (by walk_at "gd nd") rfl (by walk_at "gd lo") | exact pg_name (i := 5) (by walk_at "gd nd") rfl (by walk_at "gd lo") | exact pg_name (i := 6) (by walk_at "gd nd") rfl (by walk_at "gd lo") | exact pg_name (i := 7) (by walk_at "gd nd") rfl (by walk_at "gd lo") | exact pg_name (i := 8) (by walk_at "gd nd") rfl (by walk_at "gd lo") | exact pg_name (i := 9) (by walk_at "gd nd") rfl (by walk_at "gd lo") | exact pg_name (i := 10) (by walk_at "gd nd") rfl (by walk_at "gd lo") | exact pg_name (i := 11) (by walk_at "gd nd") rfl (by walk_at "gd lo") | exact pg_name (i := 12) (by walk_at "gd nd") rfl (by walk_at "gd lo") | exact pg_name (i := 13) (by walk_at "gd nd") rfl (by walk_at "gd lo"))
  | ((with_reducible show PG _ (Expr.Subscript _ _ _) _); refine' pg_sub ?k1 ?k2 set_list; (case k1 => walk_at "gd e"); (case k2 => walk_at "gd e"))
  | ((with_reducible show PG _ (Expr.Tuple _ _ _) _); refine' pg_tup rfl ?k1; (case k1 => walk_at "gd gs")))
local macro_rules | `(tactic| walk_at "gd gs") => `(tactic| first | exact pgs_nil | (refine' pgs_cons ?k1 ?k2; (case k1 => walk_at "gd g"); (case k2 => walk_at "gd gs")))
local macro_rules | `(tactic| walk_at "gd set") => `(tactic| first | (refine' ps_set (i := 0) (by walk_at "gd nd") rfl (by walk_at "gd lo") ?k1; (case k1 => walk_at "gd e")) | (refine' ps_set (i := 1) (by walk_at "gd nd") rfl (by walk_at "gd lo") ?k1; (case k1 => walk_at "gd e")) | (refine' ps_set (i := 2) (by walk_at "gd nd") rfl (by walk_at "gd lo") ?k1; (case k1 => walk_at "gd e")) | (refine' ps_set (i := 3) (by walk_at "gd nd") rfl (by walk_at "gd lo") ?k1; (case k1 => walk_at "gd e")) | (refine' ps_set (i := 4) (by walk_at "gd nd") rfl (by walk_at "gd lo") ?k1; (case k1 => walk_at "gd e")) | (refine' ps_set (i := 5) (by walk_at "gd nd") rfl (by walk_at "gd lo") ?k1; (case k1 => walk_at "gd e")) | (refine' ps_set (i := 6) (by walk_at "gd nd") rfl (by walk_at "gd lo") ?k1; (case k1 => walk_at "gd e")) | (refine' ps_set (i := 7) (by walk_at "gd nd") rfl (by walk_at "gd lo") ?k1; (case k1 => walk_at "gd e")) | (refine' ps_set (i := 8) (by walk_at "gd nd") rfl (by walk_at "gd lo") ?k1; (case k1 => walk_at "gd e")) | (refine' ps_set (i := 9) (by walk_at "gd nd") rfl (by walk_at "gd lo") ?k1; (case k1 => walk_at "gd e")) | (refine' ps_set (i := 10) (by walk_at "gd nd") rfl (by walk_at "gd lo") ?k1; (case k1 => walk_at "gd e")) | (refine' ps_set (i := 11) (by walk_at "gd nd") rfl (by walk_at "gd lo") ?k1; (case k1 => walk_at "gd e")) | (refine' ps_set (i := 12) (by walk_at "gd nd") rfl (by walk_at "gd lo") ?k1; (case k1 => walk_at "gd e")) | (refine' ps_set (i := 13) (by walk_at "gd nd") rfl (by walk_at "gd lo") ?k1; (case k1 => walk_at "gd e")))
local macro_rules | `(tactic| walk_at "gd os") => `(tactic| fail)
local macro_rules | `(tactic| walk_at "gd slc") => `(tactic| fail)
local macro_rules | `(tactic| walk_at "gd par") => `(tactic| fail)
local macro_rules | `(tactic| walk_at "gd s") => `(tactic| first
  | ((with_reducible show PS _ (Stmt.Return (some _) _) _); refine' ps_ret ?k1; (case k1 => walk_at "gd e"))
  | ((with_reducible show PS _ (Stmt.If _ _ _ _) _); refine' ps_if ?k1 ?k2 ?k3; (case k1 => walk_at "gd t"); (case k2 => walk_at "gd ss"); (case k3 => walk_at "gd ss"))
  | ((with_reducible show PS _ (Stmt.Assign [Expr.Name _ _] (Expr.ListComp _ _ _ _) _) _); walk_at "gd slc")
  | ((with_reducible show PS _ (Stmt.Assign [Expr.Name _ _] _ _) _); walk_at "gd set")
  | ((with_reducible show PS _ (Stmt.Assign [_] _ _) _); refine' ps_asg ?k1 ?k2; (case k1 => walk_at "gd e"); (case k2 => walk_at "gd g"))
  | ((with_reducible show PS _ (Stmt.Assign [_] _ _) _); walk_at "gd par")
  | ((with_reducible show PS _ (Stmt.For _ _ _ _ _) _); refine' ps_for PassesOwn.never rfl ?k1 ?k2 ?k3; (case k1 => walk_at "gd i"); (case k2 => walk_at "gd g"); (case k3 => walk_at "gd ss"))
  | ((with_reducible show PS _ (Stmt.Expr _ _) _); refine' ps_expr ?k1; (case k1 => walk_at "gd e"))
  | walk_at "gd os")
local macro_rules | `(tactic| walk_at "gd ss") => `(tactic| first | exact pss_nil | (refine' pss_one ?k1; (case k1 => walk_at "gd s")) | (refine' pss_cons ?k1 ?k2; (case k1 => walk_at "gd s"); (case k2 => walk_at "gd ss")))
local macro_rules | `(tactic| walk_at "gd cv") => `(tactic| ((with_reducible show PE _ (Expr.ListComp _ [⟨Expr.Name "_law_way" _, _, _, _⟩] _ _) _); refine' pe_lc (own := [("_law_way", 5)]) (g := gName 5) (tt := tYes) rfl (by assumption) ?k1 (blkOk_by (N := nRight) (sc := defScope sRight) (by decide +kernel)) (fun _ _ _ _ _ => pg_name (i := 5) (by assumption) rfl (Or.inl rfl)) (fun _ _ _ _ _ => pts_nil) (fun _ _ _ _ _ => ?k2); (case k1 => walk_at "gd i"); (case k2 => walk_at "gd e")))
local macro_rules | `(tactic| walk_at "gd cv") => `(tactic| ((with_reducible show PE _ (Expr.ListComp _ [⟨Expr.Name "_law_at" _, _, _, _⟩] _ _) _); refine' pe_lc (own := [("_law_at", 6)]) (g := gName 6) (tt := tYes) rfl (by assumption) ?k1 (blkOk_by (N := nRight) (sc := defScope sRight) (by decide +kernel)) (fun _ _ _ _ _ => pg_name (i := 6) (by assumption) rfl (Or.inl rfl)) (fun _ _ _ _ _ => pts_nil) (fun _ _ _ _ _ => ?k2); (case k1 => walk_at "gd i"); (case k2 => walk_at "gd e")))
local macro_rules | `(tactic| walk_at "gd cv") => `(tactic| ((with_reducible show PE _ (Expr.ListComp _ [⟨Expr.Name "_law_k" _, _, _, _⟩] _ _) _); refine' pe_lc (own := [("_law_k", 1)]) (g := gName 1) (tt := tYes) rfl (by assumption) ?k1 (blkOk_by (N := nLaw) (sc := defScope sLaw) (by decide +kernel)) (fun _ _ _ _ _ => pg_name (i := 1) (by assumption) rfl (Or.inl rfl)) (fun _ _ _ _ _ => pts_nil) (fun _ _ _ _ _ => ?k2); (case k1 => walk_at "gd i"); (case k2 => walk_at "gd e")))
local macro_rules | `(tactic| walk_at "gd it") => `(tactic| (refine' tupiK (by assumption) ?k1; (case k1 => walk_at "gd e")))
theorem scRight : FnScope nRight ["_law_pot_here"] (defScope sRight) := ⟨rfl, rfl, rfl, by decide +kernel, rfl, by decide +kernel, by decide +kernel⟩
theorem scLaw : FnScope nLaw ["_law_script"] (defScope sLaw) := ⟨rfl, rfl, rfl, by decide +kernel, rfl, by decide +kernel, by decide +kernel⟩
def spTh : Sp := fun vs H Q E => spT 3 vs H Q E ∨ spT 2 vs H Q E
def dueT (i : Nat) : Str := if i < 2 then "form True" else if i < 4 then "missing True" else if i < 6 then "state True" else "amount True"
def spCaught : Sp := fun vs H Q _ => ∃ (i : Nat) (x : V), vs = [.int i, x] ∧ i < 7 ∧ ∀ H' : Hp, All H H' → Q (.str (dueT i)) H'
def But (p : Addr) (H H' : Hp) : Prop := ∀ b o, b ≠ p → H b = some o → H' b = some o
def spRight : Sp := fun vs H Q _ => ∃ p : Addr, vs = [.ref p] ∧ Pot H p ∧ ∀ H' : Hp, But p H H' → Q (.bl true) H'
def spLaw (K : W.Frag) : Sp := fun vs H Q _ => ∃ (a : Addr) (ns : List Int), vs = [.ref a] ∧ ns.length ≤ 63 ∧ SqL K H a (ns.map V.int) ∧ ∀ H' : Hp, Q (.bl true) H'
theorem dt_of {H H' : Hp} {x : V} {k : Nat} (f : Fr H H' k x) (hk : k ≤ 2) : Dt H' x := by
  obtain ⟨as, t, r, l, n⟩ := f
  refine ⟨as, t, r.deep _ (by omega), Nat.le_trans l ?_, fun b hb => (n b hb).2⟩
  have : bdT k ≤ bdT 2 := Nat.mul_le_mul_left _ (Nat.pow_le_pow_right (by decide) hk)
  exact Nat.le_trans this (by decide)
abbrev stR (p : Addr) (x y : V) (v : Option V) : St := (((L2.start nRight [V.ref p]).set 1 (some x)).set 2 (some y)).set 3 v
theorem dp_strs {K : W.Frag} {H : Hp} : ∀ bs : List Str, DpAll K H (bs.map V.str) (bs.map PyData.str)
  | [] => .nil
  | b :: bs => .cons (.str b) (dp_strs bs)
section
variable {P : Program} {w : World} {K : W.Frag} {mg : Str → Option Value} {base : Heap} {f : Addr} {fd : FuncData}
theorem ok_right (fr : Frees mg) (D1 : Dn P w K mg base CX0 7 "_law_thing" ["_law_pot_here", "_law_deep"] spTh) (D2 : DnG P w K mg base 3 "_law_error_right" aErr spErr) (D3 : Dn P w K mg base CX0 2 "_law_caught" ["_law_at", "_law_odd"] spCaught)
    (F : Fun K "_law_right" "_law_right" sRight f fd) : FnG P w K mg base CX0 8 f fd ["_law_pot_here"] spRight := by
  refine okG F scRight (fun vs H Q E h => ?_) (fun cdv A outer s H vs Q E hG hr h => ⟨?t, ?d, ?r⟩)
  · obtain ⟨p, rfl, _⟩ := h
    rfl
  case d =>
    have nd := scRight.nd
    have isk : IsK K := ⟨trivial⟩
    walk_at "gd ss"
  case r =>
    obtain ⟨p, rfl, hp, q⟩ := h
    refine ⟨_, rfl, .inl ⟨p, rfl, hp, fun x H1 fx k1 => ⟨_, rfl, .inr ⟨p, rfl, k1.pot, fun y H2 fy k2 => ⟨(by show 2 ≤ sizeLine; decide), fun tp htp => ⟨tp, _, rfl, SqT.of upd_same, rfl, _, _, rfl, _, _, rfl, rfl, ?_⟩⟩⟩⟩⟩⟩
    have big : (10000 : Nat) < sizeLine := by decide
    have a3 : All H2 (upd H2 tp (.tup [x, y])) := All.new htp
    have dx : Dt (upd H2 tp (.tup [x, y])) x := (dt_of (fx.kp k2 hp) (by decide)).on a3
    have dy : Dt (upd H2 tp (.tup [x, y])) y := (dt_of fy (by decide)).on a3
    have bt : But p H (upd H2 tp (.tup [x, y])) := fun b o nb h => a3 b o ((k1.trans k2).1 b o nb h)
    generalize upd H2 tp (HO.tup [x, y]) = H3 at dx dy bt ⊢
    clear a3 k1 k2 fx fy
    refine ⟨(by show 2 ≤ sizeLine; decide), fun tq htq => ⟨tq, rfl, ⟨_, SqT.of upd_same⟩, for_tup (xs := [.bl true, .bl false]) (fun i σ H' => (∃ v, σ = stR p x y v) ∧ All H3 H' ∧ H' tq = some (.tup [.bl true, .bl false])) ?_ (fun i σ H' _ h => SqT.of h.2.2) ?_ ?_⟩⟩
    · exact ⟨⟨none, rfl⟩, All.new htq, upd_same⟩
    · rintro i v σ H4 hv ⟨⟨u, rfl⟩, a4, t4⟩
      obtain ⟨c, rfl⟩ : ∃ c, v = .bl c := by
        match i, hv with
        | 0, hv => cases hv; exact ⟨_, rfl⟩
        | 1, hv => cases hv; exact ⟨_, rfl⟩
        | i + 2, hv => simp at hv
      refine ⟨35, rfl, by decide, by decide, fun D hD => lc_range (lo := 0) (n := 35) (fun i H' => H' D = some (.lst ((List.replicate i true).map V.bl)) ∧ All H4 H') ?_ ?_ ?_⟩
      · exact ⟨upd_same, All.new hD⟩
      · rintro j H5 hj ⟨d5, a5⟩
        have ar : (0 : Int) + (j : Int) = j := by omega
        refine ⟨rfl, _, rfl, _, rfl, _, rfl, _, rfl, j, x, y, c, (by show [V.int ((0 : Int) + (j : Int)), x, y, V.bl c] = _; rw [ar]), hj, dx.on (a4.trans a5), dy.on (a4.trans a5), fun H6 a6 => ⟨_, a6 _ _ d5, ?_, ?_, All.over (a5.trans a6) hD⟩⟩
        · simp only [List.length_map, List.length_replicate]
          omega
        · rw [upd_same, List.replicate_succ', List.map_append]
          rfl
      · rintro H5 ⟨d5, a5⟩
        exact ⟨D, List.replicate 35 true, rfl, SqL.of d5, _, rfl, ite2 (fun z => absurd z (by decide)) (fun _ => ⟨⟨_, rfl⟩, a4.trans a5, a5 _ _ t4⟩)⟩
    rintro σ H4 ⟨⟨u, rfl⟩, a4, t4⟩
    have bt4 : But p H H4 := fun b o nb h => a4 b o (bt b o nb h)
    have dx4 := dx.on a4
    refine ⟨(by show 1 ≤ sizeLine; decide), fun l1 h1 => .inr ⟨l1, 2, _, rfl, rfl, upd_same, by decide, by decide, (by show 1 * 2 ≤ sizeLine; decide), fun m1 j1 => ?_⟩⟩
    have f1 : (upd (upd H4 l1 (HO.lst [V.str (Str.ofString "form True")])) m1 (HO.lst (List.replicate (2 : Int).toNat [V.str (Str.ofString "form True")]).flatten)) m1 = some (.lst [V.str (Str.ofString "form True"), V.str (Str.ofString "form True")]) := upd_same
    have A1 : All H4 (upd (upd H4 l1 (HO.lst [V.str (Str.ofString "form True")])) m1 (HO.lst (List.replicate (2 : Int).toNat [V.str (Str.ofString "form True")]).flatten)) := (All.new h1).trans (All.new j1)
    generalize upd (upd H4 l1 (HO.lst [V.str (Str.ofString "form True")])) m1 (HO.lst (List.replicate (2 : Int).toNat [V.str (Str.ofString "form True")]).flatten) = Ha at f1 A1 ⊢
    refine ⟨(by show 1 ≤ sizeLine; decide), fun l2 hh0 => .inr ⟨l2, 2, _, rfl, rfl, upd_same, by decide, by decide, (by show 1 * 2 ≤ sizeLine; decide), fun m2 jj0 => .inr (.inr ⟨m1, m2, _, _, rfl, rfl, All.new jj0 _ _ (All.new hh0 _ _ f1), upd_same, (by show 2 + 2 ≤ sizeLine; decide), fun c1 i0 => ?_⟩)⟩⟩
    have f2 : (upd (upd (upd Ha l2 (HO.lst [V.str (Str.ofString "missing True")])) m2 (HO.lst (List.replicate (2 : Int).toNat [V.str (Str.ofString "missing True")]).flatten)) c1 (HO.lst ([V.str (Str.ofString "form True"), V.str (Str.ofString "form True")] ++ (List.replicate (2 : Int).toNat [V.str (Str.ofString "missing True")]).flatten))) c1 = some (.lst [V.str (Str.ofString "form True"), V.str (Str.ofString "form True"), V.str (Str.ofString "missing True"), V.str (Str.ofString "missing True")]) := upd_same
    have A2 : All H4 (upd (upd (upd Ha l2 (HO.lst [V.str (Str.ofString "missing True")])) m2 (HO.lst (List.replicate (2 : Int).toNat [V.str (Str.ofString "missing True")]).flatten)) c1 (HO.lst ([V.str (Str.ofString "form True"), V.str (Str.ofString "form True")] ++ (List.replicate (2 : Int).toNat [V.str (Str.ofString "missing True")]).flatten))) := A1.trans ((All.new hh0).trans ((All.new jj0).trans (All.new i0)))
    generalize upd (upd (upd Ha l2 (HO.lst [V.str (Str.ofString "missing True")])) m2 (HO.lst (List.replicate (2 : Int).toNat [V.str (Str.ofString "missing True")]).flatten)) c1 (HO.lst ([V.str (Str.ofString "form True"), V.str (Str.ofString "form True")] ++ (List.replicate (2 : Int).toNat [V.str (Str.ofString "missing True")]).flatten)) = Hb at f2 A2 ⊢
    refine ⟨(by show 1 ≤ sizeLine; decide), fun l3 hh1 => .inr ⟨l3, 2, _, rfl, rfl, upd_same, by decide, by decide, (by show 1 * 2 ≤ sizeLine; decide), fun m3 jj1 => .inr (.inr ⟨c1, m3, _, _, rfl, rfl, All.new jj1 _ _ (All.new hh1 _ _ f2), upd_same, (by show 4 + 2 ≤ sizeLine; decide), fun c2 i1 => ?_⟩)⟩⟩
    have f3 : (upd (upd (upd Hb l3 (HO.lst [V.str (Str.ofString "state True")])) m3 (HO.lst (List.replicate (2 : Int).toNat [V.str (Str.ofString "state True")]).flatten)) c2 (HO.lst ([V.str (Str.ofString "form True"), V.str (Str.ofString "form True"), V.str (Str.ofString "missing True"), V.str (Str.ofString "missing True")] ++ (List.replicate (2 : Int).toNat [V.str (Str.ofString "state True")]).flatten))) c2 = some (.lst [V.str (Str.ofString "form True"), V.str (Str.ofString "form True"), V.str (Str.ofString "missing True"), V.str (Str.ofString "missing True"), V.str (Str.ofString "state True"), V.str (Str.ofString "state True")]) := upd_same
    have A3 : All H4 (upd (upd (upd Hb l3 (HO.lst [V.str (Str.ofString "state True")])) m3 (HO.lst (List.replicate (2 : Int).toNat [V.str (Str.ofString "state True")]).flatten)) c2 (HO.lst ([V.str (Str.ofString "form True"), V.str (Str.ofString "form True"), V.str (Str.ofString "missing True"), V.str (Str.ofString "missing True")] ++ (List.replicate (2 : Int).toNat [V.str (Str.ofString "state True")]).flatten))) := A2.trans ((All.new hh1).trans ((All.new jj1).trans (All.new i1)))
    generalize upd (upd (upd Hb l3 (HO.lst [V.str (Str.ofString "state True")])) m3 (HO.lst (List.replicate (2 : Int).toNat [V.str (Str.ofString "state True")]).flatten)) c2 (HO.lst ([V.str (Str.ofString "form True"), V.str (Str.ofString "form True"), V.str (Str.ofString "missing True"), V.str (Str.ofString "missing True")] ++ (List.replicate (2 : Int).toNat [V.str (Str.ofString "state True")]).flatten)) = Hc at f3 A3 ⊢
    refine ⟨(by show 1 ≤ sizeLine; decide), fun l4 h4 => .inr (.inr ⟨c2, l4, _, _, rfl, rfl, All.new h4 _ _ f3, upd_same, (by show 6 + 1 ≤ sizeLine; decide), fun du i4 => ?_⟩)⟩
    have fd' : (upd (upd Hc l4 (HO.lst [V.str (Str.ofString "amount True")])) du (HO.lst ([V.str (Str.ofString "form True"), V.str (Str.ofString "form True"), V.str (Str.ofString "missing True"), V.str (Str.ofString "missing True"), V.str (Str.ofString "state True"), V.str (Str.ofString "state True")] ++ [V.str (Str.ofString "amount True")]))) du = some (.lst (((List.range 7).map dueT).map V.str)) := upd_same
    have Ad : All H4 (upd (upd Hc l4 (HO.lst [V.str (Str.ofString "amount True")])) du (HO.lst ([V.str (Str.ofString "form True"), V.str (Str.ofString "form True"), V.str (Str.ofString "missing True"), V.str (Str.ofString "missing True"), V.str (Str.ofString "state True"), V.str (Str.ofString "state True")] ++ [V.str (Str.ofString "amount True")]))) := A3.trans ((All.new h4).trans (All.new i4))
    generalize upd (upd Hc l4 (HO.lst [V.str (Str.ofString "amount True")])) du (HO.lst ([V.str (Str.ofString "form True"), V.str (Str.ofString "form True"), V.str (Str.ofString "missing True"), V.str (Str.ofString "missing True"), V.str (Str.ofString "state True"), V.str (Str.ofString "state True")] ++ [V.str (Str.ofString "amount True")])) = Hd at fd' Ad ⊢
    refine ⟨7, rfl, by decide, by decide, fun D hD => lc_range (lo := 0) (n := 7) (fun i H' => H' D = some (.lst (((List.range i).map dueT).map V.str)) ∧ All Hd H') ?_ ?_ ?_⟩
    · exact ⟨upd_same, All.new hD⟩
    · rintro j H5 hj ⟨d5, a5⟩
      have ar : (0 : Int) + (j : Int) = j := by omega
      refine ⟨rfl, _, rfl, _, rfl, j, x, (by show [V.int ((0 : Int) + (j : Int)), x] = _; rw [ar]), hj, fun H6 a6 => ⟨_, a6 _ _ d5, ?_, ?_, All.over (a5.trans a6) hD⟩⟩
      · simp only [List.length_map, List.length_range]
        omega
      · rw [upd_same, List.range_succ, List.map_append, List.map_append]
        rfl
    · rintro H5 ⟨d5, a5⟩
      refine ⟨_, rfl, .inr (eqd_same (SqL.of d5) (SqL.of (a5 _ _ fd')) (dp_strs _) (by decide +kernel) (q _ fun b o nb h => a5 b o (Ad b o (bt4 b o nb h))))⟩
theorem ok_law (fr : Frees mg) (D1 : Dn P w K mg base CX0 1 "_law_pot" ["_law_script", "_law_k"] (spPot K)) (D2 : DnG P w K mg base 8 "_law_right" ["_law_pot_here"] spRight)
    (F : Fun K "law" "law" sLaw f fd) : FnG P w K mg base CX0 9 f fd ["_law_script"] (spLaw K) := by
  refine okG F scLaw (fun vs H Q E h => ?_) (fun cdv A outer s H vs Q E hG hr h => ⟨?t, ?d, ?r⟩)
  · obtain ⟨a, ns, rfl, _⟩ := h
    rfl
  case d =>
    have nd := scLaw.nd
    have isk : IsK K := ⟨trivial⟩
    walk_at "gd ss"
  case r =>
    obtain ⟨a, ns, rfl, ln, sq, q⟩ := h
    have gs : ∃ G : Hp → Prop, G H ∧ (∀ H', G H' → SqL K H' a (ns.map V.int)) ∧ ∀ H1 H2, G H1 → (∀ b o, H b ≠ none → H1 b = some o → H2 b = some o) → G H2 := by
      rcases sq with (h | ⟨o, h⟩) | h
      · exact ⟨fun H' => H' a = some (.lst (ns.map V.int)), h, fun H' h => .inl (.inl h), fun H1 H2 g k => k a _ (by rw [h]; simp) g⟩
      · exact ⟨fun H' => H' a = some (.frz o (.lst (ns.map V.int))), h, fun H' h => .inl (.inr ⟨o, h⟩), fun H1 H2 g k => k a _ (by rw [h]; simp) g⟩
      · exact ⟨fun _ => True, trivial, fun H' _ => .inr h, fun _ _ _ _ => trivial⟩
    obtain ⟨G, g0, g1, g2⟩ := gs
    obtain ⟨m, em, m0, m6⟩ : ∃ m : Int, (if (if (6 : Int) < ((ns.map V.int).length : Int) then (6 : Int) else ((ns.map V.int).length : Int)) > 1 then (if (6 : Int) < ((ns.map V.int).length : Int) then (6 : Int) else ((ns.map V.int).length : Int)) else (1 : Int)) = m ∧ 0 ≤ m ∧ m ≤ 6 :=
      ⟨_, rfl, by split <;> split <;> omega, by split <;> split <;> omega⟩
    refine ⟨_, rfl, .inl ⟨a, _, rfl, .inl sq, _, 6, rfl, 1, _, rfl, m, congrArg (fun z => [V.int z]) em, by omega, by omega, fun D hD => ?_⟩⟩
    refine lc_range (lo := 0) (n := m.toNat) (fun i H' => H' D = some (.lst ((List.replicate i true).map V.bl)) ∧ G H') ?_ ?_ ?_
    · exact ⟨upd_same, g2 H _ g0 fun b o _ h => by rw [upd_ne (ne_of_none h hD)]; exact h⟩
    · rintro j H1 hj ⟨d1, s1⟩
      have big : (10000 : Nat) < sizeLine := by decide
      have ar : (0 : Int) + (j : Int) = j := by omega
      refine ⟨rfl, _, rfl, _, rfl, a, ns, (0 : Int) + (j : Int), rfl, g1 _ s1, by omega, by omega, fun p H2 np sm pt => ⟨p, rfl, pt, fun H3 bt => ⟨_, bt D _ (ne_of_none d1 np) (sm _ _ d1), ?_, ?_, ?_⟩⟩⟩
      · simp only [List.length_map, List.length_replicate]
        omega
      · rw [upd_same, List.replicate_succ', List.map_append]
        rfl
      · refine g2 H1 _ s1 fun b o hb h => ?_
        rw [upd_ne (fun z => hb (by rw [z]; exact hD))]
        exact bt b o (ne_of_none h np) (sm b o h)
    · rintro H1 ⟨d1, s1⟩
      refine ⟨D, List.replicate m.toNat true, rfl, SqL.of d1, ?_⟩
      rw [show (List.replicate m.toNat true).all id = true from by simp]
      exact q _
end
end K10

set_option Elab.async false
set_option linter.all false
set_option maxRecDepth 100000
set_option maxHeartbeats 4000000
/-! Own errors raised; a try of several clauses with a name; what is asked of the held error. -/
namespace Gx
open PySem PySem.Spec PyProof.Rows L2 Ge
section
variable {X : Cx} {pins : List (Addr × Obj)} {σ : L2.St} {H : Hp} {s : Shared} {Q : XK} {C e d : Addr} {fs : List (Str × V)} {h' : Heap} {tk : Nat} {m : Str → Option Value}
/-- the heap without the error, its dict told -/
abbrev leftH (H : Hp) (C e d : Addr) (fs : List (Str × V)) : Hp := upd (del (withErr H C e d fs) e) d (.xd fs)
theorem mkp_made (T : Raises X (.ref C)) (I : Inv X pins σ H s) (M : Made s.heap h' e C d m) (r : ∀ y, RelO (fs.lookup y) (m y)) (q : Q (.ref C) (some d) (leftH H C e d fs)) : L2.MkP X pins σ Q (.ref e) { s with heap := h', toks := tk } := by
  obtain ⟨ne, nd, J⟩ := Inv.err (tk := tk) I M r
  have be : ∀ {b : Addr} {o : Obj}, s.heap.get? b = some o → b ≠ e := fun q => Nat.ne_of_lt (Nat.lt_of_lt_of_le (Heap.lt_size q) M.new)
  have bd : ∀ {b : Addr} {o : Obj}, s.heap.get? b = some o → b ≠ d := fun q => Nat.ne_of_lt (Nat.lt_of_lt_of_le (Heap.lt_size q) M.dbig)
  have keepH : ∀ {b : Addr} {o : HO}, H b = some o → withErr H C e d fs b = some o := fun q => by
    show upd (upd H d _) e _ _ = _
    rw [upd_ne (ne_of_none q ne), upd_ne (ne_of_none q nd)]
    exact q
  have offH : ∀ {b : Addr} {o u : HO}, upd H e o b = some u → b ≠ e → H b = some u := fun z n => by rwa [upd_ne n] at z
  obtain ⟨hp, g, dr, t0, os⟩ := s
  refine mk_end T I M.new (fun _ _ q => q) { keep := fun b o q _ _ _ => M.keep b o q, slot := fun b o q _ _ _ => ⟨o.slots, M.keep b o q⟩, free := fun b o q n _ => ?_, there := fun b o q _ => ⟨o, M.keep b o q⟩, tups := fun b xs q => ?_, frzs := fun b o u q => ?_, tbls := fun b ps q => ?_ } J.hok rfl I.bare upd_same ?_ nd q
  · show upd (upd H d _) e _ b = none
    rw [upd_ne (be q)] at n
    rw [upd_ne (be q), upd_ne (bd q)]
    exact n
  · have n : b ≠ e := fun z => by
      rw [z, upd_same] at q
      exact exo_tup (Option.some.inj q)
    exact keepH (offH q n)
  · have n : b ≠ e := fun z => by
      rw [z, upd_same] at q
      exact exo_frz (Option.some.inj q)
    exact keepH (offH q n)
  · have n : b ≠ e := fun z => by
      rw [z, upd_same] at q
      exact exo_tbl (Option.some.inj q)
    exact ⟨#[], (keepH (offH q n)).trans (by simp)⟩
  · show upd (upd H d _) e _ d = _
    rw [upd_ne M.dne]
    exact upd_same
end
section
variable {X : Cx} {C : Addr} {x f f2 : Str} {e : Expr} {es : List Expr} {ta : TA} {p pos : Pos} {k : Nat}
theorem pmk1 (T : E1 X.K C f) (rs : Raises X (.ref C)) (hr : Room k X.A) (hg : Gl X x) (hm : X.mg x = some (.ref C)) (ha : PA X (e :: es) ta) (hdb : (x == ("__debug__" : Str)) = false := by decide)
    (hs : starEach (e :: es) X.env = (false, eval e X.env) :: starEach es X.env := by rfl) (hpl : (backTo pos (starEach es X.env)).any (·.1) = false := by rfl) :
    L2.PMk X (.Call (.Name x p) (e :: es) [] pos) (fun σ H Q => ta σ H fun vs H1 => ∃ v, vs = [v] ∧ ∀ a d, H1 a = none → H1 d = none → d ≠ a → Q (.ref C) (some d) (leftH H1 C a d [(f, v)])) := by
  intro pins s σ H Q I h
  refine wpAny_Call_Name_kw (ld_glob I hg hm ?_ hdb)
  refine PySem.W.callWith_K (h₀ := X.base) I.ok.mod.kin T.keep (thn (ha.run pos pins s σ H _ I h) fun us s1 ⟨vs, H1, I1, r, v, ev, q⟩ => ⟨I1.kIn, ?_⟩) hs hpl
  subst ev
  obtain ⟨u, rfl, ru⟩ := vals1 r
  refine wpAny_call (T.does (.inl ⟨rfl, rfl⟩) I1.kIn I1.nolimit (by have := hr.dp; omega) (fun h' tk a d M => ?_))
  have z := Inv.err (tk := tk) I1 M (relO_one ru f)
  exact mkp_made rs I1 M (relO_one ru f) (q a d z.1 z.2.1 M.dne)
theorem pmk2 (T : E2 X.K C f f2) (rs : Raises X (.ref C)) (hr : Room k X.A) (hg : Gl X x) (hm : X.mg x = some (.ref C)) (ha : PA X (e :: es) ta) (hdb : (x == ("__debug__" : Str)) = false := by decide)
    (hs : starEach (e :: es) X.env = (false, eval e X.env) :: starEach es X.env := by rfl) (hpl : (backTo pos (starEach es X.env)).any (·.1) = false := by rfl) :
    L2.PMk X (.Call (.Name x p) (e :: es) [] pos) (fun σ H Q => ta σ H fun vs H1 => ∃ v v2, vs = [v, v2] ∧ ∀ a d, H1 a = none → H1 d = none → d ≠ a → Q (.ref C) (some d) (leftH H1 C a d [(f2, v2), (f, v)])) := by
  intro pins s σ H Q I h
  refine wpAny_Call_Name_kw (ld_glob I hg hm ?_ hdb)
  refine PySem.W.callWith_K (h₀ := X.base) I.ok.mod.kin T.keep (thn (ha.run pos pins s σ H _ I h) fun us s1 ⟨vs, H1, I1, r, v, v2, ev, q⟩ => ⟨I1.kIn, ?_⟩) hs hpl
  subst ev
  obtain ⟨u, u2, rfl, ru, ru2⟩ := vals2 r
  refine wpAny_call (T.does (.inl ⟨rfl, rfl⟩) I1.kIn I1.nolimit (by have := hr.dp; omega) (fun h' tk a d M => ?_))
  have z := Inv.err (tk := tk) I1 M (relO_two ru ru2 f f2)
  exact mkp_made rs I1 M (relO_two ru ru2 f f2) (q a d z.1 z.2.1 M.dne)
theorem pmk0 (T : E0c X.K C) (rs : Raises X (.ref C)) (hg : Gl X x) (hm : X.mg x = some (.ref C)) (hdb : (x == ("__debug__" : Str)) = false := by decide) :
    L2.PMk X (.Call (.Name x p) [] [] pos) (fun _ H Q => Q (.ref C) none H) := by
  intro pins s σ H Q I h
  refine wpAny_Call_Name_kw (ld_glob I hg hm ?_ hdb)
  refine PySem.W.callWith_K0 I.kIn T.keep ?_
  refine T.does I.kIn (fun h' a t kp new he => ?_)
  obtain ⟨hp, g, dr, tk, os⟩ := s
  have gone : hp.get? a = none := by
    cases z : hp.get? a with
    | none => rfl
    | some o => exact absurd (Heap.lt_size z) (Nat.not_lt.mpr new)
  exact ⟨a, _, _, ⟨hp, g, dr, tk, os⟩, H, .ref C, none, rfl, I, kp, gone, he, ⟨rfl, rfl⟩, rfl, rfl, I.hok.fresh new, rfl, I.bare, rs, h⟩
end

/-! ### try: body, several clauses 'except x as n' -/
/-- what the clauses wish, one after the other -/
def wMAs (K : PySem.W.Frag) (i : Nat) (Wout : WX) (D : Ends) : List (Value × (Addr → Value → Option Addr → TS)) → WX
  | [] => Wout
  | (c, ts) :: r => wAs K c i ts (wMAs K i Wout D r) D
inductive HdsAs (X : Cx) (n : Str) : List ExceptHandler → List (Value × (Addr → Value → Option Addr → TS)) → Prop
  | nil : HdsAs X n [] []
  | cons {x : Str} {c : Value} {ts : Addr → Value → Option Addr → TS} {b₀ : Stmt} {suite : List Stmt} {np pos' : Pos} {hds : List ExceptHandler} {l : List (Value × (Addr → Value → Option Addr → TS))} (hc : Names X x c)
      (hsu : ∀ (a : Addr) (oe : Obj) (cls : Value) (d : Option Addr) (pn : List (Addr × Obj)), Zc cls d oe → (∃ vs, oe.data = .fields vs) → PSs (X.suite a ((a, oe) :: pn)) (b₀ :: suite) (ts a cls d)) (r : HdsAs X n hds l) :
      HdsAs X n (.ExceptHandler (some (.Name x np)) (some n) (b₀ :: suite) pos' :: hds) ((c, ts) :: l)
section
variable {X : Cx} {n : Str} {i : Nat} {body : List Stmt} {pos : Pos} {tb : WX → TS} {Wout : WX} {pins : List (Addr × Obj)} {D : Ends}
/-- the clauses are gone through with the error at a on the ground -/
theorem hands_go {a : Addr} {B : Heap} {sI s' : Shared} {σ' : L2.St} {H' : Hp} {cls : Value} {d : Option Addr} {h3 : Heap} (hs : X.stack = X.env :: X.outer) (hf : X.env.frame = some X.env.locals) (hN : X.N.Nodup) (hi : X.N[i]? = some n) (hln : X.env.kindOf n = some .local)
    (tk : Takes X Wout) (ok : X.Ok) (J : Inv X pins σ' H' sI) (nb : ∀ b o, sI.heap.get? b = some o → b ∉ frs X.stack → B.get? b = some o) (up : sI.heap.UpToSlots h3) (fl : HandSPX.FlyingZ B (X.env :: X.outer) a (Zc cls d) h3) (na : H' a = none) (os : s'.os = sI.os) (ag : AllBare s'.gens) :
    ∀ {hds : List ExceptHandler} {l : List (Value × (Addr → Value → Option Addr → TS))}, HdsAs X n hds l → wMAs X.K i Wout D l cls d σ' H' → wpAny (model X.prog X.w) X.A (handleBy (.ref a) X.env hds) (SP X pins D) X.xe { s' with heap := h3 } := by
  have J3 : Inv X pins σ' H' { s' with heap := h3 } := J.landed nb fl.1 up os ag
  obtain ⟨oe, vs, he, hz, hd⟩ := fl.there
  have off : a ∉ frs (X.env :: X.outer) := fun hm => by
    obtain ⟨_, o, e, hnf⟩ := fl.2.2.1.mem hm
    rw [he] at e
    cases e
    exact hnf _ hd
  have nL : a ≠ X.env.locals := fun z => off (List.mem_filterMap.mpr ⟨X.env, List.mem_cons_self, by rw [hf, z]⟩)
  have nF : a ∉ X.fs := fun hm => by
    obtain ⟨e, q, z⟩ := List.mem_filterMap.mp hm
    exact off (List.mem_filterMap.mpr ⟨e, List.mem_cons_of_mem _ q, z⟩)
  intro hds l hk
  induction hk with
  | nil =>
    intro w
    refine wpAny_handleBy_nil ?_
    obtain ⟨_, _, _, o1, v1, T, _, _, e1, _, d1, f1, _⟩ := id fl
    unfold PySem.passOn
    refine wpAny_bind (wpAny_field e1 d1 f1 ?_)
    rw [if_neg (show ¬((Value.ref T == Value.none) = true) from by simp)]
    have out : wpAny (model X.prog X.w) X.A (setFlight (.ref a) X.env.frame) (fun _ s4 => wpAny (model X.prog X.w) X.A (throw (.ref a) : Sem Flow) (SP X pins D) X.xe s4) X.xe { s' with heap := h3 } := by
      rw [hf]
      exact HandSPX.setFlight_upZ fl fun h4 held up4 => wpAny_throw (tk _ _ ⟨a, B, sI, pins, σ', H', cls, d, rfl, J, nb, up.trans up4, .inr (.inr (by rw [hs]; exact held)), na, os, ag, w⟩)
    first
      | exact wpAny_bind (wpAny_pure (wpAny_bind out))
      | exact wpAny_bind out
  | @cons x c ts b₀ suite np pos' hds2 l2 hc hsu r ih =>
    rintro ⟨b, isB, yes, no⟩
    have S3 := J3.suite he hd na nL nF
    refine wpAny_handleBy_cons (codeAny_handlers_test ?_) (by intro q; cases q)
    have LM := PySem.W.exm_one (M := model X.prog X.w) J3.kIn (fun A Q E s k q => wpAny_typeOf_ref (k _ _ he) (by rw [hz.1]; exact q)) isB
    have name : ∀ {Q : Value → Shared → Prop} {E : Value → Shared → Prop}, Q c { s' with heap := h3 } → wpAny (model X.prog X.w) (X.A.mark (some (.ref a))) (eval (.Name x np) X.env) Q E { s' with heap := h3 } := fun {Q E} q => by
      obtain ⟨g, gd, m | ⟨m, v, nn⟩⟩ := hc
      · exact ld_glob (X := X.suite a ((a, oe) :: (X.pn ++ pins))) S3 g m q gd
      · exact ld_blt (X := X.suite a ((a, oe) :: (X.pn ++ pins))) S3 g m v q nn gd
    refine name (LM.here ?_)
    cases b with
    | false =>
      show wpAny _ X.A (handleBy (.ref a) X.env hds2) _ _ _
      exact ih (no rfl)
    | true =>
      refine codeAny_handlers_suite_as (HandSPX.lands_againZ fl fun h4 fl4 up4 => ?_)
      obtain ⟨oe4, vs4, he4, hz4, hd4⟩ := fl4.there
      have J4 : Inv X pins σ' H' { s' with heap := h4 } := J.landed nb fl4.1 (up.trans up4) os ag
      refine store_ok (X := X.suite a ((a, oe4) :: (X.pn ++ pins))) (v := .ref a) (J4.suite he4 hd4 na nL nF) hN hi (.inl hln) rfl (fun s5 S5 => ?_) (.inr hln)
      refine wpAny_mono ((hsu a oe4 cls d (X.pn ++ pins) hz4 ⟨_, hd4⟩).run [] s5 _ H' _ S5 (yes rfl a na)) (fun fl6 s6 hsp => ?_) (fun _ _ z => z.elim)
      have over : ∀ {σ6 : L2.St} {H6 : Hp} {Q : Shared → Prop}, Inv (X.suite a ((a, oe4) :: (X.pn ++ pins))) [] σ6 H6 s6 → (∀ s7, Inv X pins (σ6.set i none) H6 s7 → Q s7) →
          wpAny (model X.prog X.w) X.A (do bindName X.env n .none; unbindBehindTheSuite X.env n pos') (fun _ s7 => Q s7) X.xe s6 := fun S6 q => gone_ok (S6.unsuite ok) hN hi hln q
      cases fl6 with
      | ret u =>
        obtain ⟨v6, σ6, H6, S6, r6, q6⟩ := hsp
        exact over S6 fun s7 J7 => ⟨_, _, _, J7, r6, q6⟩
      | next =>
        obtain ⟨σ6, H6, S6, q6⟩ := hsp
        exact over S6 fun s7 J7 => ⟨_, _, J7, q6⟩
      | brk =>
        obtain ⟨σ6, H6, S6, q6⟩ := hsp
        exact over S6 fun s7 J7 => ⟨_, _, J7, q6⟩
      | cont =>
        obtain ⟨σ6, H6, S6, q6⟩ := hsp
        exact over S6 fun s7 J7 => ⟨_, _, J7, q6⟩
theorem ps_tryAs {h₀ : ExceptHandler} {hds : List ExceptHandler} {l : List (Value × (Addr → Value → Option Addr → TS))} (hs : X.stack = X.env :: X.outer) (hf : X.env.frame = some X.env.locals) (hN : X.N.Nodup) (hi : X.N[i]? = some n) (hln : X.env.kindOf n = some .local) (tk : Takes X Wout)
    (hb : ∀ (W : WX) (pn : List (Addr × Obj)) (xe : Value → Shared → Prop), Takes (X.tr pn xe) W → PSs (X.tr pn xe) body (tb W)) (hh : HdsAs X n (h₀ :: hds) l) :
    PS X (.Try body (h₀ :: hds) [] [] pos) (fun D σ H => tb (wMAs X.K i Wout D l) D σ H) := by
  refine ⟨fun pins s σ H D I h => wpAny_Try_except ?_⟩
  have ok := I.ok
  have hfr : X.A.frames = some (X.env :: X.outer) := by rw [ok.frames, hs]
  have run := (hb (wMAs X.K i Wout D l) (X.pn ++ pins) (fun e s₁ => wpAny (model X.prog X.w) X.A (noteFrame e X.env) (fun _ s₂ => wpAny (model X.prog X.w) X.A (setFlight e none) (fun _ s₃ =>
    wpAny (model X.prog X.w) X.A (handleBy e X.env (h₀ :: hds)) (SP X pins D) X.xe s₃) X.xe s₂) X.xe s₁) (fun u s' xx => by
      obtain ⟨a, B, sI, pins', σ', H', cls, d, rfl, J', nb, up, sky, na, os, ag, w⟩ := xx
      refine Sky.land Zc.steady hfr hf (by rw [← hs]; exact sky) fun h3 fl3 up3 => ?_
      exact hands_go hs hf hN hi hln tk ok (J'.ofTry ok) nb (up.trans up3) fl3 na os ag hh w)).run [] s σ H D (I.toTry _) h
  refine wpAny_mono run (fun f s1 hsp => ?_) (fun e s1 he => he)
  cases f with
  | ret u =>
    obtain ⟨v, σ', H', J', r, q⟩ := hsp
    exact ⟨v, σ', H', J'.ofTry ok, r, q⟩
  | next =>
    obtain ⟨σ', H', J', q⟩ := hsp
    exact wpAny_execs_nil ⟨σ', H', J'.ofTry ok, q⟩
  | brk =>
    obtain ⟨σ', H', J', q⟩ := hsp
    exact ⟨σ', H', J'.ofTry ok, q⟩
  | cont =>
    obtain ⟨σ', H', J', q⟩ := hsp
    exact ⟨σ', H', J'.ofTry ok, q⟩
end

/-! ### the held error -/
/-- isinstance(e, c) | isinstance(e, (c, ..)), e the held one of the class at C -/
def rHeld (K : PySem.W.Frag) (a : Addr) (cls : Value) (d : Option Addr) : List V → Hp → VK → Prop := fun xs H Q => ∃ (C : Addr) (c : V) (b : Bool), xs = [.ref a, c] ∧ cls = .ref C ∧ EA K C ∧ (∀ dx, d = some dx → ∃ fs, H dx = some (.xd fs)) ∧
  ((∃ u, ClsV c u ∧ PySem.W.kitOne K (.ref C) u = some b) ∨ (∃ tp cs us, c = .ref tp ∧ H tp = some (.tup cs) ∧ Paired ClsV cs us ∧ PySem.W.kitAny K (.ref C) us = some b)) ∧ Q (.bl b) H
theorem call_held {X : Cx} {a : Addr} {oe : Obj} {cls : Value} {d : Option Addr} (hp : (a, oe) ∈ X.pn) (z : Zc cls d oe) (hf : ∃ vs, oe.data = .fields vs) : CallR X (.builtin "isinstance") (rHeld X.K a cls d) := by
  intro pins s σ H xs us Q I r h
  obtain ⟨C, c, b, rfl, rfl, T, hd, hc, q⟩ := h
  obtain ⟨u1, u2, rfl, r1, r2⟩ := vals2 r
  obtain rfl : u1 = Value.ref a := r1
  have ho := (I.pin (a, oe) (List.mem_append_left _ hp)).1
  obtain ⟨z1, z2⟩ := z
  have cl : (PySem.W.clsIn X.K C).isSome = true := by
    obtain ⟨cd, z, _⟩ := PySem.W.any_some T.hd
    rw [z]
    rfl
  have go : ∀ od, PySem.W.InstAt s.heap a oe C od → wpAny (model X.prog X.w) X.A (call (.builtin "isinstance") [.ref a, u2]) (EP X pins σ Q) X.xe s := fun od J => by
    rcases hc with ⟨u, hu, hk⟩ | ⟨tp, cs, ws, rfl, ht, k, hk⟩
    · have e2 := hu.eq r2
      subst e2
      exact PySem.W.kia_one (PySem.W.kitx_exc cl T.ga T.gg T.exC T.cl T.gt T.tk T.ob) I.kIn J hk (fun z => nomatch z) fun tk => ⟨.bl b, H, I.tok tk, rfl, q⟩
    · obtain rfl : u2 = Value.ref tp := r2
      obtain ⟨_, its, rv, o, h1, h2, n, h3⟩ := (show ObjOk X.prog X.w H s.heap tp (.tup cs) from I.hok tp _ ht)
      have e3 := ClsV.all k rv
      subst e3
      obtain ⟨oc, od2, dt, sl⟩ := o
      simp only at h2 h3
      subst h2 h3
      exact PySem.W.kia_tup (PySem.W.kitx_exc cl T.ga T.gg T.exC T.cl T.gt T.tk T.ob) I.kIn J h1 hk (fun z => nomatch z) fun tk => ⟨.bl b, H, I.tok tk, rfl, q⟩
  obtain ⟨vs, hv⟩ := hf
  obtain ⟨oc, dd, dt, sl⟩ := oe
  simp only at z1 z2 hv
  subst z1 z2 hv
  cases dd with
  | none => exact go none ⟨ho, rfl, rfl, trivial⟩
  | some dx =>
    obtain ⟨fs, hx⟩ := hd dx rfl
    obtain ⟨mA, hn, _⟩ := (show ObjOk X.prog X.w H s.heap dx (.xd fs) from I.hok dx _ hx)
    obtain ⟨od, hod, _⟩ := lookIn_ns hn
    exact go (some od) ⟨ho, rfl, rfl, hod⟩
/-- repr of a truth -/
def rReprB : List V → Hp → VK → Prop := fun xs H Q => ∃ b : Bool, xs = [.bl b] ∧ Q (.str (if b then "True" else "False")) H
theorem call_reprB {X : Cx} : CallR X (.builtin "repr") rReprB := by
  intro pins s σ H xs us Q I r h
  obtain ⟨b, rfl, q⟩ := h
  obtain ⟨u, rfl, ru⟩ := vals1 r
  obtain rfl : u = Value.bool b := ru
  exact PySem.P.repr_of_bool ⟨.str _, H, I.tok _, ⟨_, rfl⟩, q⟩
end Gx

set_option Elab.async false
set_option linter.all false
set_option maxRecDepth 100000
set_option maxHeartbeats 4000000
namespace K10
open PySem PySem.Spec L2 Gd
abbrev sRaised : Stmt := top 54
abbrev sCaught : Stmt := top 55
abbrev nCaught : List Str := ["_law_at", "_law_odd", "_law_told", "_law_e"]
structure Rsd (K : W.Frag) : Prop where
  sub : ∀ n, n < 35 → W.subIn K (.ref (He.ga K (cn n))) (.type "BaseException") = some true
  ty : ∀ n, n < 35 → W.typeIn K (.ref (He.ga K (cn n))) = some (.type "type")
theorem raisesBy {X : Cx} {K : W.Frag} (h : Rsd K) (n : Nat) (hn : n < 35) (x : Str) (e : x = cn n) (hK : X.K = K := by rfl) : Raises X (.ref (He.ga K x)) := by
  subst hK
  subst e
  exact raises_own (h.sub n hn) (h.ty n hn)

/-! ### derivations by the text's shape -/
local macro_rules | `(tactic| walk_at "gd nd") => `(tactic| assumption)
local macro_rules | `(tactic| walk_at "gd lo") => `(tactic| first | exact Or.inl rfl | exact Or.inr rfl)
local macro_rules | `(tactic| walk_at "gd var") => `(tactic| first | exact pv 0 | exact pv 1 | exact pv 2 | exact pv 3 | exact pv 4 | exact pv 5 | exact pv 6 | exact pv 7 | exact pv 8 | exact pv 9 | exact pv 10 | exact pv 11 | exact pv 12 | exact pv 13 | exact pe_glob rfl (by assumption) rfl | exact pe_glob (v := V.ref (He.ga _ _)) rfl (Globs.h (by assumption) _ (by decide +kernel)) rfl | exact pe_bltn (v := V.ty _) rfl (Frees.h (by assumption) _ (by decide +kernel)) (by rfl) rfl | exact pe_bltn rfl (Frees.h (by assumption) _ (by decide +kernel)) (by decide +kernel) rfl)
local macro_rules | `(tactic| walk_at "gd a") => `(tactic| first | exact pa_nil | (refine' pa_cons ?k1 ?k2; (case k1 => walk_at "gd e"); (case k2 => walk_at "gd a")))
local macro_rules | `(tactic| walk_at "gd blt") => `(tactic| first
  | ((with_reducible show PE _ (Expr.Call (Expr.Name "abs" _) _ _ _) _); refine' pe_callB call_abs rfl (Frees.h (by assumption) _ (by decide +kernel)) (by decide +kernel) ?k1; (case k1 => walk_at "gd a"))
  | ((with_reducible show PE _ (Expr.Call (Expr.Name "max" _) _ _ _) _); refine' pe_callB (call_max2 rfl) rfl (Frees.h (by assumption) _ (by decide +kernel)) (by decide +kernel) ?k1; (case k1 => walk_at "gd a"))
  | ((with_reducible show PE _ (Expr.Call (Expr.Name "min" _) _ _ _) _); refine' pe_callB (call_min2 rfl) rfl (Frees.h (by assumption) _ (by decide +kernel)) (by decide +kernel) ?k1; (case k1 => walk_at "gd a"))
  | ((with_reducible show PE _ (Expr.Call (Expr.Name "len" _) _ _ _) _); refine' pe_callB (lenK (by assumption)) rfl (Frees.h (by assumption) _ (by decide +kernel)) (by decide +kernel) ?k1; (case k1 => walk_at "gd a"))
  | ((with_reducible show PE _ (Expr.Call (Expr.Name "divmod" _) _ _ _) _); refine' pe_callB call_divmod rfl (Frees.h (by assumption) _ (by decide +kernel)) (by decide +kernel) ?k1; (case k1 => walk_at "gd a"))
  | ((with_reducible show PE _ (Expr.Call (Expr.Name "all" _) _ _ _) _); refine' pe_callB (allK (by assumption) rfl) rfl (Frees.h (by assumption) _ (by decide +kernel)) (by decide +kernel) ?k1; (case k1 => walk_at "gd a"))
  | ((with_reducible show PE _ (Expr.Call (Expr.Name "isinstance" _) _ _ _) _); refine' pe_callB (isXK (by assumption)) rfl (Frees.h (by assumption) _ (by decide +kernel)) (by decide +kernel) ?k1; (case k1 => walk_at "gd a"))
  | ((with_reducible show PE _ (Expr.Call (Expr.Name "repr" _) _ _ _) _); refine' pe_callB (call_repr (by assumption) (by assumption)) rfl (Frees.h (by assumption) _ (by decide +kernel)) (by decide +kernel) ?k1; (case k1 => walk_at "gd a"))
  | ((with_reducible show PE _ (Expr.Call (Expr.Name "int" _) _ _ _) _); refine' pe_callTy call_int1 rfl (Frees.h (by assumption) _ (by decide +kernel)) (by decide +kernel) ?k1; (case k1 => walk_at "gd a"))
  | ((with_reducible show PE _ (Expr.Call (Expr.Name "tuple" _) _ _ _) _); refine' pe_callTy (tupK (by assumption)) rfl (Frees.h (by assumption) _ (by decide +kernel)) (by decide +kernel) ?k1; (case k1 => walk_at "gd a")))
local macro_rules | `(tactic| walk_at "gd call") => `(tactic| first
  | walk_at "gd blt"
  | (refine' pe_dn (by assumption) (by assumption) rfl (by first | decide | omega) ?k1; (case k1 => walk_at "gd a"))
  | (refine' pe_dnG (by assumption) (by assumption) (by assumption) rfl (by first | decide | omega) ?k1; (case k1 => walk_at "gd a"))
  | walk_at "gd own")
local macro_rules | `(tactic| walk_at "gd own") => `(tactic| fail)
local macro_rules | `(tactic| walk_at "gd it") => `(tactic| fail)
local macro_rules | `(tactic| walk_at "gd i") => `(tactic| first
  | ((with_reducible show PI _ _ (Expr.Call (Expr.Name "range" _) [_] _ _) _); refine' pi_range1 rfl (Frees.h (by assumption) _ (by decide +kernel)) ?k1; (case k1 => walk_at "gd a"))
  | walk_at "gd it")
local macro_rules | `(tactic| walk_at "gd cv") => `(tactic| fail)
local macro_rules | `(tactic| walk_at "gd lc") => `(tactic| walk_at "gd cv")
local macro_rules | `(tactic| walk_at "gd e") => `(tactic| first
  | ((with_reducible show PE _ (Expr.Constant _ _ _) _); first | exact pe_int | exact pe_str | exact pe_bl | exact pe_non)
  | ((with_reducible show PE _ (Expr.Name _ _) _); walk_at "gd var")
  | ((with_reducible show PE _ (Expr.BinOp _ Operator.Add _ _) _); refine' pe_op op_addA ?k1 ?k2; (case k1 => walk_at "gd e"); (case k2 => walk_at "gd e"))
  | ((with_reducible show PE _ (Expr.BinOp _ Operator.Sub _ _) _); refine' pe_op op_sub ?k1 ?k2; (case k1 => walk_at "gd e"); (case k2 => walk_at "gd e"))
  | ((with_reducible show PE _ (Expr.BinOp _ Operator.Mult _ _) _); refine' pe_op op_mulA ?k1 ?k2; (case k1 => walk_at "gd e"); (case k2 => walk_at "gd e"))
  | ((with_reducible show PE _ (Expr.BinOp _ Operator.Mod _ _) _); refine' pe_op op_mod ?k1 ?k2; (case k1 => walk_at "gd e"); (case k2 => walk_at "gd e"))
  | ((with_reducible show PE _ (Expr.BinOp _ Operator.FloorDiv _ _) _); refine' pe_op op_fdivW ?k1 ?k2; (case k1 => walk_at "gd e"); (case k2 => walk_at "gd e"))
  | ((with_reducible show PE _ (Expr.BinOp _ Operator.Pow _ _) _); refine' pe_op op_pow ?k1 ?k2; (case k1 => walk_at "gd e"); (case k2 => walk_at "gd e"))
  | ((with_reducible show PE _ (Expr.UnaryOp UnaryOp.USub _ _) _); refine' pe_un un_neg ?k1; (case k1 => walk_at "gd e"))
  | ((with_reducible show PE _ (Expr.UnaryOp UnaryOp.Not _ _) _); refine' pe_not ?k1; (case k1 => walk_at "gd e"))
  | ((with_reducible show PE _ (Expr.Compare _ [CmpOp.Lt] _ _) _); refine' pe_cmpR op_lt ?k1 ?k2 (by rfl); (case k1 => walk_at "gd e"); (case k2 => walk_at "gd e"))
  | ((with_reducible show PE _ (Expr.Compare _ [CmpOp.LtE] _ _) _); refine' pe_cmpR op_le ?k1 ?k2 (by rfl); (case k1 => walk_at "gd e"); (case k2 => walk_at "gd e"))
  | ((with_reducible show PE _ (Expr.Compare _ [CmpOp.Gt] _ _) _); refine' pe_cmpR op_gt ?k1 ?k2 (by rfl); (case k1 => walk_at "gd e"); (case k2 => walk_at "gd e"))
  | ((with_reducible show PE _ (Expr.Compare _ [CmpOp.GtE] _ _) _); refine' pe_cmpR op_ge ?k1 ?k2 (by rfl); (case k1 => walk_at "gd e"); (case k2 => walk_at "gd e"))
  | ((with_reducible show PE _ (Expr.Compare _ [CmpOp.Eq] _ _) _); refine' pe_cmpR (eqK (by assumption) (by assumption)) ?k1 ?k2 (by rfl); (case k1 => walk_at "gd e"); (case k2 => walk_at "gd e"))
  | ((with_reducible show PE _ (Expr.Compare _ [CmpOp.NotEq] _ _) _); refine' pe_cmpR (neK (by assumption) (by assumption)) ?k1 ?k2 (by rfl); (case k1 => walk_at "gd e"); (case k2 => walk_at "gd e"))
  | ((with_reducible show PE _ (Expr.Compare _ [CmpOp.In] _ _) _); refine' pe_cmpR (inK (by assumption)) ?k1 ?k2 (by rfl); (case k1 => walk_at "gd e"); (case k2 => walk_at "gd e"))
  | ((with_reducible show PE _ (Expr.Compare _ [CmpOp.NotIn] _ _) _); refine' pe_cmpR (niK (by assumption)) ?k1 ?k2 (by rfl); (case k1 => walk_at "gd e"); (case k2 => walk_at "gd e"))
  | ((with_reducible show PE _ (Expr.IfExp _ _ _ _) _); refine' pe_ifExp ?k1 ?k2 ?k3; (case k1 => walk_at "gd t"); (case k2 => walk_at "gd e"); (case k3 => walk_at "gd e"))
  | ((with_reducible show PE _ (Expr.Subscript _ (Expr.Slice none (some _) none _) _) _); refine' pe_slice sl_str ?k1 po_none (po_some ?k2); (case k1 => walk_at "gd e"); (case k2 => walk_at "gd e"))
  | ((with_reducible show PE _ (Expr.Subscript _ _ _) _); refine' pe_ix (ixK (by assumption)) ?k1 ?k2 (fun _ _ => rfl); (case k1 => walk_at "gd e"); (case k2 => walk_at "gd e"))
  | ((with_reducible show PE _ (Expr.List _ _) _); refine' pe_lst ?k1; (case k1 => walk_at "gd a"))
  | ((with_reducible show PE _ (Expr.Tuple _ _ _) _); refine' pe_tup ?k1; (case k1 => walk_at "gd a"))
  | ((with_reducible show PE _ (Expr.Dict [] [] _) _); exact pe_dnewK)
  | ((with_reducible show PE _ (Expr.Dict [_] [_] _) _); refine' pe_disp (pps_cons ?k1 ?k2 pps_nil) rfl rfl (fun z => by cases z) (by decide); (case k1 => walk_at "gd e"); (case k2 => walk_at "gd e"))
  | ((with_reducible show PE _ (Expr.Call (Expr.Attribute _ "join" _) _ _ _) _); refine' joinK (by assumption) ?k1 ?k2; (case k1 => walk_at "gd e"); (case k2 => walk_at "gd e"))
  | ((with_reducible show PE _ (Expr.Call (Expr.Attribute _ "append" _) _ _ _) _); refine' pe_bm PySem.F.plainAttrs_list PySem.F.slot_list_append PySem.F.type_list_append mt_append ?k1 ?k2; (case k1 => walk_at "gd e"); (case k2 => walk_at "gd a"))
  | ((with_reducible show PE _ (Expr.Attribute _ _ _) _); refine' efK (by assumption) ?k1; (case k1 => walk_at "gd e"))
  | ((with_reducible show PE _ (Expr.ListComp _ _ _ _) _); walk_at "gd lc")
  | walk_at "gd call")
local macro_rules | `(tactic| walk_at "gd t") => `(tactic| first
  | ((with_reducible show PT _ (Expr.UnaryOp UnaryOp.Not _ _) _); refine' pt_not ?k1; (case k1 => walk_at "gd t"))
  | ((with_reducible show PT _ (Expr.BoolOp BoolOp.And [_, _] _) _); refine' PW.pt (pw_and ?k1 (pw_and1 ?k2)); (case k1 => walk_at "gd t"); (case k2 => walk_at "gd t"))
  | ((with_reducible show PT _ (Expr.BoolOp BoolOp.Or [_, _] _) _); refine' PW.pt (pw_or ?k1 (pw_or1 ?k2)); (case k1 => walk_at "gd t"); (case k2 => walk_at "gd t"))
  | ((with_reducible show PT _ (Expr.Compare _ [CmpOp.Lt] _ _) _); refine' pt_cmpR op_lt ?k1 ?k2 (by rfl); (case k1 => walk_at "gd e"); (case k2 => walk_at "gd e"))
  | ((with_reducible show PT _ (Expr.Compare _ [CmpOp.LtE] _ _) _); refine' pt_cmpR op_le ?k1 ?k2 (by rfl); (case k1 => walk_at "gd e"); (case k2 => walk_at "gd e"))
  | ((with_reducible show PT _ (Expr.Compare _ [CmpOp.Gt] _ _) _); refine' pt_cmpR op_gt ?k1 ?k2 (by rfl); (case k1 => walk_at "gd e"); (case k2 => walk_at "gd e"))
  | ((with_reducible show PT _ (Expr.Compare _ [CmpOp.GtE] _ _) _); refine' pt_cmpR op_ge ?k1 ?k2 (by rfl); (case k1 => walk_at "gd e"); (case k2 => walk_at "gd e"))
  | ((with_reducible show PT _ (Expr.Compare _ [CmpOp.Eq] _ _) _); refine' pt_cmpR (eqK (by assumption) (by assumption)) ?k1 ?k2 (by rfl); (case k1 => walk_at "gd e"); (case k2 => walk_at "gd e"))
  | ((with_reducible show PT _ (Expr.Compare _ [CmpOp.NotEq] _ _) _); refine' pt_cmpR (neK (by assumption) (by assumption)) ?k1 ?k2 (by rfl); (case k1 => walk_at "gd e"); (case k2 => walk_at "gd e"))
  | ((with_reducible show PT _ (Expr.Compare _ [CmpOp.In] _ _) _); refine' pt_cmpR (inK (by assumption)) ?k1 ?k2 (by rfl); (case k1 => walk_at "gd e"); (case k2 => walk_at "gd e"))
  | ((with_reducible show PT _ (Expr.Compare _ [CmpOp.NotIn] _ _) _); refine' pt_cmpR (niK (by assumption)) ?k1 ?k2 (by rfl); (case k1 => walk_at "gd e"); (case k2 => walk_at "gd e"))
  | (refine' pt_val ?k1; (case k1 => walk_at "gd e")))
local macro_rules | `(tactic| walk_at "gd g") => `(tactic| first
  | ((with_reducible show PG _ (Expr.Name _ _) _); first | exact pg_name (i := 0) (by walk_at "gd nd") rfl (by walk_at "gd lo") | exact pg_name (i := 1) (by walk_at "gd nd") rfl (by walk_at "gd lo") | exact pg_name (i := 2) (by walk_at "gd nd") rfl (by walk_at "gd lo") | exact pg_name (i := 3) (by walk_at "gd nd") rfl (by walk_at "gd lo") | exact pg_name (i := 4) (by walk_at "gd nd") rfl (by walk_at "gd lo") | exact pg_name (i := 5) (by walk_at "gd nd") rfl (by walk_at "gd lo") | exact pg_name (i := 6) (by walk_at "gd nd") rfl (by walk_at "gd lo") | exact pg_name (i := 7) (by walk_at "gd nd") rfl (by walk_at "gd lo") | exact pg_name (i := 8) (by walk_at "gd nd") rfl (by walk_at "gd lo") | exact pg_name (i := 9) (by walk_at "gd nd") rfl (by walk_at "gd lo") | exact pg_name (i := 10) (by walk_at "gd nd") rfl (by walk_at "gd lo") | exact pg_name (i := 11) (by walk_at "gd nd") rfl (by walk_at "gd lo") | exact pg_name (i := 12) (by walk_at "gd nd") rfl (by walk_at "gd lo") | exact pg_name (i := 13) (by walk_at "gd nd") rfl (by walk_at "gd lo"))
  | ((with_reducible show PG _ (Expr.Subscript _ _ _) _); refine' pg_sub ?k1 ?k2 set_list; (case k1 => walk_at "gd e"); (case k2 => walk_at "gd e"))
  | ((with_reducible show PG _ (Expr.Tuple _ _ _) _); refine' pg_tup rfl ?k1; (case k1 => walk_at "gd gs")))
local macro_rules | `(tactic| walk_at "gd gs") => `(tactic| first | exact pgs_nil | (refine' pgs_cons ?k1 ?k2; (case k1 => walk_at "gd g"); (case k2 => walk_at "gd gs")))
local macro_rules | `(tactic| walk_at "gd set") => `(tactic| first | (refine' ps_set (i := 0) (by walk_at "gd nd") rfl (by walk_at "gd lo") ?k1; (case k1 => walk_at "gd e")) | (refine' ps_set (i := 1) (by walk_at "gd nd") rfl (by walk_at "gd lo") ?k1; (case k1 => walk_at "gd e")) | (refine' ps_set (i := 2) (by walk_at "gd nd") rfl (by walk_at "gd lo") ?k1; (case k1 => walk_at "gd e")) | (refine' ps_set (i := 3) (by walk_at "gd nd") rfl (by walk_at "gd lo") ?k1; (case k1 => walk_at "gd e")) | (refine' ps_set (i := 4) (by walk_at "gd nd") rfl (by walk_at "gd lo") ?k1; (case k1 => walk_at "gd e")) | (refine' ps_set (i := 5) (by walk_at "gd nd") rfl (by walk_at "gd lo") ?k1; (case k1 => walk_at "gd e")) | (refine' ps_set (i := 6) (by walk_at "gd nd") rfl (by walk_at "gd lo") ?k1; (case k1 => walk_at "gd e")) | (refine' ps_set (i := 7) (by walk_at "gd nd") rfl (by walk_at "gd lo") ?k1; (case k1 => walk_at "gd e")) | (refine' ps_set (i := 8) (by walk_at "gd nd") rfl (by walk_at "gd lo") ?k1; (case k1 => walk_at "gd e")) | (refine' ps_set (i := 9) (by walk_at "gd nd") rfl (by walk_at "gd lo") ?k1; (case k1 => walk_at "gd e")) | (refine' ps_set (i := 10) (by walk_at "gd nd") rfl (by walk_at "gd lo") ?k1; (case k1 => walk_at "gd e")) | (refine' ps_set (i := 11) (by walk_at "gd nd") rfl (by walk_at "gd lo") ?k1; (case k1 => walk_at "gd e")) | (refine' ps_set (i := 12) (by walk_at "gd nd") rfl (by walk_at "gd lo") ?k1; (case k1 => walk_at "gd e")) | (refine' ps_set (i := 13) (by walk_at "gd nd") rfl (by walk_at "gd lo") ?k1; (case k1 => walk_at "gd e")))
local macro_rules | `(tactic| walk_at "gd os") => `(tactic| fail)
local macro_rules | `(tactic| walk_at "gd slc") => `(tactic| fail)
local macro_rules | `(tactic| walk_at "gd par") => `(tactic| fail)
local macro_rules | `(tactic| walk_at "gd s") => `(tactic| first
  | ((with_reducible show PS _ (Stmt.Return (some _) _) _); refine' ps_ret ?k1; (case k1 => walk_at "gd e"))
  | ((with_reducible show PS _ (Stmt.If _ _ _ _) _); refine' ps_if ?k1 ?k2 ?k3; (case k1 => walk_at "gd t"); (case k2 => walk_at "gd ss"); (case k3 => walk_at "gd ss"))
  | ((with_reducible show PS _ (Stmt.Assign [Expr.Name _ _] (Expr.ListComp _ _ _ _) _) _); walk_at "gd slc")
  | ((with_reducible show PS _ (Stmt.Assign [Expr.Name _ _] _ _) _); walk_at "gd set")
  | ((with_reducible show PS _ (Stmt.Assign [_] _ _) _); refine' ps_asg ?k1 ?k2; (case k1 => walk_at "gd e"); (case k2 => walk_at "gd g"))
  | ((with_reducible show PS _ (Stmt.Assign [_] _ _) _); walk_at "gd par")
  | ((with_reducible show PS _ (Stmt.For _ _ _ _ _) _); refine' ps_for PassesOwn.never rfl ?k1 ?k2 ?k3; (case k1 => walk_at "gd i"); (case k2 => walk_at "gd g"); (case k3 => walk_at "gd ss"))
  | ((with_reducible show PS _ (Stmt.Expr _ _) _); refine' ps_expr ?k1; (case k1 => walk_at "gd e"))
  | walk_at "gd os")
local macro_rules | `(tactic| walk_at "gd ss") => `(tactic| first | exact pss_nil | (refine' pss_one ?k1; (case k1 => walk_at "gd s")) | (refine' pss_cons ?k1 ?k2; (case k1 => walk_at "gd s"); (case k2 => walk_at "gd ss")))
local macro_rules | `(tactic| walk_at "gd os") => `(tactic| ((with_reducible show PS _ (Stmt.Raise _ _ _) _); refine' L2.ps_raise rfl (takes_of rfl rfl rfl rfl) ?k1; (case k1 => first
  | (refine' Gx.pmk1 (One.h (by assumption) _ _ (by rfl)) ?k2 (by assumption) rfl (Globs.h (by assumption) _ (by decide +kernel)) ?k3; (case k2 => (first | exact raisesBy (by assumption) 28 (by decide) _ rfl | exact raisesBy (by assumption) 8 (by decide) _ rfl | exact raisesBy (by assumption) 7 (by decide) _ rfl | exact raisesBy (by assumption) 29 (by decide) _ rfl | exact raisesBy (by assumption) 27 (by decide) _ rfl)); (case k3 => walk_at "gd a"))
  | (refine' Gx.pmk2 (Two.many (by assumption)) (raisesBy (by assumption) 33 (by decide) _ rfl) (by assumption) rfl (Globs.h (by assumption) _ (by decide +kernel)) ?k3; (case k3 => walk_at "gd a"))
  | (refine' Gx.pmk0 (Nul.undo (by assumption)) (raisesBy (by assumption) 34 (by decide) _ rfl) rfl (Globs.h (by assumption) _ (by decide +kernel))))))
theorem scRaised : FnScope ["_law_at", "_law_odd"] ["_law_at", "_law_odd"] (defScope sRaised) := ⟨rfl, rfl, rfl, by decide +kernel, rfl, by decide +kernel, by decide +kernel⟩
theorem scCaught : FnScope nCaught ["_law_at", "_law_odd"] (defScope sCaught) := ⟨rfl, rfl, rfl, by decide +kernel, rfl, by decide +kernel, by decide +kernel⟩
def wyT : List Nat := [28, 33, 8, 7, 29, 34, 27]
def wy (i : Nat) : Nat := wyT.getD i 0
def spRaised (K : W.Frag) : Sp := fun vs H _ E => ∃ (i : Nat) (x : V), vs = [.int i, x] ∧ i < 7 ∧ ∀ (d : Option Addr) (H' : Hp), All H H' → (∀ dx, d = some dx → ∃ fs, H' dx = some (.xd fs)) → E (.ref (He.ga K (cn (wy i)))) d H'
theorem all_left {H : Hp} {C e d : Addr} {fs : List (Str × V)} (he : H e = none) (hd : H d = none) : All H (Gx.leftH H C e d fs) := fun b o h => by
  show upd (del (upd (upd H d _) e _) e) d _ b = _
  rw [upd_ne (ne_of_none h hd), del_ne (ne_of_none h he), upd_ne (ne_of_none h he), upd_ne (ne_of_none h hd)]
  exact h
section
variable {P : Program} {w : World} {K : W.Frag} {mg : Str → Option Value} {base : Heap} {f : Addr} {fd : FuncData}
theorem ok_raised (fr : Frees mg) (gl : Globs K gnames mg) (on : One K) (tw : Two K) (nl : Nul K) (rs : Rsd K) (F : Fun K "_law_raised" "_law_raised" sRaised f fd) :
    FnOk P w K mg base (L2.CX P w) 1 f fd ["_law_at", "_law_odd"] (spRaised K) := by
  refine F.okX scRaised (fun vs H Q E h => ?_) (fun cdv A outer s H vs Q E hr h => ⟨?t, ?d, ?r⟩)
  · obtain ⟨i, x, rfl, _⟩ := h
    rfl
  case d =>
    have nd := scRaised.nd
    have isk : IsK K := ⟨trivial⟩
    walk_at "gd ss"
  case r =>
    obtain ⟨i, x, rfl, hi, q⟩ := h
    refine ⟨_, rfl, .inl ⟨rfl, _, rfl, ite2 (fun c => ?_) (fun c => ?_)⟩⟩
    · obtain rfl := eqI c
      exact ⟨_, rfl, _, rfl, fun a d ha hd _ => q (some d) _ (all_left ha hd) (fun dx z => by cases z; exact ⟨_, upd_same⟩)⟩
    have c0 := neI c
    clear c
    refine ⟨_, rfl, .inl ⟨rfl, _, rfl, ite2 (fun c => ?_) (fun c => ?_)⟩⟩
    · obtain rfl := eqI c
      exact ⟨_, rfl, _, _, rfl, fun a d ha hd _ => q (some d) _ (all_left ha hd) (fun dx z => by cases z; exact ⟨_, upd_same⟩)⟩
    have c1 := neI c
    clear c
    refine ⟨_, rfl, .inl ⟨rfl, _, rfl, ite2 (fun c => ?_) (fun c => ?_)⟩⟩
    · obtain rfl := eqI c
      exact ⟨_, rfl, _, rfl, fun a d ha hd _ => q (some d) _ (all_left ha hd) (fun dx z => by cases z; exact ⟨_, upd_same⟩)⟩
    have c2 := neI c
    clear c
    refine ⟨_, rfl, .inl ⟨rfl, _, rfl, ite2 (fun c => ?_) (fun c => ?_)⟩⟩
    · obtain rfl := eqI c
      exact ⟨_, rfl, _, rfl, fun a d ha hd _ => q (some d) _ (all_left ha hd) (fun dx z => by cases z; exact ⟨_, upd_same⟩)⟩
    have c3 := neI c
    clear c
    refine ⟨_, rfl, .inl ⟨rfl, _, rfl, ite2 (fun c => ?_) (fun c => ?_)⟩⟩
    · obtain rfl := eqI c
      exact ⟨_, rfl, _, rfl, fun a d ha hd _ => q (some d) _ (all_left ha hd) (fun dx z => by cases z; exact ⟨_, upd_same⟩)⟩
    have c4 := neI c
    clear c
    refine ⟨_, rfl, .inl ⟨rfl, _, rfl, ite2 (fun c => ?_) (fun c => ?_)⟩⟩
    · obtain rfl := eqI c
      exact q none H All.refl (fun _ z => nomatch z)
    have c5 := neI c
    clear c
    obtain rfl : i = 6 := by omega
    exact ⟨_, rfl, _, rfl, fun a d ha hd _ => q (some d) _ (all_left ha hd) (fun dx z => by cases z; exact ⟨_, upd_same⟩)⟩
end
end K10

set_option Elab.async false
set_option linter.all false
set_option maxRecDepth 100000
set_option maxHeartbeats 4000000
namespace K10
open PySem PySem.Spec L2 Gd
theorem heldK {X : Cx} {K : W.Frag} {a : Addr} {oe : Obj} {cls : Value} {d : Option Addr} (_ : IsK K) (hp : (a, oe) ∈ X.pn) (z : Zc cls d oe) (hf : ∃ vs, oe.data = .fields vs) (h : X.K = K := by rfl) : CallR X (.builtin "isinstance") (Gx.rHeld K a cls d) := h ▸ Gx.call_held hp z hf

/-! ### derivations by the text's shape -/
local macro_rules | `(tactic| walk_at "gd nd") => `(tactic| assumption)
local macro_rules | `(tactic| walk_at "gd lo") => `(tactic| first | exact Or.inl rfl | exact Or.inr rfl)
local macro_rules | `(tactic| walk_at "gd var") => `(tactic| first | exact pv 0 | exact pv 1 | exact pv 2 | exact pv 3 | exact pv 4 | exact pv 5 | exact pv 6 | exact pv 7 | exact pv 8 | exact pv 9 | exact pv 10 | exact pv 11 | exact pv 12 | exact pv 13 | exact pe_glob rfl (by assumption) rfl | exact pe_glob (v := V.ref (He.ga _ _)) rfl (Globs.h (by assumption) _ (by decide +kernel)) rfl | exact pe_bltn (v := V.ty _) rfl (Frees.h (by assumption) _ (by decide +kernel)) (by rfl) rfl | exact pe_bltn rfl (Frees.h (by assumption) _ (by decide +kernel)) (by decide +kernel) rfl)
local macro_rules | `(tactic| walk_at "gd a") => `(tactic| first | exact pa_nil | (refine' pa_cons ?k1 ?k2; (case k1 => walk_at "gd e"); (case k2 => walk_at "gd a")))
local macro_rules | `(tactic| walk_at "gd blt") => `(tactic| first
  | ((with_reducible show PE _ (Expr.Call (Expr.Name "abs" _) _ _ _) _); refine' pe_callB call_abs rfl (Frees.h (by assumption) _ (by decide +kernel)) (by decide +kernel) ?k1; (case k1 => walk_at "gd a"))
  | ((with_reducible show PE _ (Expr.Call (Expr.Name "max" _) _ _ _) _); refine' pe_callB (call_max2 rfl) rfl (Frees.h (by assumption) _ (by decide +kernel)) (by decide +kernel) ?k1; (case k1 => walk_at "gd a"))
  | ((with_reducible show PE _ (Expr.Call (Expr.Name "min" _) _ _ _) _); refine' pe_callB (call_min2 rfl) rfl (Frees.h (by assumption) _ (by decide +kernel)) (by decide +kernel) ?k1; (case k1 => walk_at "gd a"))
  | ((with_reducible show PE _ (Expr.Call (Expr.Name "len" _) _ _ _) _); refine' pe_callB (lenK (by assumption)) rfl (Frees.h (by assumption) _ (by decide +kernel)) (by decide +kernel) ?k1; (case k1 => walk_at "gd a"))
  | ((with_reducible show PE _ (Expr.Call (Expr.Name "divmod" _) _ _ _) _); refine' pe_callB call_divmod rfl (Frees.h (by assumption) _ (by decide +kernel)) (by decide +kernel) ?k1; (case k1 => walk_at "gd a"))
  | ((with_reducible show PE _ (Expr.Call (Expr.Name "all" _) _ _ _) _); refine' pe_callB (allK (by assumption) rfl) rfl (Frees.h (by assumption) _ (by decide +kernel)) (by decide +kernel) ?k1; (case k1 => walk_at "gd a"))
  | ((with_reducible show PE _ (Expr.Call (Expr.Name "isinstance" _) _ _ _) _); refine' pe_callB (isXK (by assumption)) rfl (Frees.h (by assumption) _ (by decide +kernel)) (by decide +kernel) ?k1; (case k1 => walk_at "gd a"))
  | ((with_reducible show PE _ (Expr.Call (Expr.Name "repr" _) _ _ _) _); refine' pe_callB (call_repr (by assumption) (by assumption)) rfl (Frees.h (by assumption) _ (by decide +kernel)) (by decide +kernel) ?k1; (case k1 => walk_at "gd a"))
  | ((with_reducible show PE _ (Expr.Call (Expr.Name "int" _) _ _ _) _); refine' pe_callTy call_int1 rfl (Frees.h (by assumption) _ (by decide +kernel)) (by decide +kernel) ?k1; (case k1 => walk_at "gd a"))
  | ((with_reducible show PE _ (Expr.Call (Expr.Name "tuple" _) _ _ _) _); refine' pe_callTy (tupK (by assumption)) rfl (Frees.h (by assumption) _ (by decide +kernel)) (by decide +kernel) ?k1; (case k1 => walk_at "gd a")))
local macro_rules | `(tactic| walk_at "gd call") => `(tactic| first
  | walk_at "gd blt"
  | (refine' pe_dn (by assumption) (by assumption) rfl (by first | decide | omega) ?k1; (case k1 => walk_at "gd a"))
  | (refine' pe_dnG (by assumption) (by assumption) (by assumption) rfl (by first | decide | omega) ?k1; (case k1 => walk_at "gd a"))
  | walk_at "gd own")
local macro_rules | `(tactic| walk_at "gd own") => `(tactic| fail)
local macro_rules | `(tactic| walk_at "gd it") => `(tactic| fail)
local macro_rules | `(tactic| walk_at "gd i") => `(tactic| first
  | ((with_reducible show PI _ _ (Expr.Call (Expr.Name "range" _) [_] _ _) _); refine' pi_range1 rfl (Frees.h (by assumption) _ (by decide +kernel)) ?k1; (case k1 => walk_at "gd a"))
  | walk_at "gd it")
local macro_rules | `(tactic| walk_at "gd cv") => `(tactic| fail)
local macro_rules | `(tactic| walk_at "gd lc") => `(tactic| walk_at "gd cv")
local macro_rules | `(tactic| walk_at "gd e") => `(tactic| first
  | ((with_reducible show PE _ (Expr.Constant _ _ _) _); first | exact pe_int | exact pe_str | exact pe_bl | exact pe_non)
  | ((with_reducible show PE _ (Expr.Name _ _) _); walk_at "gd var")
  | ((with_reducible show PE _ (Expr.BinOp _ Operator.Add _ _) _); refine' pe_op op_addA ?k1 ?k2; (case k1 => walk_at "gd e"); (case k2 => walk_at "gd e"))
  | ((with_reducible show PE _ (Expr.BinOp _ Operator.Sub _ _) _); refine' pe_op op_sub ?k1 ?k2; (case k1 => walk_at "gd e"); (case k2 => walk_at "gd e"))
  | ((with_reducible show PE _ (Expr.BinOp _ Operator.Mult _ _) _); refine' pe_op op_mulA ?k1 ?k2; (case k1 => walk_at "gd e"); (case k2 => walk_at "gd e"))
  | ((with_reducible show PE _ (Expr.BinOp _ Operator.Mod _ _) _); refine' pe_op op_mod ?k1 ?k2; (case k1 => walk_at "gd e"); (case k2 => walk_at "gd e"))
  | ((with_reducible show PE _ (Expr.BinOp _ Operator.FloorDiv _ _) _); refine' pe_op op_fdivW ?k1 ?k2; (case k1 => walk_at "gd e"); (case k2 => walk_at "gd e"))
  | ((with_reducible show PE _ (Expr.BinOp _ Operator.Pow _ _) _); refine' pe_op op_pow ?k1 ?k2; (case k1 => walk_at "gd e"); (case k2 => walk_at "gd e"))
  | ((with_reducible show PE _ (Expr.UnaryOp UnaryOp.USub _ _) _); refine' pe_un un_neg ?k1; (case k1 => walk_at "gd e"))
  | ((with_reducible show PE _ (Expr.UnaryOp UnaryOp.Not _ _) _); refine' pe_not ?k1; (case k1 => walk_at "gd e"))
  | ((with_reducible show PE _ (Expr.Compare _ [CmpOp.Lt] _ _) _); refine' pe_cmpR op_lt ?k1 ?k2 (by rfl); (case k1 => walk_at "gd e"); (case k2 => walk_at "gd e"))
  | ((with_reducible show PE _ (Expr.Compare _ [CmpOp.LtE] _ _) _); refine' pe_cmpR op_le ?k1 ?k2 (by rfl); (case k1 => walk_at "gd e"); (case k2 => walk_at "gd e"))
  | ((with_reducible show PE _ (Expr.Compare _ [CmpOp.Gt] _ _) _); refine' pe_cmpR op_gt ?k1 ?k2 (by rfl); (case k1 => walk_at "gd e"); (case k2 => walk_at "gd e"))
  | ((with_reducible show PE _ (Expr.Compare _ [CmpOp.GtE] _ _) _); refine' pe_cmpR op_ge ?k1 ?k2 (by rfl); (case k1 => walk_at "gd e"); (case k2 => walk_at "gd e"))
  | ((with_reducible show PE _ (Expr.Compare _ [CmpOp.Eq] _ _) _); refine' pe_cmpR (eqK (by assumption) (by assumption)) ?k1 ?k2 (by rfl); (case k1 => walk_at "gd e"); (case k2 => walk_at "gd e"))
  | ((with_reducible show PE _ (Expr.Compare _ [CmpOp.NotEq] _ _) _); refine' pe_cmpR (neK (by assumption) (by assumption)) ?k1 ?k2 (by rfl); (case k1 => walk_at "gd e"); (case k2 => walk_at "gd e"))
  | ((with_reducible show PE _ (Expr.Compare _ [CmpOp.In] _ _) _); refine' pe_cmpR (inK (by assumption)) ?k1 ?k2 (by rfl); (case k1 => walk_at "gd e"); (case k2 => walk_at "gd e"))
  | ((with_reducible show PE _ (Expr.Compare _ [CmpOp.NotIn] _ _) _); refine' pe_cmpR (niK (by assumption)) ?k1 ?k2 (by rfl); (case k1 => walk_at "gd e"); (case k2 => walk_at "gd e"))
  | ((with_reducible show PE _ (Expr.IfExp _ _ _ _) _); refine' pe_ifExp ?k1 ?k2 ?k3; (case k1 => walk_at "gd t"); (case k2 => walk_at "gd e"); (case k3 => walk_at "gd e"))
  | ((with_reducible show PE _ (Expr.Subscript _ (Expr.Slice none (some _) none _) _) _); refine' pe_slice sl_str ?k1 po_none (po_some ?k2); (case k1 => walk_at "gd e"); (case k2 => walk_at "gd e"))
  | ((with_reducible show PE _ (Expr.Subscript _ _ _) _); refine' pe_ix (ixK (by assumption)) ?k1 ?k2 (fun _ _ => rfl); (case k1 => walk_at "gd e"); (case k2 => walk_at "gd e"))
  | ((with_reducible show PE _ (Expr.List _ _) _); refine' pe_lst ?k1; (case k1 => walk_at "gd a"))
  | ((with_reducible show PE _ (Expr.Tuple _ _ _) _); refine' pe_tup ?k1; (case k1 => walk_at "gd a"))
  | ((with_reducible show PE _ (Expr.Dict [] [] _) _); exact pe_dnewK)
  | ((with_reducible show PE _ (Expr.Dict [_] [_] _) _); refine' pe_disp (pps_cons ?k1 ?k2 pps_nil) rfl rfl (fun z => by cases z) (by decide); (case k1 => walk_at "gd e"); (case k2 => walk_at "gd e"))
  | ((with_reducible show PE _ (Expr.Call (Expr.Attribute _ "join" _) _ _ _) _); refine' joinK (by assumption) ?k1 ?k2; (case k1 => walk_at "gd e"); (case k2 => walk_at "gd e"))
  | ((with_reducible show PE _ (Expr.Call (Expr.Attribute _ "append" _) _ _ _) _); refine' pe_bm PySem.F.plainAttrs_list PySem.F.slot_list_append PySem.F.type_list_append mt_append ?k1 ?k2; (case k1 => walk_at "gd e"); (case k2 => walk_at "gd a"))
  | ((with_reducible show PE _ (Expr.Attribute _ _ _) _); refine' efK (by assumption) ?k1; (case k1 => walk_at "gd e"))
  | ((with_reducible show PE _ (Expr.ListComp _ _ _ _) _); walk_at "gd lc")
  | walk_at "gd call")
local macro_rules | `(tactic| walk_at "gd t") => `(tactic| first
  | ((with_reducible show PT _ (Expr.UnaryOp UnaryOp.Not _ _) _); refine' pt_not ?k1; (case k1 => walk_at "gd t"))
  | ((with_reducible show PT _ (Expr.BoolOp BoolOp.And [_, _] _) _); refine' PW.pt (pw_and ?k1 (pw_and1 ?k2)); (case k1 => walk_at "gd t"); (case k2 => walk_at "gd t"))
  | ((with_reducible show PT _ (Expr.BoolOp BoolOp.Or [_, _] _) _); refine' PW.pt (pw_or ?k1 (pw_or1 ?k2)); (case k1 => walk_at "gd t"); (case k2 => walk_at "gd t"))
  | ((with_reducible show PT _ (Expr.Compare _ [CmpOp.Lt] _ _) _); refine' pt_cmpR op_lt ?k1 ?k2 (by rfl); (case k1 => walk_at "gd e"); (case k2 => walk_at "gd e"))
  | ((with_reducible show PT _ (Expr.Compare _ [CmpOp.LtE] _ _) _); refine' pt_cmpR op_le ?k1 ?k2 (by rfl); (case k1 => walk_at "gd e"); (case k2 => walk_at "gd e"))
  | ((with_reducible show PT _ (Expr.Compare _ [CmpOp.Gt] _ _) _); refine' pt_cmpR op_gt ?k1 ?k2 (by rfl); (case k1 => walk_at "gd e"); (case k2 => walk_at "gd e"))
  | ((with_reducible show PT _ (Expr.Compare _ [CmpOp.GtE] _ _) _); refine' pt_cmpR op_ge ?k1 ?k2 (by rfl); (case k1 => walk_at "gd e"); (case k2 => walk_at "gd e"))
  | ((with_reducible show PT _ (Expr.Compare _ [CmpOp.Eq] _ _) _); refine' pt_cmpR (eqK (by assumption) (by assumption)) ?k1 ?k2 (by rfl); (case k1 => walk_at "gd e"); (case k2 => walk_at "gd e"))
  | ((with_reducible show PT _ (Expr.Compare _ [CmpOp.NotEq] _ _) _); refine' pt_cmpR (neK (by assumption) (by assumption)) ?k1 ?k2 (by rfl); (case k1 => walk_at "gd e"); (case k2 => walk_at "gd e"))
  | ((with_reducible show PT _ (Expr.Compare _ [CmpOp.In] _ _) _); refine' pt_cmpR (inK (by assumption)) ?k1 ?k2 (by rfl); (case k1 => walk_at "gd e"); (case k2 => walk_at "gd e"))
  | ((with_reducible show PT _ (Expr.Compare _ [CmpOp.NotIn] _ _) _); refine' pt_cmpR (niK (by assumption)) ?k1 ?k2 (by rfl); (case k1 => walk_at "gd e"); (case k2 => walk_at "gd e"))
  | (refine' pt_val ?k1; (case k1 => walk_at "gd e")))
local macro_rules | `(tactic| walk_at "gd g") => `(tactic| first
  | ((with_reducible show PG _ (Expr.Name _ _) _); first | exact pg_name (i := 0) (by walk_at "gd nd") rfl (by walk_at "gd lo") | exact pg_name (i := 1) (by walk_at "gd nd") rfl (by walk_at "gd lo") | exact pg_name (i := 2) (by walk_at "gd nd") rfl (by walk_at "gd lo") | exact pg_name (i := 3) (by walk_at "gd nd") rfl (by walk_at "gd lo") | exact pg_name (i := 4) (by walk_at "gd nd") rfl (by walk_at "gd lo") | exact pg_name (i := 5) (by walk_at "gd nd") rfl (by walk_at "gd lo") | exact pg_name (i := 6) (by walk_at "gd nd") rfl (by walk_at "gd lo") | exact pg_name (i := 7) (by walk_at "gd nd") rfl (by walk_at "gd lo") | exact pg_name (i := 8) (by walk_at "gd nd") rfl (by walk_at "gd lo") | exact pg_name (i := 9) (by walk_at "gd nd") rfl (by walk_at "gd lo") | exact pg_name (i := 10) (by walk_at "gd nd") rfl (by walk_at "gd lo") | exact pg_name (i := 11) (by walk_at "gd nd") rfl (by walk_at "gd lo") | exact pg_name (i := 12) (by walk_at "gd nd") rfl (by walk_at "gd lo") | exact pg_name (i := 13) (by walk_at "gd nd") rfl (by walk_at "gd lo"))
  | ((with_reducible show PG _ (Expr.Subscript _ _ _) _); refine' pg_sub ?k1 ?k2 set_list; (case k1 => walk_at "gd e"); (case k2 => walk_at "gd e"))
  | ((with_reducible show PG _ (Expr.Tuple _ _ _) _); refine' pg_tup rfl ?k1; (case k1 => walk_at "gd gs")))
local macro_rules | `(tactic| walk_at "gd gs") => `(tactic| first | exact pgs_nil | (refine' pgs_cons ?k1 ?k2; (case k1 => walk_at "gd g"); (case k2 => walk_at "gd gs")))
local macro_rules | `(tactic| walk_at "gd set") => `(tactic| first | (refine' ps_set (i := 0) (by walk_at "gd nd") rfl (by walk_at "gd lo") ?k1; (case k1 => walk_at "gd e")) | (refine' ps_set (i := 1) (by walk_at "gd nd") rfl (by walk_at "gd lo") ?k1; (case k1 => walk_at "gd e")) | (refine' ps_set (i := 2) (by walk_at "gd nd") rfl (by walk_at "gd lo") ?k1; (case k1 => walk_at "gd e")) | (refine' ps_set (i := 3) (by walk_at "gd nd") rfl (by walk_at "gd lo") ?k1; (case k1 => walk_at "gd e")) | (refine' ps_set (i := 4) (by walk_at "gd nd") rfl (by walk_at "gd lo") ?k1; (case k1 => walk_at "gd e")) | (refine' ps_set (i := 5) (by walk_at "gd nd") rfl (by walk_at "gd lo") ?k1; (case k1 => walk_at "gd e")) | (refine' ps_set (i := 6) (by walk_at "gd nd") rfl (by walk_at "gd lo") ?k1; (case k1 => walk_at "gd e")) | (refine' ps_set (i := 7) (by walk_at "gd nd") rfl (by walk_at "gd lo") ?k1; (case k1 => walk_at "gd e")) | (refine' ps_set (i := 8) (by walk_at "gd nd") rfl (by walk_at "gd lo") ?k1; (case k1 => walk_at "gd e")) | (refine' ps_set (i := 9) (by walk_at "gd nd") rfl (by walk_at "gd lo") ?k1; (case k1 => walk_at "gd e")) | (refine' ps_set (i := 10) (by walk_at "gd nd") rfl (by walk_at "gd lo") ?k1; (case k1 => walk_at "gd e")) | (refine' ps_set (i := 11) (by walk_at "gd nd") rfl (by walk_at "gd lo") ?k1; (case k1 => walk_at "gd e")) | (refine' ps_set (i := 12) (by walk_at "gd nd") rfl (by walk_at "gd lo") ?k1; (case k1 => walk_at "gd e")) | (refine' ps_set (i := 13) (by walk_at "gd nd") rfl (by walk_at "gd lo") ?k1; (case k1 => walk_at "gd e")))
local macro_rules | `(tactic| walk_at "gd os") => `(tactic| fail)
local macro_rules | `(tactic| walk_at "gd slc") => `(tactic| fail)
local macro_rules | `(tactic| walk_at "gd par") => `(tactic| fail)
local macro_rules | `(tactic| walk_at "gd s") => `(tactic| first
  | ((with_reducible show PS _ (Stmt.Return (some _) _) _); refine' ps_ret ?k1; (case k1 => walk_at "gd e"))
  | ((with_reducible show PS _ (Stmt.If _ _ _ _) _); refine' ps_if ?k1 ?k2 ?k3; (case k1 => walk_at "gd t"); (case k2 => walk_at "gd ss"); (case k3 => walk_at "gd ss"))
  | ((with_reducible show PS _ (Stmt.Assign [Expr.Name _ _] (Expr.ListComp _ _ _ _) _) _); walk_at "gd slc")
  | ((with_reducible show PS _ (Stmt.Assign [Expr.Name _ _] _ _) _); walk_at "gd set")
  | ((with_reducible show PS _ (Stmt.Assign [_] _ _) _); refine' ps_asg ?k1 ?k2; (case k1 => walk_at "gd e"); (case k2 => walk_at "gd g"))
  | ((with_reducible show PS _ (Stmt.Assign [_] _ _) _); walk_at "gd par")
  | ((with_reducible show PS _ (Stmt.For _ _ _ _ _) _); refine' ps_for PassesOwn.never rfl ?k1 ?k2 ?k3; (case k1 => walk_at "gd i"); (case k2 => walk_at "gd g"); (case k3 => walk_at "gd ss"))
  | ((with_reducible show PS _ (Stmt.Expr _ _) _); refine' ps_expr ?k1; (case k1 => walk_at "gd e"))
  | walk_at "gd os")
local macro_rules | `(tactic| walk_at "gd ss") => `(tactic| first | exact pss_nil | (refine' pss_one ?k1; (case k1 => walk_at "gd s")) | (refine' pss_cons ?k1 ?k2; (case k1 => walk_at "gd s"); (case k2 => walk_at "gd ss")))
local macro_rules | `(tactic| walk_at "gd blt") => `(tactic| first
  | ((with_reducible show PE _ (Expr.Call (Expr.Name "isinstance" _) _ _ _) _); refine' pe_callB (heldK (by assumption) List.mem_cons_self (by assumption) (by assumption)) rfl (Frees.h (by assumption) _ (by decide +kernel)) (by decide +kernel) ?k1; (case k1 => walk_at "gd a"))
  | ((with_reducible show PE _ (Expr.Call (Expr.Name "repr" _) _ _ _) _); refine' pe_callB Gx.call_reprB rfl (Frees.h (by assumption) _ (by decide +kernel)) (by decide +kernel) ?k1; (case k1 => walk_at "gd a")))
structure Exm (K : W.Frag) : Prop where
  h : ∀ n j, n < 35 → j < 4 → W.exmOne K (.ref (He.ga K (cn n))) (.ref (He.ga K (abv j))) = some (decide (firstOf n = 2 * j))
theorem kit_two {K : W.Frag} (ki : Kin K) {n j k : Nat} (hn : n < 35) (hj : j < 35) (hk : k < 35) (h : n = j ∨ n = k) : W.kitAny K (.ref (He.ga K (cn n))) [.ref (He.ga K (cn j)), .ref (He.ga K (cn k))] = some true := by
  unfold W.kitAny
  rw [ki.own n j hn hj]
  by_cases c : j = n
  · rw [decide_eq_true c]
  · rw [decide_eq_false c]
    unfold W.kitAny
    rw [ki.own n k hn hk, decide_eq_true (show k = n by omega)]
section
variable {P : Program} {w : World} {K : W.Frag} {mg : Str → Option Value} {base : Heap} {f : Addr} {fd : FuncData}
theorem ok_caught {g : Addr} {gd : FuncData} (fr : Frees mg) (gl : Globs K gnames mg) (at_ : Att K) (ki : Kin K) (ex : Exm K) (G : FnOk P w K mg base (L2.CX P w) 1 g gd ["_law_at", "_law_odd"] (spRaised K)) (gm : mg "_law_raised" = some (.ref g)) (gk : W.keepIn K (.ref g) = true) (gb : Binds K gd ["_law_at", "_law_odd"] [])
    (F : Fun K "_law_caught" "_law_caught" sCaught f fd) : FnOk P w K mg base CX0 2 f fd ["_law_at", "_law_odd"] spCaught := by
  refine F.ok scCaught (fun vs H Q E h => ?_) (fun cdv A outer s H vs Q E hr h => ⟨?t, ?d, ?r⟩)
  · obtain ⟨i, x, rfl, _⟩ := h
    rfl
  case d =>
    have nd := scCaught.nd
    have isk : IsK K := ⟨trivial⟩
    refine' pss_cons ?a1 (pss_cons ?a2 ?a3)
    case a1 => walk_at "gd s"
    case a3 => walk_at "gd ss"
    case a2 =>
      refine' Gx.ps_tryAs (i := 3) (tb := fun W => tDrop (tCallS (spRaised K) (WE W) (tCons (tVar 0) (tCons (tVar 1) tNil)))) (Wout := fun _ _ _ _ => False) rfl rfl nd rfl rfl takes0 ?b1 ?b2
      case b1 =>
        intro W pn xe tk
        exact pss_one (ps_expr (pe_callS G hr rfl gm gk gb (fun σ => passAt tk σ) (pa_cons (pv 0) (pa_cons (pv 1) pa_nil))))
      case b2 =>
        refine' .cons ⟨rfl, by decide, .inl (gl.h "FormError" (by decide +kernel))⟩ (fun a oe cls d pn z hv => ?c1) (.cons ⟨rfl, by decide, .inl (gl.h "MissingError" (by decide +kernel))⟩ (fun a oe cls d pn z hv => ?c2) (.cons ⟨rfl, by decide, .inl (gl.h "StateError" (by decide +kernel))⟩ (fun a oe cls d pn z hv => ?c3) (.cons ⟨rfl, by decide, .inl (gl.h "AmountError" (by decide +kernel))⟩ (fun a oe cls d pn z hv => ?c4) .nil)))
        case c1 => walk_at "gd ss"
        case c2 => walk_at "gd ss"
        case c3 => walk_at "gd ss"
        case c4 => walk_at "gd ss"
  case r =>
    obtain ⟨i, x, rfl, hi, q⟩ := h
    refine ⟨_, rfl, _, rfl, i, x, rfl, hi, fun d H' a1 hd => ?_⟩
    have fin : ∀ H2, All H' H2 → Q (.str (dueT i)) H2 := fun H2 a2 => q H2 (a1.trans a2)
    have big : (1000 : Nat) < sizeLine := by decide
    match i, hi, fin with
    | 0, _, fin =>
      refine ⟨_, ex.h 28 0 (by decide) (by decide), fun _ a na => ?_, fun z => absurd z (by decide)⟩
      exact ⟨_, rfl, (by show 2 ≤ sizeLine; decide), fun tp htp => ⟨_, _, true, rfl, rfl, at_.ea 28 (by decide), fun dx e => let ⟨fs, z⟩ := hd dx e; ⟨fs, All.new htp _ _ z⟩, .inr ⟨tp, _, _, rfl, upd_same, .cons (.own _) (.cons (.own _) .nil), kit_two ki (n := 28) (j := 28) (k := 33) (by decide) (by decide) (by decide) (by decide)⟩, true, rfl, .inr (.inl ⟨_, _, rfl, rfl, (by decide), _, rfl, fin _ (All.new htp)⟩)⟩⟩
    | 1, _, fin =>
      refine ⟨_, ex.h 33 0 (by decide) (by decide), fun _ a na => ?_, fun z => absurd z (by decide)⟩
      exact ⟨_, rfl, (by show 2 ≤ sizeLine; decide), fun tp htp => ⟨_, _, true, rfl, rfl, at_.ea 33 (by decide), fun dx e => let ⟨fs, z⟩ := hd dx e; ⟨fs, All.new htp _ _ z⟩, .inr ⟨tp, _, _, rfl, upd_same, .cons (.own _) (.cons (.own _) .nil), kit_two ki (n := 33) (j := 28) (k := 33) (by decide) (by decide) (by decide) (by decide)⟩, true, rfl, .inr (.inl ⟨_, _, rfl, rfl, (by decide), _, rfl, fin _ (All.new htp)⟩)⟩⟩
    | 2, _, fin =>
      refine ⟨_, ex.h 8 0 (by decide) (by decide), fun z => absurd z (by decide), fun _ => ?_⟩
      refine ⟨_, ex.h 8 1 (by decide) (by decide), fun _ a na => ?_, fun z => absurd z (by decide)⟩
      exact ⟨_, rfl, (by show 2 ≤ sizeLine; decide), fun tp htp => ⟨_, _, true, rfl, rfl, at_.ea 8 (by decide), fun dx e => let ⟨fs, z⟩ := hd dx e; ⟨fs, All.new htp _ _ z⟩, .inr ⟨tp, _, _, rfl, upd_same, .cons (.own _) (.cons (.own _) .nil), kit_two ki (n := 8) (j := 8) (k := 7) (by decide) (by decide) (by decide) (by decide)⟩, true, rfl, .inr (.inl ⟨_, _, rfl, rfl, (by decide), _, rfl, fin _ (All.new htp)⟩)⟩⟩
    | 3, _, fin =>
      refine ⟨_, ex.h 7 0 (by decide) (by decide), fun z => absurd z (by decide), fun _ => ?_⟩
      refine ⟨_, ex.h 7 1 (by decide) (by decide), fun _ a na => ?_, fun z => absurd z (by decide)⟩
      exact ⟨_, rfl, (by show 2 ≤ sizeLine; decide), fun tp htp => ⟨_, _, true, rfl, rfl, at_.ea 7 (by decide), fun dx e => let ⟨fs, z⟩ := hd dx e; ⟨fs, All.new htp _ _ z⟩, .inr ⟨tp, _, _, rfl, upd_same, .cons (.own _) (.cons (.own _) .nil), kit_two ki (n := 7) (j := 8) (k := 7) (by decide) (by decide) (by decide) (by decide)⟩, true, rfl, .inr (.inl ⟨_, _, rfl, rfl, (by decide), _, rfl, fin _ (All.new htp)⟩)⟩⟩
    | 4, _, fin =>
      refine ⟨_, ex.h 29 0 (by decide) (by decide), fun z => absurd z (by decide), fun _ => ?_⟩
      refine ⟨_, ex.h 29 1 (by decide) (by decide), fun z => absurd z (by decide), fun _ => ?_⟩
      refine ⟨_, ex.h 29 2 (by decide) (by decide), fun _ a na => ?_, fun z => absurd z (by decide)⟩
      exact ⟨_, rfl, (by show 2 ≤ sizeLine; decide), fun tp htp => ⟨_, _, true, rfl, rfl, at_.ea 29 (by decide), fun dx e => let ⟨fs, z⟩ := hd dx e; ⟨fs, All.new htp _ _ z⟩, .inr ⟨tp, _, _, rfl, upd_same, .cons (.own _) (.cons (.own _) .nil), kit_two ki (n := 29) (j := 29) (k := 34) (by decide) (by decide) (by decide) (by decide)⟩, true, rfl, .inr (.inl ⟨_, _, rfl, rfl, (by decide), _, rfl, fin _ (All.new htp)⟩)⟩⟩
    | 5, _, fin =>
      refine ⟨_, ex.h 34 0 (by decide) (by decide), fun z => absurd z (by decide), fun _ => ?_⟩
      refine ⟨_, ex.h 34 1 (by decide) (by decide), fun z => absurd z (by decide), fun _ => ?_⟩
      refine ⟨_, ex.h 34 2 (by decide) (by decide), fun _ a na => ?_, fun z => absurd z (by decide)⟩
      exact ⟨_, rfl, (by show 2 ≤ sizeLine; decide), fun tp htp => ⟨_, _, true, rfl, rfl, at_.ea 34 (by decide), fun dx e => let ⟨fs, z⟩ := hd dx e; ⟨fs, All.new htp _ _ z⟩, .inr ⟨tp, _, _, rfl, upd_same, .cons (.own _) (.cons (.own _) .nil), kit_two ki (n := 34) (j := 29) (k := 34) (by decide) (by decide) (by decide) (by decide)⟩, true, rfl, .inr (.inl ⟨_, _, rfl, rfl, (by decide), _, rfl, fin _ (All.new htp)⟩)⟩⟩
    | 6, _, fin =>
      refine ⟨_, ex.h 27 0 (by decide) (by decide), fun z => absurd z (by decide), fun _ => ?_⟩
      refine ⟨_, ex.h 27 1 (by decide) (by decide), fun z => absurd z (by decide), fun _ => ?_⟩
      refine ⟨_, ex.h 27 2 (by decide) (by decide), fun z => absurd z (by decide), fun _ => ?_⟩
      refine ⟨_, ex.h 27 3 (by decide) (by decide), fun _ a na => ?_, fun z => absurd z (by decide)⟩
      exact ⟨_, rfl, _, _, true, rfl, rfl, at_.ea 27 (by decide), hd, .inl ⟨_, .own _, ki.own 27 27 (by decide) (by decide)⟩, true, rfl, .inr (.inl ⟨_, _, rfl, rfl, (by decide), _, rfl, fin _ All.refl⟩)⟩
    | i + 7, hi, _ => omega
end
end K10

set_option Elab.async false
set_option linter.all false
set_option maxRecDepth 100000
set_option maxHeartbeats 0
namespace K10
open PySem PySem.Spec PyProof.Rows L2 Gd
structure Cl (K : W.Frag) (n : Nat) : Prop where
  mro : ∃ cd, W.clsIn K (ca K n) = some cd ∧ cd.mro = .ref (ca K n) :: .ref (aa K (firstOf n / 2)) :: bmB (firstOf n)
  init : W.excInitIn K (ca K n) (bmB (firstOf n)) (nwB (firstOf n)) = true
  over : W.excOver K (ca K n) (bmB (firstOf n)) = true
  keep : W.keepIn K (.ref (ca K n)) = true
  hd : W.hasDictIn K (ca K n) = true
  ty : W.typeIn K (.ref (ca K n)) = some (.type "type")
  iC : W.findIn K (.ref (ca K n)) "__init__" = if n = 34 then some (some (.builtin (inB 4))) else some (some (.ref (He.ma K (ca K n) "__init__")))
  tI : n ≠ 34 → W.typeIn K (.ref (He.ma K (ca K n) "__init__")) = some (.type "function")
  sa : W.findIn K (.ref (ca K n)) "__setattr__" = some (some (.builtin "object.__setattr__"))
  ga : W.findIn K (.ref (ca K n)) "__getattribute__" = some (some (.builtin "BaseException.__getattribute__"))
  gg : W.findIn K (.ref (ca K n)) "__getattr__" = some none
  cl : W.findIn K (.ref (ca K n)) "__class__" = some (some (.builtin "object.__class__"))
  fs : ∀ f ∈ fldsOf n, W.takerIn K (ca K n) f = some none ∧ W.findIn K (.ref (ca K n)) f = some none
theorem cl_of {K : W.Frag} {n : Nat} (h : clB K n (ca K n) = true) : Cl K n := by
  obtain ⟨a1, h⟩ := He.ba h
  obtain ⟨a2, h⟩ := He.ba h
  obtain ⟨a3, h⟩ := He.ba h
  obtain ⟨a4, h⟩ := He.ba h
  obtain ⟨a5, h⟩ := He.ba h
  obtain ⟨a6, h⟩ := He.ba h
  obtain ⟨a7, h⟩ := He.ba h
  obtain ⟨a8, h⟩ := He.ba h
  obtain ⟨a9, h⟩ := He.ba h
  obtain ⟨a10, h⟩ := He.ba h
  obtain ⟨a11, h⟩ := He.ba h
  obtain ⟨a12, h⟩ := He.ba h
  refine ⟨?_, a2, a3, a4, a5, of_decide_eq_true a6, He.eqO_ok a7, fun hn => ?_, He.eqO_ok a9, He.eqO_ok a10, He.eqO_ok a11, He.eqO_ok a12, fun f hf => ?_⟩
  · unfold mroB at a1
    cases z : W.clsIn K (ca K n) with
    | none => rw [z] at a1; cases a1
    | some cd =>
      rw [z] at a1
      exact ⟨cd, rfl, of_decide_eq_true a1⟩
  · rcases Bool.or_eq_true_iff.mp a8 with z | z
    · exact absurd (of_decide_eq_true z) hn
    · exact of_decide_eq_true z
  · obtain ⟨b1, b2⟩ := He.ba (List.all_eq_true.mp h f hf)
    exact ⟨He.eqO_ok b1, He.eqO_ok b2⟩
theorem first_cases (n : Nat) : firstOf n = 0 ∨ firstOf n = 2 ∨ firstOf n = 4 ∨ firstOf n = 6 := by
  unfold firstOf
  split
  · simp
  · split
    · simp
    · split <;> simp
theorem base_of {k : Nat} (h : k = 0 ∨ k = 2 ∨ k = 4 ∨ k = 6) : ExcBaseFacts (bsB k) (nwB k) (inB k) (bmB k) ∧ StoreFacts (bsB k) (bmB k) "object.__setattr__" "object" := by
  rcases h with rfl | rfl | rfl | rfl
  · exact ⟨PySem.F.excBase_ValueError, PySem.F.store_ValueError⟩
  · exact ⟨PySem.F.excBase_LookupError, PySem.F.store_LookupError⟩
  · exact ⟨PySem.F.excBase_RuntimeError, PySem.F.store_RuntimeError⟩
  · exact ⟨PySem.F.excBase_ArithmeticError, PySem.F.store_ArithmeticError⟩
theorem ec_of {K : W.Frag} {n : Nat} (h : Cl K n) (hn : n ≠ 34) : Ge.EC K (ca K n) (He.ma K (ca K n) "__init__") (bsB (firstOf n)) (nwB (firstOf n)) (inB (firstOf n)) (bmB (firstOf n)) (fldsOf n) where
  base := (base_of (first_cases n)).1
  sto := (base_of (first_cases n)).2
  init := h.init
  over := h.over
  keep := h.keep
  iC := by rw [h.iC, if_neg hn]
  tI := h.tI hn
  sa := h.sa
  hd := h.hd
  tak := fun f hf => (h.fs f hf).1
section
variable {K : W.Frag}
theorem sub_of {n : Nat} (h : Cl K n) (v : Value) : W.subIn K (.ref (ca K n)) v = some ((Value.ref (ca K n) :: .ref (aa K (firstOf n / 2)) :: bmB (firstOf n)).contains v) := by
  obtain ⟨cd, e, m⟩ := h.mro
  show W.mroIn K (ca K n) v = _
  unfold W.mroIn
  rw [e]
  show (if cd.mro.isEmpty then none else some (cd.mro.contains v)) = _
  rw [m]
  rfl
theorem nodup_inj {α : Type} {l : List α} (h : l.Nodup) {i j : Nat} {x : α} (hi : l[i]? = some x) (hj : l[j]? = some x) : i = j := by
  obtain ⟨a, ea⟩ := List.getElem?_eq_some_iff.mp hi
  obtain ⟨b, eb⟩ := List.getElem?_eq_some_iff.mp hj
  exact (List.getElem_inj h).mp (ea.trans eb.symm)
end
end K10

set_option Elab.async false
set_option linter.all false
set_option maxRecDepth 100000
set_option maxHeartbeats 0
namespace K10
open PySem PySem.Spec PyProof.Rows L2 Gd
/-- all that the head says -/
structure Say (K : W.Frag) : Prop where
  c : ∀ n, n < 35 → Cl K n
  a : ∀ j, j < 4 → (W.clsIn K (aa K j)).isSome = true ∧ W.typeIn K (.ref (aa K j)) = some (.type "type") ∧ W.subIn K (.ref (aa K j)) (.type "BaseException") = some true
  nd : (((List.range 35).map fun n => ca K n) ++ (List.range 4).map fun j => aa K j).Nodup
  gt : W.specialIn K (.builtin "object.__class__") "__get__" = some (some (.builtin "getset_descriptor.__get__"))
  tk : W.takesIn K (.builtin "object.__class__") = some true
theorem say_of {K : W.Frag} (h : exB K = true) : Say K := by
  obtain ⟨h1, h⟩ := He.ba h
  obtain ⟨h2, h⟩ := He.ba h
  obtain ⟨h3, h⟩ := He.ba h
  obtain ⟨h4, h5⟩ := He.ba h
  refine ⟨fun n hn => cl_of (List.all_eq_true.mp h1 n (List.mem_range.mpr hn)), fun j hj => ?_, of_decide_eq_true h3, He.eqO_ok h4, of_decide_eq_true h5⟩
  obtain ⟨b1, b⟩ := He.ba (List.all_eq_true.mp h2 j (List.mem_range.mpr hj))
  obtain ⟨b2, b3⟩ := He.ba b
  exact ⟨b1, of_decide_eq_true b2, of_decide_eq_true b3⟩
section
variable {K : W.Frag}
theorem Say.at_c (s : Say K) {n : Nat} (hn : n < 35) : (((List.range 35).map fun n => ca K n) ++ (List.range 4).map fun j => aa K j)[n]? = some (ca K n) := by
  rw [List.getElem?_append_left (by simpa using hn), List.getElem?_map, List.getElem?_range hn]
  rfl
theorem Say.at_a (s : Say K) {j : Nat} (hj : j < 4) : (((List.range 35).map fun n => ca K n) ++ (List.range 4).map fun j => aa K j)[35 + j]? = some (aa K j) := by
  rw [List.getElem?_append_right (by simp)]
  have e : 35 + j - ((List.range 35).map fun n => ca K n).length = j := by simp
  rw [e, List.getElem?_map, List.getElem?_range hj]
  rfl
theorem Say.inj (s : Say K) {n j : Nat} (hn : n < 35) (hj : j < 35) (e : ca K j = ca K n) : j = n := nodup_inj s.nd (e ▸ s.at_c hj) (s.at_c hn)
theorem Say.injA (s : Say K) {i j : Nat} (hi : i < 4) (hj : j < 4) (e : aa K j = aa K i) : j = i := by
  have := nodup_inj s.nd (e ▸ s.at_a hj) (s.at_a hi)
  omega
theorem Say.ne (s : Say K) {n j : Nat} (hn : n < 35) (hj : j < 4) : ca K n ≠ aa K j := fun e => by
  have := nodup_inj s.nd (e ▸ s.at_c hn) (s.at_a hj)
  omega
theorem half (n : Nat) : firstOf n / 2 < 4 := by
  rcases first_cases n with h | h | h | h <;> rw [h] <;> decide
theorem contains_c (C A D : Addr) (k : Nat) : (Value.ref C :: .ref A :: bmB k).contains (.ref D) = (decide (D = C) || decide (D = A)) := by
  have e : ∀ a b : Addr, ((Value.ref a) == (Value.ref b)) = decide (a = b) := fun a b => by
    rw [Bool.eq_iff_iff, beq_iff_eq, decide_eq_true_eq, Value.ref.injEq]
  simp [bmB, List.contains_cons, e]
theorem att_of (s : Say K) : Att K where
  ea := fun n hn => by
    have z := sub_of (s.c n hn) (.type "object")
    have y := sub_of (s.c n hn) (.type "BaseException")
    refine ⟨(s.c n hn).ga, (s.c n hn).gg, y.trans (by simp [bmB]), (s.c n hn).hd, (s.c n hn).cl, ?_, s.gt, s.tk⟩
    exact (show W.mroIn K (He.ga K (cn n)) (.type "object") = W.subIn K (.ref (ca K n)) (.type "object") from rfl).trans (z.trans (by simp [bmB]))
  nf := fun n x y v f hn hl => by
    refine ((s.c n (by omega)).fs f ?_).2
    unfold flds at hl
    unfold fldsOf
    by_cases c : n < 32
    · rw [if_pos c] at hl ⊢
      by_cases z : f = fnm n
      · rw [z]; exact List.mem_cons_self
      · rw [lookup_put, if_neg z] at hl
        cases hl
    · rw [if_neg c] at hl ⊢
      by_cases c2 : n = 32
      · rw [if_pos c2] at hl ⊢
        by_cases z : f = "position"
        · rw [z]; simp
        · by_cases z2 : f = "side"
          · rw [z2]; simp
          · rw [lookup_put, if_neg z, lookup_put, if_neg z2] at hl
            cases hl
      · rw [if_neg c2] at hl ⊢
        rw [if_pos (show n = 33 by omega)]
        by_cases z : f = "limit"
        · rw [z]; simp
        · by_cases z2 : f = "kind"
          · rw [z2]; simp
          · rw [lookup_put, if_neg z, lookup_put, if_neg z2] at hl
            cases hl
theorem kitC (s : Say K) {n : Nat} (hn : n < 35) {D : Addr} (h1 : (W.clsIn K D).isSome = true) (h2 : W.typeIn K (.ref D) = some (.type "type")) : W.kitCls K (.ref (ca K n)) (.ref D) = some (decide (D = ca K n) || decide (D = aa K (firstOf n / 2))) := by
  unfold W.kitCls
  simp only [h1, h2, Bool.true_and, beq_self_eq_true, if_true]
  rw [sub_of (s.c n hn), contains_c]
theorem clsSome (s : Say K) {n : Nat} (hn : n < 35) : (W.clsIn K (ca K n)).isSome = true := by
  obtain ⟨cd, e, _⟩ := (s.c n hn).mro
  rw [e]
  rfl
theorem kin_of (s : Say K) : Kin K where
  own := fun n j hn hj => by
    show W.kitOne K (.ref (ca K n)) (.ref (ca K j)) = _
    unfold W.kitOne
    by_cases e : j = n
    · subst e
      simp
    · have ne : ca K n ≠ ca K j := fun z => e (s.inj hn hj z.symm)
      rw [if_neg (by simpa using ne), kitC s hn (clsSome s hj) (s.c j hj).ty, decide_eq_false (Ne.symm ne), decide_eq_false (s.ne hj (half n)), decide_eq_false e]
      rfl
theorem rsd_of (s : Say K) : Rsd K where
  sub := fun n hn => by
    rw [show He.ga K (cn n) = ca K n from rfl, sub_of (s.c n hn)]
    simp [bmB]
  ty := fun n hn => (s.c n hn).ty
theorem exm_of (s : Say K) : Exm K where
  h := fun n j hn hj => by
    show W.exmOne K (.ref (ca K n)) (.ref (aa K j)) = _
    obtain ⟨a1, a2, a3⟩ := s.a j hj
    unfold W.exmOne
    rw [a3]
    simp only [beq_self_eq_true, if_true]
    rw [kitC s hn a1 a2, decide_eq_false (Ne.symm (s.ne hn hj))]
    rw [Bool.false_or]
    congr 1
    rw [Bool.eq_iff_iff, decide_eq_true_eq, decide_eq_true_eq]
    constructor
    · intro e
      have := s.injA (half n) hj e
      rcases first_cases n with h | h | h | h <;> rw [h] at this ⊢ <;> omega
    · intro e
      rw [e]
      congr 1
      omega
theorem up_of (s : Say K) : Up K where
  up := fun n j hn hj => by
    have own : ∀ i, i < 4 → W.kitOne K (.ref (He.ga K (cn n))) (.ref (aa K i)) = some (decide (i = firstOf n / 2)) := fun i hi => by
      show W.kitOne K (.ref (ca K n)) (.ref (aa K i)) = _
      obtain ⟨a1, a2, _⟩ := s.a i hi
      unfold W.kitOne
      rw [if_neg (by simpa using s.ne hn hi), kitC s hn a1 a2, decide_eq_false (Ne.symm (s.ne hn hi)), Bool.false_or]
      congr 1
      rw [Bool.eq_iff_iff, decide_eq_true_eq, decide_eq_true_eq]
      exact ⟨fun e => s.injA (half n) hi e, fun e => by rw [e]⟩
    have ty : ∀ T : String, W.kitMeta T = true → W.kitOne K (.ref (He.ga K (cn n))) (.type T) = some ((bmB (firstOf n)).contains (.type T)) := fun T hT => by
      show W.kitOne K (.ref (ca K n)) (.type T) = _
      unfold W.kitOne
      rw [if_neg (by simp)]
      show (if W.kitMeta T = true then W.subIn K (.ref (ca K n)) (.type T) else none) = _
      rw [if_pos hT, sub_of (s.c n hn)]
      simp [List.contains_cons]
    match j, hj with
    | 0, _ => exact (own 0 (by decide)).trans (by rcases first_cases n with h | h | h | h <;> rw [h] <;> rfl)
    | 1, _ => exact (ty "ValueError" (by decide +kernel)).trans (by rcases first_cases n with h | h | h | h <;> rw [h] <;> decide)
    | 2, _ => exact (own 1 (by decide)).trans (by rcases first_cases n with h | h | h | h <;> rw [h] <;> rfl)
    | 3, _ => exact (ty "LookupError" (by decide +kernel)).trans (by rcases first_cases n with h | h | h | h <;> rw [h] <;> decide)
    | 4, _ => exact (own 2 (by decide)).trans (by rcases first_cases n with h | h | h | h <;> rw [h] <;> rfl)
    | 5, _ => exact (ty "RuntimeError" (by decide +kernel)).trans (by rcases first_cases n with h | h | h | h <;> rw [h] <;> decide)
    | 6, _ => exact (own 3 (by decide)).trans (by rcases first_cases n with h | h | h | h <;> rw [h] <;> rfl)
    | 7, _ => exact (ty "ArithmeticError" (by decide +kernel)).trans (by rcases first_cases n with h | h | h | h <;> rw [h] <;> decide)
end
end K10

set_option Elab.async false
set_option linter.all false
set_option maxRecDepth 100000
set_option maxHeartbeats 0
namespace K10
open PySem PySem.Spec PyProof.Rows L2 Gd
section
variable {K : W.Frag} {w : World}
theorem mk1 {n : Nat} {f qual : Str} {params : Arguments} {body : List Stmt} {scope : Scope} (h : Cl K n) (hn : n ≠ 34) (F : ∃ fd, FunD K "__init__" qual params body scope [] [] (He.ma K (ca K n) "__init__") fd) (hf : f ∈ fldsOf n)
    (hb : ∃ q1 q2 q3 q4, body = Ge.iBody1 f q1 q2 q3 q4) (hs : scope = Ge.iScope ["self", f])
    (bp : ∀ (b : List Stmt) (sc : Scope) (kV doc pm : Value) (an : Option Addr) (cdv ct x v : Value), bindArgs (W.fnOf "__init__" qual params b sc .none kV doc pm an cdv ct) ⟨[x, v], []⟩ = pure [(("self" : Str), x), (f, v)])
    (bk : ∀ (b : List Stmt) (sc : Scope) (kV doc pm : Value) (an : Option Addr) (cdv ct x v : Value), bindArgs (W.fnOf "__init__" qual params b sc .none kV doc pm an cdv ct) ⟨[x], [(f, v)]⟩ = pure [(("self" : Str), x), (f, v)])
    (h1 : ("self" == f) = false := by decide) (h2 : (f == ("__debug__" : Str)) = false := by decide) (h3 : (f == ("self" : Str)) = false := by decide) : Ge.E1 K (ca K n) f := by
  obtain ⟨fd, F⟩ := F
  obtain ⟨oc, od, dV, kV, doc, pm, an, cdv, ct, osl, rfl, lk, code, dfl, _⟩ := F.ex
  obtain ⟨q1, q2, q3, q4, rfl⟩ := hb
  subst hs
  have e : dV = .none := by
    rcases dfl with ⟨_, e⟩ | ⟨e, _⟩
    · exact e
    · exact absurd rfl e
  subst e
  exact Ge.e1_of (ec_of h hn) hf code lk (fun x v => bp _ _ _ _ _ _ _ _ x v) (fun x v => bk _ _ _ _ _ _ _ _ x v) h1 h2 h3
theorem mk2 {n : Nat} {f f2 qual : Str} {params : Arguments} {body : List Stmt} {scope : Scope} (h : Cl K n) (hn : n ≠ 34) (F : ∃ fd, FunD K "__init__" qual params body scope [] [] (He.ma K (ca K n) "__init__") fd) (hf : f ∈ fldsOf n) (hf2 : f2 ∈ fldsOf n)
    (hb : ∃ q1 q2 q3 q4 r1 r2 r3 r4, body = Ge.iBody2 f f2 q1 q2 q3 q4 r1 r2 r3 r4) (hs : scope = Ge.iScope ["self", f, f2])
    (bp : ∀ (b : List Stmt) (sc : Scope) (kV doc pm : Value) (an : Option Addr) (cdv ct x v v2 : Value), bindArgs (W.fnOf "__init__" qual params b sc .none kV doc pm an cdv ct) ⟨[x, v, v2], []⟩ = pure [(("self" : Str), x), (f, v), (f2, v2)])
    (bk : ∀ (b : List Stmt) (sc : Scope) (kV doc pm : Value) (an : Option Addr) (cdv ct x v v2 : Value), bindArgs (W.fnOf "__init__" qual params b sc .none kV doc pm an cdv ct) ⟨[x], [(f2, v2), (f, v)]⟩ = pure [(("self" : Str), x), (f, v), (f2, v2)])
    (h1 : ("self" == f) = false := by decide) (h2 : (f == ("__debug__" : Str)) = false := by decide) (h3 : (f == ("self" : Str)) = false := by decide) (h4 : ("self" == f2) = false := by decide) (h5 : (f2 == ("__debug__" : Str)) = false := by decide) (h6 : (f2 == ("self" : Str)) = false := by decide) (h7 : (f2 == f) = false := by decide) : Ge.E2 K (ca K n) f f2 := by
  obtain ⟨fd, F⟩ := F
  obtain ⟨oc, od, dV, kV, doc, pm, an, cdv, ct, osl, rfl, lk, code, dfl, _⟩ := F.ex
  obtain ⟨q1, q2, q3, q4, r1, r2, r3, r4, rfl⟩ := hb
  subst hs
  have e : dV = .none := by
    rcases dfl with ⟨_, e⟩ | ⟨e, _⟩
    · exact e
    · exact absurd rfl e
  subst e
  exact Ge.e2_of (ec_of h hn) hf hf2 code lk (fun x v v2 => bp _ _ _ _ _ _ _ _ x v v2) (fun x v v2 => bk _ _ _ _ _ _ _ _ x v v2) h1 h2 h3 h4 h5 h6 h7
theorem ones (c : He.SaysT fa fn [] w K) (s : Say K) : ∀ n, n < 32 → Ge.E1 K (ca K n) (fnm n)
  | 0, _ => mk1 (n := 0) (s.c 0 (by decide)) (by decide) (c.d.def_ 18 (d := mOf 0) rfl) (by decide) ⟨_, _, _, _, rfl⟩ rfl (fun _ _ _ _ _ _ _ _ _ _ => rfl) (fun _ _ _ _ _ _ _ _ _ _ => rfl)
  | 1, _ => mk1 (n := 1) (s.c 1 (by decide)) (by decide) (c.d.def_ 19 (d := mOf 1) rfl) (by decide) ⟨_, _, _, _, rfl⟩ rfl (fun _ _ _ _ _ _ _ _ _ _ => rfl) (fun _ _ _ _ _ _ _ _ _ _ => rfl)
  | 2, _ => mk1 (n := 2) (s.c 2 (by decide)) (by decide) (c.d.def_ 20 (d := mOf 2) rfl) (by decide) ⟨_, _, _, _, rfl⟩ rfl (fun _ _ _ _ _ _ _ _ _ _ => rfl) (fun _ _ _ _ _ _ _ _ _ _ => rfl)
  | 3, _ => mk1 (n := 3) (s.c 3 (by decide)) (by decide) (c.d.def_ 21 (d := mOf 3) rfl) (by decide) ⟨_, _, _, _, rfl⟩ rfl (fun _ _ _ _ _ _ _ _ _ _ => rfl) (fun _ _ _ _ _ _ _ _ _ _ => rfl)
  | 4, _ => mk1 (n := 4) (s.c 4 (by decide)) (by decide) (c.d.def_ 22 (d := mOf 4) rfl) (by decide) ⟨_, _, _, _, rfl⟩ rfl (fun _ _ _ _ _ _ _ _ _ _ => rfl) (fun _ _ _ _ _ _ _ _ _ _ => rfl)
  | 5, _ => mk1 (n := 5) (s.c 5 (by decide)) (by decide) (c.d.def_ 23 (d := mOf 5) rfl) (by decide) ⟨_, _, _, _, rfl⟩ rfl (fun _ _ _ _ _ _ _ _ _ _ => rfl) (fun _ _ _ _ _ _ _ _ _ _ => rfl)
  | 6, _ => mk1 (n := 6) (s.c 6 (by decide)) (by decide) (c.d.def_ 24 (d := mOf 6) rfl) (by decide) ⟨_, _, _, _, rfl⟩ rfl (fun _ _ _ _ _ _ _ _ _ _ => rfl) (fun _ _ _ _ _ _ _ _ _ _ => rfl)
  | 7, _ => mk1 (n := 7) (s.c 7 (by decide)) (by decide) (c.d.def_ 25 (d := mOf 7) rfl) (by decide) ⟨_, _, _, _, rfl⟩ rfl (fun _ _ _ _ _ _ _ _ _ _ => rfl) (fun _ _ _ _ _ _ _ _ _ _ => rfl)
  | 8, _ => mk1 (n := 8) (s.c 8 (by decide)) (by decide) (c.d.def_ 26 (d := mOf 8) rfl) (by decide) ⟨_, _, _, _, rfl⟩ rfl (fun _ _ _ _ _ _ _ _ _ _ => rfl) (fun _ _ _ _ _ _ _ _ _ _ => rfl)
  | 9, _ => mk1 (n := 9) (s.c 9 (by decide)) (by decide) (c.d.def_ 27 (d := mOf 9) rfl) (by decide) ⟨_, _, _, _, rfl⟩ rfl (fun _ _ _ _ _ _ _ _ _ _ => rfl) (fun _ _ _ _ _ _ _ _ _ _ => rfl)
  | 10, _ => mk1 (n := 10) (s.c 10 (by decide)) (by decide) (c.d.def_ 28 (d := mOf 10) rfl) (by decide) ⟨_, _, _, _, rfl⟩ rfl (fun _ _ _ _ _ _ _ _ _ _ => rfl) (fun _ _ _ _ _ _ _ _ _ _ => rfl)
  | 11, _ => mk1 (n := 11) (s.c 11 (by decide)) (by decide) (c.d.def_ 29 (d := mOf 11) rfl) (by decide) ⟨_, _, _, _, rfl⟩ rfl (fun _ _ _ _ _ _ _ _ _ _ => rfl) (fun _ _ _ _ _ _ _ _ _ _ => rfl)
  | 12, _ => mk1 (n := 12) (s.c 12 (by decide)) (by decide) (c.d.def_ 30 (d := mOf 12) rfl) (by decide) ⟨_, _, _, _, rfl⟩ rfl (fun _ _ _ _ _ _ _ _ _ _ => rfl) (fun _ _ _ _ _ _ _ _ _ _ => rfl)
  | 13, _ => mk1 (n := 13) (s.c 13 (by decide)) (by decide) (c.d.def_ 31 (d := mOf 13) rfl) (by decide) ⟨_, _, _, _, rfl⟩ rfl (fun _ _ _ _ _ _ _ _ _ _ => rfl) (fun _ _ _ _ _ _ _ _ _ _ => rfl)
  | 14, _ => mk1 (n := 14) (s.c 14 (by decide)) (by decide) (c.d.def_ 32 (d := mOf 14) rfl) (by decide) ⟨_, _, _, _, rfl⟩ rfl (fun _ _ _ _ _ _ _ _ _ _ => rfl) (fun _ _ _ _ _ _ _ _ _ _ => rfl)
  | 15, _ => mk1 (n := 15) (s.c 15 (by decide)) (by decide) (c.d.def_ 33 (d := mOf 15) rfl) (by decide) ⟨_, _, _, _, rfl⟩ rfl (fun _ _ _ _ _ _ _ _ _ _ => rfl) (fun _ _ _ _ _ _ _ _ _ _ => rfl)
  | 16, _ => mk1 (n := 16) (s.c 16 (by decide)) (by decide) (c.d.def_ 34 (d := mOf 16) rfl) (by decide) ⟨_, _, _, _, rfl⟩ rfl (fun _ _ _ _ _ _ _ _ _ _ => rfl) (fun _ _ _ _ _ _ _ _ _ _ => rfl)
  | 17, _ => mk1 (n := 17) (s.c 17 (by decide)) (by decide) (c.d.def_ 35 (d := mOf 17) rfl) (by decide) ⟨_, _, _, _, rfl⟩ rfl (fun _ _ _ _ _ _ _ _ _ _ => rfl) (fun _ _ _ _ _ _ _ _ _ _ => rfl)
  | 18, _ => mk1 (n := 18) (s.c 18 (by decide)) (by decide) (c.d.def_ 36 (d := mOf 18) rfl) (by decide) ⟨_, _, _, _, rfl⟩ rfl (fun _ _ _ _ _ _ _ _ _ _ => rfl) (fun _ _ _ _ _ _ _ _ _ _ => rfl)
  | 19, _ => mk1 (n := 19) (s.c 19 (by decide)) (by decide) (c.d.def_ 37 (d := mOf 19) rfl) (by decide) ⟨_, _, _, _, rfl⟩ rfl (fun _ _ _ _ _ _ _ _ _ _ => rfl) (fun _ _ _ _ _ _ _ _ _ _ => rfl)
  | 20, _ => mk1 (n := 20) (s.c 20 (by decide)) (by decide) (c.d.def_ 38 (d := mOf 20) rfl) (by decide) ⟨_, _, _, _, rfl⟩ rfl (fun _ _ _ _ _ _ _ _ _ _ => rfl) (fun _ _ _ _ _ _ _ _ _ _ => rfl)
  | 21, _ => mk1 (n := 21) (s.c 21 (by decide)) (by decide) (c.d.def_ 39 (d := mOf 21) rfl) (by decide) ⟨_, _, _, _, rfl⟩ rfl (fun _ _ _ _ _ _ _ _ _ _ => rfl) (fun _ _ _ _ _ _ _ _ _ _ => rfl)
  | 22, _ => mk1 (n := 22) (s.c 22 (by decide)) (by decide) (c.d.def_ 40 (d := mOf 22) rfl) (by decide) ⟨_, _, _, _, rfl⟩ rfl (fun _ _ _ _ _ _ _ _ _ _ => rfl) (fun _ _ _ _ _ _ _ _ _ _ => rfl)
  | 23, _ => mk1 (n := 23) (s.c 23 (by decide)) (by decide) (c.d.def_ 41 (d := mOf 23) rfl) (by decide) ⟨_, _, _, _, rfl⟩ rfl (fun _ _ _ _ _ _ _ _ _ _ => rfl) (fun _ _ _ _ _ _ _ _ _ _ => rfl)
  | 24, _ => mk1 (n := 24) (s.c 24 (by decide)) (by decide) (c.d.def_ 42 (d := mOf 24) rfl) (by decide) ⟨_, _, _, _, rfl⟩ rfl (fun _ _ _ _ _ _ _ _ _ _ => rfl) (fun _ _ _ _ _ _ _ _ _ _ => rfl)
  | 25, _ => mk1 (n := 25) (s.c 25 (by decide)) (by decide) (c.d.def_ 43 (d := mOf 25) rfl) (by decide) ⟨_, _, _, _, rfl⟩ rfl (fun _ _ _ _ _ _ _ _ _ _ => rfl) (fun _ _ _ _ _ _ _ _ _ _ => rfl)
  | 26, _ => mk1 (n := 26) (s.c 26 (by decide)) (by decide) (c.d.def_ 44 (d := mOf 26) rfl) (by decide) ⟨_, _, _, _, rfl⟩ rfl (fun _ _ _ _ _ _ _ _ _ _ => rfl) (fun _ _ _ _ _ _ _ _ _ _ => rfl)
  | 27, _ => mk1 (n := 27) (s.c 27 (by decide)) (by decide) (c.d.def_ 45 (d := mOf 27) rfl) (by decide) ⟨_, _, _, _, rfl⟩ rfl (fun _ _ _ _ _ _ _ _ _ _ => rfl) (fun _ _ _ _ _ _ _ _ _ _ => rfl)
  | 28, _ => mk1 (n := 28) (s.c 28 (by decide)) (by decide) (c.d.def_ 46 (d := mOf 28) rfl) (by decide) ⟨_, _, _, _, rfl⟩ rfl (fun _ _ _ _ _ _ _ _ _ _ => rfl) (fun _ _ _ _ _ _ _ _ _ _ => rfl)
  | 29, _ => mk1 (n := 29) (s.c 29 (by decide)) (by decide) (c.d.def_ 47 (d := mOf 29) rfl) (by decide) ⟨_, _, _, _, rfl⟩ rfl (fun _ _ _ _ _ _ _ _ _ _ => rfl) (fun _ _ _ _ _ _ _ _ _ _ => rfl)
  | 30, _ => mk1 (n := 30) (s.c 30 (by decide)) (by decide) (c.d.def_ 48 (d := mOf 30) rfl) (by decide) ⟨_, _, _, _, rfl⟩ rfl (fun _ _ _ _ _ _ _ _ _ _ => rfl) (fun _ _ _ _ _ _ _ _ _ _ => rfl)
  | 31, _ => mk1 (n := 31) (s.c 31 (by decide)) (by decide) (c.d.def_ 49 (d := mOf 31) rfl) (by decide) ⟨_, _, _, _, rfl⟩ rfl (fun _ _ _ _ _ _ _ _ _ _ => rfl) (fun _ _ _ _ _ _ _ _ _ _ => rfl)
  | n + 32, h => absurd h (by omega)
theorem look_mem {x f : Str} : ∀ {l : List (Str × Str)}, l.lookup x = some f → (x, f) ∈ l
  | (y, g) :: r, h => by
    by_cases z : x = y
    · subst z
      have e : g = f := by simpa [List.lookup] using h
      rw [e]
      exact List.mem_cons_self
    · have b : (x == y) = false := by simpa using z
      simp only [List.lookup, b] at h
      exact List.mem_cons_of_mem _ (look_mem h)
theorem one_of (c : He.SaysT fa fn [] w K) (s : Say K) : One K where
  h := fun x f e => by
    obtain ⟨i, hi⟩ := List.mem_iff_getElem?.mp (look_mem e)
    obtain ⟨h1, h2⟩ := List.getElem?_zip_eq_some.mp hi
    have l : i < 32 := by
      have := (List.getElem?_eq_some_iff.mp h2).1
      exact this
    have e1 : cn i = x := by
      show cnT.getD i "" = x
      rw [List.getD_eq_getElem?_getD, h1]
      rfl
    have e2 : fnm i = f := by
      show fnT.getD i "" = f
      rw [List.getD_eq_getElem?_getD, h2]
      rfl
    have z := ones c s i l
    rw [e2] at z
    rw [← e1]
    exact z
theorem two_of (c : He.SaysT fa fn [] w K) (s : Say K) : Two K where
  side := mk2 (n := 32) (s.c 32 (by decide)) (by decide) (c.d.def_ 50 (d := mOf 32) rfl) (by decide) (by decide) ⟨_, _, _, _, _, _, _, _, rfl⟩ rfl (fun _ _ _ _ _ _ _ _ _ _ _ => rfl) (fun _ _ _ _ _ _ _ _ _ _ _ => rfl)
  many := mk2 (n := 33) (s.c 33 (by decide)) (by decide) (c.d.def_ 51 (d := mOf 33) rfl) (by decide) (by decide) ⟨_, _, _, _, _, _, _, _, rfl⟩ rfl (fun _ _ _ _ _ _ _ _ _ _ _ => rfl) (fun _ _ _ _ _ _ _ _ _ _ _ => rfl)
theorem nul_of (s : Say K) : Nul K where
  undo := Ge.e0_of PySem.F.excBase_RuntimeError (s.c 34 (by decide)).iC (s.c 34 (by decide)).init (s.c 34 (by decide)).keep
end
end K10

set_option Elab.async false
set_option linter.all false
set_option maxRecDepth 100000
set_option maxHeartbeats 0
namespace K10
open PySem PySem.Spec PyProof.Rows L2 Gd
/-! ### the defs behind the head -/
theorem fun_of' {K : W.Frag} {x qual : Str} {st : Stmt} {f : Addr} {fd : FuncData} (F : FunD K x qual (defArgs st) (defBody st) (defScope st) [] [] f fd) : Fun K x qual st f fd := by
  obtain ⟨oc, od, dV, kV, doc, pm, an, cdv, ct, osl, e, l, c, hd, _⟩ := F.ex
  rcases hd with ⟨_, z⟩ | ⟨z, _⟩
  · subst z
    exact ⟨⟨oc, od, kV, doc, pm, an, cdv, ct, osl, e, l, c⟩, F.kp⟩
  · exact absurd rfl z
theorem th_or {P : Program} {w : World} {K : W.Frag} {mg : Str → Option Value} {base : Heap} {CX : CXT} {f : Addr} {fd : FuncData} {ps : List Str} (F1 : FnOk P w K mg base CX 5 f fd ps (spT 2)) (F2 : FnOk P w K mg base CX 6 f fd ps (spT 3)) : FnOk P w K mg base CX 7 f fd ps spTh :=
  ⟨fun vs H Q E h => h.elim (F2.len vs H Q E) (F1.len vs H Q E), fun A outer s H args us vs Q E hr e0 hb r h => h.elim (F2.run A outer s H args us vs Q E (hr.mono (by decide)) e0 hb r) (F1.run A outer s H args us vs Q E (hr.mono (by decide)) e0 hb r)⟩
theorem th_no {P : Program} {w : World} {K : W.Frag} {mg : Str → Option Value} {base : Heap} {CX : CXT} {f : Addr} {fd : FuncData} {ps : List Str} : FnOk P w K mg base CX 3 f fd ps (spT 0) := ⟨fun _ _ _ _ h => False.elim h, fun _ _ _ _ _ _ _ _ _ _ _ _ _ h => False.elim h⟩
theorem facts {P : Program} {w : World} {K : W.Frag} {h : Heap} {mg : Str → Option Value} (X : K.In h) (G : h.Ns mainGlobals mg) (c : He.SaysT fa fn [] w K) (ex : exB K = true) :
    mg ("law" : Str) = some (.ref (He.ga K "law")) ∧ ∃ fd : FuncData, (∀ (s : Shared) (v : Value), BindsTo s fd ⟨[v], []⟩ [("_law_script", v)]) ∧ ∀ base : Heap, K.In base → base.Ns mainGlobals mg → FnG P w K mg base CX0 9 (He.ga K "law") fd ["_law_script"] (spLaw K) := by
  have s := say_of ex
  have fr : Frees mg := ⟨fun x hx => He.free_ok X G (c.d.facts (f := .free x) (List.mem_append_right _ (List.mem_map_of_mem (List.contains_iff_mem.mp hx))))⟩
  have gl : Globs K gnames mg := ⟨fun x hx => He.glo_ok X G (c.d.facts (f := .glo x) (List.mem_append_left _ (List.mem_map_of_mem (List.mem_append_left _ (List.mem_append_left _ (List.contains_iff_mem.mp hx))))))⟩
  have gw : ∀ x, lawNames.contains x = true → mg x = some (.ref (He.ga K x)) := fun x hx => He.glo_ok X G (c.d.facts (f := .glo x) (List.mem_append_left _ (List.mem_map_of_mem (List.mem_append_left _ (List.mem_append_right _ (List.contains_iff_mem.mp hx))))))
  have gL : mg ("law" : Str) = some (.ref (He.ga K "law")) := He.glo_ok X G (c.d.facts (f := .glo "law") (List.mem_append_left _ (List.mem_map_of_mem (List.mem_append_right _ List.mem_cons_self))))
  have on := one_of c s
  have tw := two_of c s
  have nl := nul_of s
  have at_ := att_of s
  have ki := kin_of s
  have up := up_of s
  have em := exm_of s
  have rs := rsd_of s
  obtain ⟨d0, F0⟩ := c.d.def_ 0 (d := dOf "_law_pot" 41) rfl
  obtain ⟨d1, F1⟩ := c.d.def_ 1 (d := dOf "_law_draw" 42) rfl
  obtain ⟨d2, F2⟩ := c.d.def_ 2 (d := dOf "_law_pick" 43) rfl
  obtain ⟨d3, F3⟩ := c.d.def_ 3 (d := dOf "_law_named" 44) rfl
  obtain ⟨d4, F4⟩ := c.d.def_ 4 (d := dOf "_law_far" 45) rfl
  obtain ⟨d5, F5⟩ := c.d.def_ 5 (d := dOf "_law_thing" 46) rfl
  obtain ⟨d6, F6⟩ := c.d.def_ 6 (d := dOf "_law_made_first" 47) rfl
  obtain ⟨d7, F7⟩ := c.d.def_ 7 (d := dOf "_law_made_second" 48) rfl
  obtain ⟨d8, F8⟩ := c.d.def_ 8 (d := dOf "_law_made_third" 49) rfl
  obtain ⟨d9, F9⟩ := c.d.def_ 9 (d := dOf "_law_made" 50) rfl
  obtain ⟨d10, F10⟩ := c.d.def_ 10 (d := dOf "_law_held_by" 51) rfl
  obtain ⟨d11, F11⟩ := c.d.def_ 11 (d := dOf "_law_kin" 52) rfl
  obtain ⟨d12, F12⟩ := c.d.def_ 12 (d := dOf "_law_above_right" 53) rfl
  obtain ⟨d13, F13⟩ := c.d.def_ 13 (d := dOf "_law_raised" 54) rfl
  obtain ⟨d14, F14⟩ := c.d.def_ 14 (d := dOf "_law_caught" 55) rfl
  obtain ⟨d15, F15⟩ := c.d.def_ 15 (d := dOf "_law_error_right" 56) rfl
  obtain ⟨d16, F16⟩ := c.d.def_ 16 (d := dOf "_law_right" 57) rfl
  obtain ⟨d17, F17⟩ := c.d.def_ 17 (d := dOf "law" 58) rfl
  have b0 : Binds K d0 ["_law_script", "_law_k"] [] := F0.bindsN fun _ _ _ _ _ _ us hl => match us, hl with | [_, _], _ => rfl
  have b1 : Binds K d1 ["_law_pot_here", "_law_sides"] [] := F1.bindsN fun _ _ _ _ _ _ us hl => match us, hl with | [_, _], _ => rfl
  have b2 : Binds K d2 ["_law_pot_here", "_law_some"] [] := F2.bindsN fun _ _ _ _ _ _ us hl => match us, hl with | [_, _], _ => rfl
  have b3 : Binds K d3 ["_law_pot_here", "_law_size", "_law_taken"] [] := F3.bindsN fun _ _ _ _ _ _ us hl => match us, hl with | [_, _, _], _ => rfl
  have b4 : Binds K d4 ["_law_pot_here"] [] := F4.bindsN fun _ _ _ _ _ _ us hl => match us, hl with | [_], _ => rfl
  have b5 : Binds K d5 ["_law_pot_here", "_law_deep"] [] := F5.bindsN fun _ _ _ _ _ _ us hl => match us, hl with | [_, _], _ => rfl
  have b6 : Binds K d6 aM [] := F6.bindsN fun _ _ _ _ _ _ us hl => match us, hl with | [_, _, _], _ => rfl
  have b7 : Binds K d7 aM [] := F7.bindsN fun _ _ _ _ _ _ us hl => match us, hl with | [_, _, _], _ => rfl
  have b8 : Binds K d8 aM [] := F8.bindsN fun _ _ _ _ _ _ us hl => match us, hl with | [_, _, _], _ => rfl
  have b9 : Binds K d9 aMade [] := F9.bindsN fun _ _ _ _ _ _ us hl => match us, hl with | [_, _, _, _], _ => rfl
  have b10 : Binds K d10 ["_law_e", "_law_way"] [] := F10.bindsN fun _ _ _ _ _ _ us hl => match us, hl with | [_, _], _ => rfl
  have b11 : Binds K d11 ["_law_e"] [] := F11.bindsN fun _ _ _ _ _ _ us hl => match us, hl with | [_], _ => rfl
  have b12 : Binds K d12 ["_law_e", "_law_way"] [] := F12.bindsN fun _ _ _ _ _ _ us hl => match us, hl with | [_, _], _ => rfl
  have b13 : Binds K d13 ["_law_at", "_law_odd"] [] := F13.bindsN fun _ _ _ _ _ _ us hl => match us, hl with | [_, _], _ => rfl
  have b14 : Binds K d14 ["_law_at", "_law_odd"] [] := F14.bindsN fun _ _ _ _ _ _ us hl => match us, hl with | [_, _], _ => rfl
  have b15 : Binds K d15 aErr [] := F15.bindsN fun _ _ _ _ _ _ us hl => match us, hl with | [_, _, _, _], _ => rfl
  have b16 : Binds K d16 ["_law_pot_here"] [] := F16.bindsN fun _ _ _ _ _ _ us hl => match us, hl with | [_], _ => rfl
  have b17 := FunD.bindsA (ps := ["_law_script"]) F17 fun _ _ _ _ _ _ us hl => match us, hl with | [_], _ => rfl
  refine ⟨gL, d17, fun s v => b17 s [v] rfl, fun base _ _ => ?_⟩
  have D1 : Dn P w K mg base CX0 1 "_law_draw" ["_law_pot_here", "_law_sides"] spDraw := ⟨_, d1, ok_draw fr (fun_of' (st := sDraw) F1), gw _ (by decide +kernel), F1.kp, b1⟩
  have D2 : Dn P w K mg base CX0 2 "_law_pick" ["_law_pot_here", "_law_some"] (spPick K) := ⟨_, d2, ok_pick fr D1 (fun_of' (st := sPick) F2), gw _ (by decide +kernel), F2.kp, b2⟩
  have D3 : Dn P w K mg base CX0 3 "_law_named" ["_law_pot_here", "_law_size", "_law_taken"] (spNamed K) := ⟨_, d3, ok_named fr D1 D2 (fun_of' (st := sNamed) F3), gw _ (by decide +kernel), F3.kp, b3⟩
  have D4 : Dn P w K mg base CX0 3 "_law_far" ["_law_pot_here"] spFar := ⟨_, d4, ok_far fr D1 D2 (fun_of' (st := sFar) F4), gw _ (by decide +kernel), F4.kp, b4⟩
  have T0 : FnOk P w K mg base CX0 4 (He.fAd K ("_law_thing", none)) d5 ["_law_pot_here", "_law_deep"] (spT 1) := ok_thing (n := 0) fr D1 D2 D3 D4 ⟨_, d5, th_no, gw _ (by decide +kernel), F5.kp, b5⟩ (fun_of' (st := sThing) F5)
  have T1 : FnOk P w K mg base CX0 5 (He.fAd K ("_law_thing", none)) d5 ["_law_pot_here", "_law_deep"] (spT 2) := ok_thing (n := 1) fr D1 D2 D3 D4 ⟨_, d5, T0, gw _ (by decide +kernel), F5.kp, b5⟩ (fun_of' (st := sThing) F5)
  have T2 : FnOk P w K mg base CX0 6 (He.fAd K ("_law_thing", none)) d5 ["_law_pot_here", "_law_deep"] (spT 3) := ok_thing (n := 2) fr D1 D2 D3 D4 ⟨_, d5, T1, gw _ (by decide +kernel), F5.kp, b5⟩ (fun_of' (st := sThing) F5)
  have D5 : Dn P w K mg base CX0 7 "_law_thing" ["_law_pot_here", "_law_deep"] spTh := ⟨_, d5, th_or T1 T2, gw _ (by decide +kernel), F5.kp, b5⟩
  have M1 : Dn P w K mg base CX0 1 "_law_made_first" aM (spMk 0 9 K) := ⟨_, d6, ok_m1 fr gl on (fun_of' (st := sM1) F6), gw _ (by decide +kernel), F6.kp, b6⟩
  have M2 : Dn P w K mg base CX0 1 "_law_made_second" aM (spMk 9 18 K) := ⟨_, d7, ok_m2 fr gl on (fun_of' (st := sM2) F7), gw _ (by decide +kernel), F7.kp, b7⟩
  have M3 : Dn P w K mg base CX0 1 "_law_made_third" aM (spMk 18 30 K) := ⟨_, d8, ok_m3 fr gl on (fun_of' (st := sM3) F8), gw _ (by decide +kernel), F8.kp, b8⟩
  have M4 : Dn P w K mg base CX0 2 "_law_made" aMade (spMade K) := ⟨_, d9, ok_made fr gl on tw nl M1 M2 M3 (fun_of' (st := sMade) F9), gw _ (by decide +kernel), F9.kp, b9⟩
  have E1 : Dn P w K mg base CX0 1 "_law_held_by" ["_law_e", "_law_way"] (spHeld K) := ⟨_, d10, ok_held fr at_ (fun_of' (st := sHeld) F10), gw _ (by decide +kernel), F10.kp, b10⟩
  have E2 : Dn P w K mg base CX0 1 "_law_kin" ["_law_e"] (spKin K) := ⟨_, d11, ok_kin fr gl at_ ki (fun_of' (st := sKin) F11), gw _ (by decide +kernel), F11.kp, b11⟩
  have E3 : Dn P w K mg base CX0 1 "_law_above_right" ["_law_e", "_law_way"] (spAbv K) := ⟨_, d12, ok_abv fr gl at_ up (fun_of' (st := sAbv) F12), gw _ (by decide +kernel), F12.kp, b12⟩
  have C1 : Dn P w K mg base CX0 2 "_law_caught" ["_law_at", "_law_odd"] spCaught := ⟨_, d14, ok_caught fr gl at_ ki em (ok_raised fr gl on tw nl rs (fun_of' (st := sRaised) F13)) (gw _ (by decide +kernel)) F13.kp b13 (fun_of' (st := sCaught) F14), gw _ (by decide +kernel), F14.kp, b14⟩
  have G1 : DnG P w K mg base 3 "_law_error_right" aErr spErr := ⟨_, d15, ok_err fr M4 E1 E2 E3 (fun_of' (st := sErr) F15), gw _ (by decide +kernel), F15.kp, b15⟩
  have G2 : DnG P w K mg base 8 "_law_right" ["_law_pot_here"] spRight := ⟨_, d16, ok_right fr D5 G1 C1 (fun_of' (st := sRight) F16), gw _ (by decide +kernel), F16.kp, b16⟩
  have D0 : Dn P w K mg base CX0 1 "_law_pot" ["_law_script", "_law_k"] (spPot K) := ⟨_, d0, ok_pot fr (fun_of' (st := sPot) F0), gw _ (by decide +kernel), F0.kp, b0⟩
  exact ok_law fr D0 G2 (fun_of' (st := sLaw) F17)
end K10
namespace K10
open PySem PySem.W PySem.Calls PyProof.Rows
abbrev qv : Program := view R.prog [58]
abbrev dL : DefRec := HandSHeadRun.topDef R.prog 58
theorem g1 : opening R.prog = plainProg R.prog.main.scope.names := by kernel_rfl
theorem g2 (s : Shared) : fenceModules? R.prog s = some s := by kernel_rfl
theorem g3 : defOf qv R.name = some (dL, []) := by kernel_rfl
theorem g4 : R.prog.theDef R.name = some (dL.params, dL.body, dL.scope) := by kernel_rfl
theorem g5 : kwWritten? dL.params.kwonlyargs dL.params.kw_defaults = some [] := by kernel_rfl
theorem g6 : (!R.writes || R.records.isEmpty) = true := by rfl
theorem g7 : R.wellSaid = true := by decide +kernel
theorem g8 : (chainsOk qv && opensWell R.prog && (frees R.toRowW && R.within.isEmpty)) = true := by decide +kernel
theorem g9 : R.prog.bare := ⟨rfl, rfl, rfl, rfl, rfl, by decide +kernel⟩
set_option maxHeartbeats 8000000 in
theorem gw : R.toRowW.promised := by w_witness2
set_option maxHeartbeats 8000000 in
theorem gc : WalkO qv loose (XL qv []) hk.says R.toRowW dL [] fun f vs => PySem.call f vs := by
  refine Gd.walkG (l := PySem.Challenge.rw_keptlast_k10_errors) (n := 63) (k := 9) (x := "_law_script") rfl (by decide) (by kernel_rfl) ⟨rfl, by decide, by decide⟩ ?F
  intro w mg f h Y G hmg0
  obtain ⟨K, KX, c, ex⟩ := Y
  have hmg : mg ("law" : PySem.Str) = some (.ref f) := by
    have e : dL.name = ("law" : PySem.Str) := by kernel_rfl
    rw [← e]
    exact hmg0
  obtain ⟨gL, fd, hb, hF⟩ := K10.facts (P := (PySem.Challenge.rw_keptlast_k10_errors).prog) KX G c ex
  have e2 : f = He.ga K "law" := by
    have z := hmg.symm.trans gL
    injection z with z
    injection z
  subst e2
  exact ⟨K, fd, K10.spLaw K, KX, hb, fun H a ns hl _ hS => ⟨a, ns, rfl, hl, hS, fun _ => rfl⟩, hF⟩
end K10
open PySem PySem.W PySem.Calls PyProof.Rows
set_option maxRecDepth 100000 in
set_option maxHeartbeats 8000000 in
theorem PySem.Challenge.cw_keptlast_k10_errors_holds : PySem.Challenge.rw_keptlast_k10_errors.Holds := by
  w_on; o_law
  exact HandSHeadRun.head_any (r := K10.R) (q := K10.qv) (H := K10.hk) (ob := K10.ob) (M := 20000) (loose := K10.loose) (d := K10.dL) (kwd := []) K10.ob_eq K10.g1 K10.g2 K10.run K10.g3 K10.g4 K10.g5 K10.g6 K10.g7 K10.g8 K10.g9 K10.gw K10.gc
