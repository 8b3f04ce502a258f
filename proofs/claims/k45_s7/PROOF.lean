import PyProof.Rows.All
import Wide.All
import OpenK.AllK
import Wide.FinOn
import KE.KStateDown
import HandS.ForMost
import HandS.IsInst
import HandS.TupAny
import HandS.Conv
import HandS.Style
import HandS.More
import HandS.WordsExc
import HandS.Defaults
import HandS.MakeKwOnly
import HandS.EndBits
import HandS.Head0
import HandS.Head1
import HandS.Head2
import HandS.HeadEnd
import HandS.HeadHook1
import HandS.HeadHook2
import HandS.Walk
import HandS.Codes
import HandS.SetFor
import HandS.Strs
import HandS.DictComp
import HandS.SortRule
import HandS.SortInts
import HandS.CallLocal
import HandS.Deep
import HandS.WrittenGet
import HandS.HeadHook3
import HandS.SortOrd
import KE.KSortTupAny
import HandS.Flow
import HandS.Star
import HandS.SlotsOwn
import HandS.MakeKw
import HandS.Property
import HandS.ExcOwn
import HandS.ExcInit
import HandS.ExcField
import HandS.TryMany
import HandS.TryOnly
import HandS.Wide
import KE.KExcIs
import HandS.HotCalls
import HandS.RaiseFrom
import HandS.SuiteRaise
import HandS.ExcInitHot
import HandS.Comp
import PySem.Challenge.RW_levelgifts_k45_core_is_the_last_knot
set_option Elab.async false
set_option linter.all false
set_option maxRecDepth 100000
/-! What the head's run is asked: tests, and the Hook. -/
namespace Lg
open PySem PySem.Spec PyProof.Rows L2
def intsB : List Value → List Int → Bool
  | [], [] => true
  | .int i _ :: us, n :: ns => decide (i = n) && intsB us ns
  | _, _ => false
def tupleB (K : PySem.W.Frag) (v : Value) (p : List Value → Bool) : Bool := match v with
  | .ref a => match K.lookup a with
    | some o => (match o.cls with | .type c => decide (c = "tuple") | _ => false) && (match o.data with | .seq its _ => p its.toList | _ => false)
    | none => false
  | _ => false
def tupsB (K : PySem.W.Frag) : List Value → List (List Int) → Bool
  | [], [] => true
  | u :: us, ns :: nss => tupleB K u (fun l => intsB l ns) && tupsB K us nss
  | _, _ => false
def tup2B (K : PySem.W.Frag) (a : Addr) (nss : List (List Int)) : Bool := tupleB K (.ref a) fun l => tupsB K l nss
/-- the values of a written dict, as a test -/
def refsB (K : PySem.W.Frag) (d : Addr) (as : List Addr) : Bool := match K.lookup d with
  | some ⟨.type "dict", none, .dict es _, sl⟩ => sl.isEmpty && decide (es.size = as.length) && (es.toList.zip as).all fun p => match p.1.val with | .ref b => b == p.2 | _ => false
  | _ => false
/-- what isinstance asks of a class, as a test -/
def insB (K : PySem.W.Frag) (C : Addr) : Bool :=
  He.eqO (PySem.W.findIn K (.ref C) "__class__") (some (some (.builtin "object.__class__"))) && (He.eqO (PySem.W.specialIn K (.builtin "object.__class__") "__get__") (some (some (.builtin "getset_descriptor.__get__"))) &&
  (decide (PySem.W.takesIn K (.builtin "object.__class__") = some true) && (decide (PySem.W.mroIn K C (.type "object") = some true) && decide (PySem.W.kitOne K (.ref C) (.ref C) = some true))))
/-- an own error's class, as tests -/
def oexB (K : PySem.W.Frag) (C : Addr) : Bool := match K.lookup C with
  | some ⟨.type "type", _, .cls cd, sl⟩ => (match cd.mro, sl.toList with
    | .ref C' :: bm, [_, _, _, _, some (.builtin n), _] => C' == C && n == "ValueError.__new__" && !cd.hasDel && (cd.hasDict && PySem.HandSPX.refsVE bm)
    | _, _ => false)
  | _ => false
def excB (K : PySem.W.Frag) (C : Addr) (fs : List Str) : Bool :=
  oexB K C && (He.eqO (PySem.W.findIn K (.ref C) "__setattr__") (some (some (.builtin "object.__setattr__"))) && (decide (PySem.W.typeIn K (.ref C) = some (.type "type")) && (PySem.W.keepIn K (.ref C) && (xfB K C &&
  (He.eqO (PySem.W.findIn K (.ref C) "__class__") (some (some (.builtin "object.__class__"))) && (He.eqO (PySem.W.specialIn K (.builtin "object.__class__") "__get__") (some (some (.builtin "getset_descriptor.__get__"))) &&
  (decide (PySem.W.takesIn K (.builtin "object.__class__") = some true) && (decide (PySem.W.mroIn K C (.type "object") = some true) && (He.eqO (PySem.W.findIn K (.ref C) "__init__") (some (some (.ref (He.ma K C "__init__")))) &&
  (decide (PySem.W.typeIn K (.ref (He.ma K C "__init__")) = some (.type "function")) && fs.all fun f => He.eqO (PySem.W.findIn K (.ref C) f) (some none)))))))))))
/-- the types of plain data -/
abbrev sixT : List String := ["NoneType", "bool", "int", "str", "list", "tuple"]
def insXB (K : PySem.W.Frag) (C : Addr) : Bool := insB K C && ((sixT.all fun n => decide (PySem.W.kitOne K (.type n) (.ref C) = some false)) && ((sixT.all fun n => PySem.W.notFirst K C (.type n)) && He.eqO (PySem.W.findIn K (.ref C) "__ne__") (some (some (.builtin "object.__ne__")))))
/-- the classes of own errors; which of them a caught one is of -/
def kin16 : List Str := ["BadNet", "BadText", "NoRow", "BadTree", "BadName", "BadValue", "NoLeaf", "NoPlace", "NoArrow", "NoPair", "BadRow", "BadMoments", "BadPaper", "Unlike", "BadEdit", "TooMany"]
def kinB (K : PySem.W.Frag) (nm : Str) : Bool := (kin16.all fun k => decide (PySem.W.kitOne K (.ref (He.ga K nm)) (.ref (He.ga K k)) = some (k == nm))) && (decide (PySem.W.kitOne K (.ref (He.ga K nm)) (.ref (He.ga K "LevelError")) = some true) && decide (PySem.W.kitOne K (.ref (He.ga K nm)) (.type "ValueError") = some true))
section
open He
/-- a property: its class, its name, its getter's name, qualified name, parameters, body, scope -/
structure DefP where
  cls : Str
  prop : Str
  name : Str
  qual : Str
  params : Arguments
  body : List Stmt
  scope : Scope
/-- the getter of a property -/
def gAd (K : PySem.W.Frag) (C f : Str) : Addr := match PySem.W.recIn K (ma K (ga K C) f) "property" with
  | some (.ref g :: _) => g
  | _ => 0
def fnWA (K : PySem.W.Frag) (a : Addr) : FnW := match K.lookup a with
  | some ⟨_, _, .func fd, _⟩ => some (fd.name, fd.qualname, fd.params, fd.body, fd.scope, fd.globals, fd.closure, fd.builtins)
  | _ => none
def DefP.val (d : DefP) : FnW := some (d.name, d.qual, d.params, .stmts d.body, d.scope, mainGlobals, [], builtinsNs)
def DefP.ok (K : PySem.W.Frag) (d : DefP) : Bool :=
  eqO (PySem.W.findIn K (.ref (ga K d.cls)) d.prop) (some (some (.ref (ma K (ga K d.cls) d.prop)))) && (eqO (PySem.W.specialIn K (.ref (ma K (ga K d.cls) d.prop)) "__get__") (some (some (.builtin "property.__get__"))) &&
  (decide (PySem.W.takesIn K (.ref (ma K (ga K d.cls) d.prop)) = some true) && ((match PySem.W.recIn K (ma K (ga K d.cls) d.prop) "property" with
    | some (.ref _ :: _) => true
    | _ => false) && (PySem.W.keepIn K (.ref (gAd K d.cls d.prop)) && (match K.lookup (gAd K d.cls d.prop) with
    | some ⟨_, _, .func fd, _⟩ => PySem.W.codeIn K fd.code d.qual && (dflB K fd.defaults [] && kwdB K fd.kwdefaults [])
    | _ => false)))))
def asX (ps : List DefP) (g : Addr → Option Obj) (as : List Addr) : List Addr := as ++ ps.flatMap fun d => match g (gAd (frG g as) d.cls d.prop) with
  | some o => refsO o
  | none => []
/-- new ones of a list, each once: a mask of those that were seen -/
def newB (k : List Addr → Nat → List Addr) : List Addr → Nat → List Addr → List Addr
  | [], m, acc => k acc.reverse m
  | a :: r, m, acc => match Nat.beq (Nat.land (Nat.shiftRight m a) 1) 1 with
    | true => newB k r m acc
    | false => newB k r (Nat.lor m (Nat.shiftLeft 1 a)) (a :: acc)
/-- what the new ones name, level by level -/
def stepB (g : Addr → Option Obj) : Nat → List Addr → Nat → List Addr
  | 0, fr, _ => fr
  | n + 1, fr, m => fr ++ newB (stepB g n) (fr.flatMap fun a => match g a with
    | some o => refsD o
    | none => []) m []
def asB (g : Addr → Option Obj) (n : Nat) : List Addr := stepB g n [mainGlobals] (Nat.shiftLeft 1 mainGlobals)
abbrev AlX : Type := AlT × (List FnW × Bool)
def obsX (fa : List Fa) (fn : List DefD) (ts : List Tab) (ps : List DefP) (ck : PySem.W.Frag → Bool) (K : PySem.W.Frag) : AlX := (obsT fa fn ts K, (ps.map fun d => fnWA K (gAd K d.cls d.prop)), (ps.all fun d => d.ok K) && ck K)
def valX (fn : List DefD) (ts : List Tab) (ps : List DefP) (w : World) : AlX := (valT fn ts w, ps.map DefP.val, true)
def obsXG (n : Nat) (fa : List Fa) (fn : List DefD) (ts : List Tab) (ps : List DefP) (ck : PySem.W.Frag → Bool) (g : Addr → Option Obj) : AlX := obsX fa fn ts ps ck (frG g (asX ps g (asB g n)))
def SaysX (fa : List Fa) (fn : List DefD) (ts : List Tab) (ps : List DefP) (ck : PySem.W.Frag → Bool) (w : World) (K : PySem.W.Frag) : Prop := obsX fa fn ts ps ck K = valX fn ts ps w
def hookX (n : Nat) (fa : List Fa) (fn : List DefD) (ts : List Tab) (ps : List DefP) (ck : PySem.W.Frag → Bool) : PySem.W.Hook where
  α := AlX
  obs := fun s => obsXG n fa fn ts ps ck s.heap.get?
  val := fun w => valX fn ts ps w
  says := fun w h => ∃ K : PySem.W.Frag, K.In h ∧ SaysX fa fn ts ps ck w K
  of := fun _ _ e => ⟨_, frG_in, e⟩
  keeps := fun _ _ _ ⟨K, hK, c⟩ k => ⟨K, PySem.W.Frag.In.keeps hK k, c⟩
theorem obsXG_eq {n : Nat} {fa : List Fa} {fn : List DefD} {ts : List Tab} {ps : List DefP} {ck : PySem.W.Frag → Bool} {g : Addr → Option Obj} {s : Shared} (h : ∀ a, g a = s.heap.get? a) : obsXG n fa fn ts ps ck g = (hookX n fa fn ts ps ck).obs s := by
  have e : g = s.heap.get? := funext h
  rw [e]
  rfl
end
end Lg

namespace Pf
open PySem PySem.Spec PyProof.Rows L2
open Lg
def topS (i : Nat) : Stmt := PySem.Challenge.pw_levelgifts_k45_core_is_the_last_knot.main.body.getD i (.Pass ⟨0, 0, 0, 0⟩)
abbrev s_is_name : Stmt := topS 14
abbrev s_is_whole : Stmt := topS 15
abbrev s_is_place : Stmt := topS 16
abbrev s_is_place_pair : Stmt := topS 17
abbrev s_is_labelled_place : Stmt := topS 18
abbrev s_all_places : Stmt := topS 19
abbrev s_relatives : Stmt := topS 20
abbrev s_places_below : Stmt := topS 21
abbrev s_long_lists : Stmt := topS 22
abbrev s_bad_arrows : Stmt := topS 23
abbrev s_bad_leaves : Stmt := topS 24
abbrev s_bad_names : Stmt := topS 25
abbrev s_leaves_again : Stmt := topS 26
abbrev s_arrows_again : Stmt := topS 27
abbrev s_no_leaves : Stmt := topS 28
abbrev s_bad_degrees : Stmt := topS 29
abbrev s_bad_roots : Stmt := topS 30
abbrev s_ring_places : Stmt := topS 31
abbrev s_bad_labels : Stmt := topS 32
abbrev s_too_many_mixings : Stmt := topS 33
abbrev s_first_fault : Stmt := topS 36
abbrev s_net_fault : Stmt := topS 37
abbrev s_split_child : Stmt := topS 39
abbrev s_member_below_mixing : Stmt := topS 40
abbrev s_mixing_children : Stmt := topS 41
abbrev s_member_child : Stmt := topS 42
abbrev s_bound_mothers : Stmt := topS 43
abbrev s_greatest_knot : Stmt := topS 45
abbrev s_knot_core : Stmt := topS 46
abbrev s_demand_inner : Stmt := topS 47
abbrev s_rule : Stmt := topS 48
abbrev s_held : Stmt := topS 49
abbrev s_greatest_part : Stmt := topS 50
abbrev s_Net___init : Stmt := inClass (topS 53) 0
abbrev s_Net_places : Stmt := inClass (topS 53) 2
abbrev s_Net_inner : Stmt := inClass (topS 53) 3
abbrev s_Net_splits : Stmt := inClass (topS 53) 4
abbrev s_Net_mixings : Stmt := inClass (topS 53) 5
abbrev s_Net_arrows : Stmt := inClass (topS 53) 6
abbrev s_Net_leaves : Stmt := inClass (topS 53) 7
abbrev s_Net_names : Stmt := inClass (topS 53) 8
abbrev s_Net_mothers : Stmt := inClass (topS 53) 9
abbrev s_Net_children : Stmt := inClass (topS 53) 10
abbrev s_Net_kind_of : Stmt := inClass (topS 53) 11
abbrev s_Net___eq : Stmt := inClass (topS 53) 15
abbrev s_Net___contains : Stmt := inClass (topS 53) 16
abbrev s_Net__demand : Stmt := inClass (topS 53) 18
abbrev s_law_mix : Stmt := topS 55
abbrev s_law_store : Stmt := topS 56
abbrev s_law_take : Stmt := topS 57
abbrev s_law_pick : Stmt := topS 58
abbrev s_law_same : Stmt := topS 59
abbrev s_law_rising : Stmt := topS 60
abbrev s_law_all : Stmt := topS 61
abbrev s_law_ups : Stmt := topS 62
abbrev s_law_downs : Stmt := topS 63
abbrev s_law_inner : Stmt := topS 64
abbrev s_law_is_net : Stmt := topS 65
abbrev s_law_rule : Stmt := topS 66
abbrev s_law_spots : Stmt := topS 67
abbrev s_law_named : Stmt := topS 68
abbrev s_law_size : Stmt := topS 69
abbrev s_law_woven : Stmt := topS 70
abbrev s_law_tangled : Stmt := topS 71
abbrev s_law_peeled : Stmt := topS 72
abbrev s_law_core : Stmt := topS 73
abbrev s_law_is_core : Stmt := topS 74
abbrev s_law_holds : Stmt := topS 75
abbrev s_law : Stmt := topS 76
def d_is_name : He.DefD := ⟨("is_name", none), "is_name", "is_name", defArgs s_is_name, defBody s_is_name, defScope s_is_name, [], []⟩
def d_is_whole : He.DefD := ⟨("is_whole", none), "is_whole", "is_whole", defArgs s_is_whole, defBody s_is_whole, defScope s_is_whole, [], []⟩
def d_is_place : He.DefD := ⟨("is_place", none), "is_place", "is_place", defArgs s_is_place, defBody s_is_place, defScope s_is_place, [], []⟩
def d_is_place_pair : He.DefD := ⟨("is_place_pair", none), "is_place_pair", "is_place_pair", defArgs s_is_place_pair, defBody s_is_place_pair, defScope s_is_place_pair, [], []⟩
def d_is_labelled_place : He.DefD := ⟨("_is_labelled_place", none), "_is_labelled_place", "_is_labelled_place", defArgs s_is_labelled_place, defBody s_is_labelled_place, defScope s_is_labelled_place, [], []⟩
def d_all_places : He.DefD := ⟨("all_places", none), "all_places", "all_places", defArgs s_all_places, defBody s_all_places, defScope s_all_places, [], []⟩
def d_relatives : He.DefD := ⟨("relatives", none), "relatives", "relatives", defArgs s_relatives, defBody s_relatives, defScope s_relatives, [], []⟩
def d_places_below : He.DefD := ⟨("places_below", none), "places_below", "places_below", defArgs s_places_below, defBody s_places_below, defScope s_places_below, [], []⟩
def d_long_lists : He.DefD := ⟨("_long_lists", none), "_long_lists", "_long_lists", defArgs s_long_lists, defBody s_long_lists, defScope s_long_lists, [], []⟩
def d_bad_arrows : He.DefD := ⟨("_bad_arrows", none), "_bad_arrows", "_bad_arrows", defArgs s_bad_arrows, defBody s_bad_arrows, defScope s_bad_arrows, [], []⟩
def d_bad_leaves : He.DefD := ⟨("_bad_leaves", none), "_bad_leaves", "_bad_leaves", defArgs s_bad_leaves, defBody s_bad_leaves, defScope s_bad_leaves, [], []⟩
def d_bad_names : He.DefD := ⟨("_bad_names", none), "_bad_names", "_bad_names", defArgs s_bad_names, defBody s_bad_names, defScope s_bad_names, [], []⟩
def d_leaves_again : He.DefD := ⟨("_leaves_again", none), "_leaves_again", "_leaves_again", defArgs s_leaves_again, defBody s_leaves_again, defScope s_leaves_again, [], []⟩
def d_arrows_again : He.DefD := ⟨("_arrows_again", none), "_arrows_again", "_arrows_again", defArgs s_arrows_again, defBody s_arrows_again, defScope s_arrows_again, [], []⟩
def d_no_leaves : He.DefD := ⟨("_no_leaves", none), "_no_leaves", "_no_leaves", defArgs s_no_leaves, defBody s_no_leaves, defScope s_no_leaves, [], []⟩
def d_bad_degrees : He.DefD := ⟨("_bad_degrees", none), "_bad_degrees", "_bad_degrees", defArgs s_bad_degrees, defBody s_bad_degrees, defScope s_bad_degrees, [], []⟩
def d_bad_roots : He.DefD := ⟨("_bad_roots", none), "_bad_roots", "_bad_roots", defArgs s_bad_roots, defBody s_bad_roots, defScope s_bad_roots, [], []⟩
def d_ring_places : He.DefD := ⟨("_ring_places", none), "_ring_places", "_ring_places", defArgs s_ring_places, defBody s_ring_places, defScope s_ring_places, [], []⟩
def d_bad_labels : He.DefD := ⟨("_bad_labels", none), "_bad_labels", "_bad_labels", defArgs s_bad_labels, defBody s_bad_labels, defScope s_bad_labels, [], []⟩
def d_too_many_mixings : He.DefD := ⟨("_too_many_mixings", none), "_too_many_mixings", "_too_many_mixings", defArgs s_too_many_mixings, defBody s_too_many_mixings, defScope s_too_many_mixings, [], []⟩
def d_first_fault : He.DefD := ⟨("first_fault", none), "first_fault", "first_fault", defArgs s_first_fault, defBody s_first_fault, defScope s_first_fault, [], []⟩
def d_net_fault : He.DefD := ⟨("net_fault", none), "net_fault", "net_fault", defArgs s_net_fault, defBody s_net_fault, defScope s_net_fault, [], []⟩
def d_split_child : He.DefD := ⟨("_split_child", none), "_split_child", "_split_child", defArgs s_split_child, defBody s_split_child, defScope s_split_child, [], []⟩
def d_member_below_mixing : He.DefD := ⟨("_member_below_mixing", none), "_member_below_mixing", "_member_below_mixing", defArgs s_member_below_mixing, defBody s_member_below_mixing, defScope s_member_below_mixing, [], []⟩
def d_mixing_children : He.DefD := ⟨("_mixing_children", none), "_mixing_children", "_mixing_children", defArgs s_mixing_children, defBody s_mixing_children, defScope s_mixing_children, [], []⟩
def d_member_child : He.DefD := ⟨("_member_child", none), "_member_child", "_member_child", defArgs s_member_child, defBody s_member_child, defScope s_member_child, [], []⟩
def d_bound_mothers : He.DefD := ⟨("_bound_mothers", none), "_bound_mothers", "_bound_mothers", defArgs s_bound_mothers, defBody s_bound_mothers, defScope s_bound_mothers, [], []⟩
def d_greatest_knot : He.DefD := ⟨("greatest_knot", none), "greatest_knot", "greatest_knot", defArgs s_greatest_knot, defBody s_greatest_knot, defScope s_greatest_knot, [], [("members", .non)]⟩
def d_knot_core : He.DefD := ⟨("knot_core", none), "knot_core", "knot_core", defArgs s_knot_core, defBody s_knot_core, defScope s_knot_core, [], []⟩
def d_demand_inner : He.DefD := ⟨("_demand_inner", none), "_demand_inner", "_demand_inner", defArgs s_demand_inner, defBody s_demand_inner, defScope s_demand_inner, [], []⟩
def d_rule : He.DefD := ⟨("_rule", none), "_rule", "_rule", defArgs s_rule, defBody s_rule, defScope s_rule, [], []⟩
def d_held : He.DefD := ⟨("_held", none), "_held", "_held", defArgs s_held, defBody s_held, defScope s_held, [], []⟩
def d_greatest_part : He.DefD := ⟨("_greatest_part", none), "_greatest_part", "_greatest_part", defArgs s_greatest_part, defBody s_greatest_part, defScope s_greatest_part, [], []⟩
def d_Net___init : He.DefD := ⟨("Net", some "__init__"), "__init__", "Net.__init__", defArgs s_Net___init, defBody s_Net___init, defScope s_Net___init, [], []⟩
def d_Net_places : He.DefD := ⟨("Net", some "places"), "places", "Net.places", defArgs s_Net_places, defBody s_Net_places, defScope s_Net_places, [], []⟩
def d_Net_inner : He.DefD := ⟨("Net", some "inner"), "inner", "Net.inner", defArgs s_Net_inner, defBody s_Net_inner, defScope s_Net_inner, [], []⟩
def d_Net_splits : He.DefD := ⟨("Net", some "splits"), "splits", "Net.splits", defArgs s_Net_splits, defBody s_Net_splits, defScope s_Net_splits, [], []⟩
def d_Net_mixings : He.DefD := ⟨("Net", some "mixings"), "mixings", "Net.mixings", defArgs s_Net_mixings, defBody s_Net_mixings, defScope s_Net_mixings, [], []⟩
def d_Net_arrows : He.DefD := ⟨("Net", some "arrows"), "arrows", "Net.arrows", defArgs s_Net_arrows, defBody s_Net_arrows, defScope s_Net_arrows, [], []⟩
def d_Net_leaves : He.DefD := ⟨("Net", some "leaves"), "leaves", "Net.leaves", defArgs s_Net_leaves, defBody s_Net_leaves, defScope s_Net_leaves, [], []⟩
def d_Net_names : He.DefD := ⟨("Net", some "names"), "names", "Net.names", defArgs s_Net_names, defBody s_Net_names, defScope s_Net_names, [], []⟩
def d_Net_mothers : He.DefD := ⟨("Net", some "mothers"), "mothers", "Net.mothers", defArgs s_Net_mothers, defBody s_Net_mothers, defScope s_Net_mothers, [], []⟩
def d_Net_children : He.DefD := ⟨("Net", some "children"), "children", "Net.children", defArgs s_Net_children, defBody s_Net_children, defScope s_Net_children, [], []⟩
def d_Net_kind_of : He.DefD := ⟨("Net", some "kind_of"), "kind_of", "Net.kind_of", defArgs s_Net_kind_of, defBody s_Net_kind_of, defScope s_Net_kind_of, [], []⟩
def d_Net___eq : He.DefD := ⟨("Net", some "__eq__"), "__eq__", "Net.__eq__", defArgs s_Net___eq, defBody s_Net___eq, defScope s_Net___eq, [], []⟩
def d_Net___contains : He.DefD := ⟨("Net", some "__contains__"), "__contains__", "Net.__contains__", defArgs s_Net___contains, defBody s_Net___contains, defScope s_Net___contains, [], []⟩
def d_Net__demand : He.DefD := ⟨("Net", some "_demand"), "_demand", "Net._demand", defArgs s_Net__demand, defBody s_Net__demand, defScope s_Net__demand, [], []⟩
def d_law_mix : He.DefD := ⟨("_law_mix", none), "_law_mix", "_law_mix", defArgs s_law_mix, defBody s_law_mix, defScope s_law_mix, [], []⟩
def d_law_store : He.DefD := ⟨("_law_store", none), "_law_store", "_law_store", defArgs s_law_store, defBody s_law_store, defScope s_law_store, [], []⟩
def d_law_take : He.DefD := ⟨("_law_take", none), "_law_take", "_law_take", defArgs s_law_take, defBody s_law_take, defScope s_law_take, [], []⟩
def d_law_pick : He.DefD := ⟨("_law_pick", none), "_law_pick", "_law_pick", defArgs s_law_pick, defBody s_law_pick, defScope s_law_pick, [], []⟩
def d_law_same : He.DefD := ⟨("_law_same", none), "_law_same", "_law_same", defArgs s_law_same, defBody s_law_same, defScope s_law_same, [], []⟩
def d_law_rising : He.DefD := ⟨("_law_rising", none), "_law_rising", "_law_rising", defArgs s_law_rising, defBody s_law_rising, defScope s_law_rising, [], []⟩
def d_law_all : He.DefD := ⟨("_law_all", none), "_law_all", "_law_all", defArgs s_law_all, defBody s_law_all, defScope s_law_all, [], []⟩
def d_law_ups : He.DefD := ⟨("_law_ups", none), "_law_ups", "_law_ups", defArgs s_law_ups, defBody s_law_ups, defScope s_law_ups, [], []⟩
def d_law_downs : He.DefD := ⟨("_law_downs", none), "_law_downs", "_law_downs", defArgs s_law_downs, defBody s_law_downs, defScope s_law_downs, [], []⟩
def d_law_inner : He.DefD := ⟨("_law_inner", none), "_law_inner", "_law_inner", defArgs s_law_inner, defBody s_law_inner, defScope s_law_inner, [], []⟩
def d_law_is_net : He.DefD := ⟨("_law_is_net", none), "_law_is_net", "_law_is_net", defArgs s_law_is_net, defBody s_law_is_net, defScope s_law_is_net, [], []⟩
def d_law_rule : He.DefD := ⟨("_law_rule", none), "_law_rule", "_law_rule", defArgs s_law_rule, defBody s_law_rule, defScope s_law_rule, [], []⟩
def d_law_spots : He.DefD := ⟨("_law_spots", none), "_law_spots", "_law_spots", defArgs s_law_spots, defBody s_law_spots, defScope s_law_spots, [], []⟩
def d_law_named : He.DefD := ⟨("_law_named", none), "_law_named", "_law_named", defArgs s_law_named, defBody s_law_named, defScope s_law_named, [], []⟩
def d_law_size : He.DefD := ⟨("_law_size", none), "_law_size", "_law_size", defArgs s_law_size, defBody s_law_size, defScope s_law_size, [], []⟩
def d_law_woven : He.DefD := ⟨("_law_woven", none), "_law_woven", "_law_woven", defArgs s_law_woven, defBody s_law_woven, defScope s_law_woven, [], []⟩
def d_law_tangled : He.DefD := ⟨("_law_tangled", none), "_law_tangled", "_law_tangled", defArgs s_law_tangled, defBody s_law_tangled, defScope s_law_tangled, [], []⟩
def d_law_peeled : He.DefD := ⟨("_law_peeled", none), "_law_peeled", "_law_peeled", defArgs s_law_peeled, defBody s_law_peeled, defScope s_law_peeled, [], []⟩
def d_law_core : He.DefD := ⟨("_law_core", none), "_law_core", "_law_core", defArgs s_law_core, defBody s_law_core, defScope s_law_core, [], []⟩
def d_law_is_core : He.DefD := ⟨("_law_is_core", none), "_law_is_core", "_law_is_core", defArgs s_law_is_core, defBody s_law_is_core, defScope s_law_is_core, [], []⟩
def d_law_holds : He.DefD := ⟨("_law_holds", none), "_law_holds", "_law_holds", defArgs s_law_holds, defBody s_law_holds, defScope s_law_holds, [], []⟩
def d_law : He.DefD := ⟨("law", none), "law", "law", defArgs s_law, defBody s_law, defScope s_law, [], []⟩
def fnL : List He.DefD := [d_is_name, d_is_whole, d_is_place, d_is_place_pair, d_is_labelled_place, d_all_places, d_relatives, d_places_below, d_long_lists, d_bad_arrows, d_bad_leaves, d_bad_names, d_leaves_again, d_arrows_again, d_no_leaves, d_bad_degrees, d_bad_roots, d_ring_places, d_bad_labels, d_too_many_mixings, d_first_fault, d_net_fault, d_split_child, d_member_below_mixing, d_mixing_children, d_member_child, d_bound_mothers, d_greatest_knot, d_knot_core, d_demand_inner, d_rule, d_held, d_greatest_part, d_Net___init, d_Net_places, d_Net_inner, d_Net_splits, d_Net_mixings, d_Net_arrows, d_Net_leaves, d_Net_names, d_Net_mothers, d_Net_children, d_Net_kind_of, d_Net___eq, d_Net___contains, d_Net__demand, d_law_mix, d_law_store, d_law_take, d_law_pick, d_law_same, d_law_rising, d_law_all, d_law_ups, d_law_downs, d_law_inner, d_law_is_net, d_law_rule, d_law_spots, d_law_named, d_law_size, d_law_woven, d_law_tangled, d_law_peeled, d_law_core, d_law_is_core, d_law_holds, d_law]
def faL : List He.Fa := [.glo "is_name", .glo "is_whole", .glo "is_place", .glo "is_place_pair", .glo "_is_labelled_place", .glo "all_places", .glo "relatives", .glo "places_below", .glo "_long_lists", .glo "_bad_arrows", .glo "_bad_leaves", .glo "_bad_names", .glo "_leaves_again", .glo "_arrows_again", .glo "_no_leaves", .glo "_bad_degrees", .glo "_bad_roots", .glo "_ring_places", .glo "_bad_labels", .glo "_too_many_mixings", .glo "first_fault", .glo "net_fault", .glo "_split_child", .glo "_member_below_mixing", .glo "_mixing_children", .glo "_member_child", .glo "_bound_mothers", .glo "greatest_knot", .glo "knot_core", .glo "_demand_inner", .glo "_rule", .glo "_held", .glo "_greatest_part", .glo "_law_mix", .glo "_law_store", .glo "_law_take", .glo "_law_pick", .glo "_law_same", .glo "_law_rising", .glo "_law_all", .glo "_law_ups", .glo "_law_downs", .glo "_law_inner", .glo "_law_is_net", .glo "_law_rule", .glo "_law_spots", .glo "_law_named", .glo "_law_size", .glo "_law_woven", .glo "_law_tangled", .glo "_law_peeled", .glo "_law_core", .glo "_law_is_core", .glo "_law_holds", .glo "law", .free "len", .int "LONGEST_NAME" 8, .free "isinstance", .free "str", .free "all", .str "LETTERS" "abcdefghijklmnopqrstuvwxyz", .str "DIGITS" "0123456789", .free "bool", .free "int", .int "LAST_PLACE" 9999, .free "tuple", .free "sorted", .free "set", .free "list", .int "MOST_LEAVES" 12, .int "MOST_ARROWS" 46, .free "enumerate", .free "range", .glo "DEGREES", .int "MOST_MIXINGS" 8, .glo "LIST_FAULTS", .glo "PLACE_FAULTS", .free "dict", .free "any", .glo "RULES", .glo "KIND_BY_CHILDREN", .free "max", .free "abs", .free "min", .cls "Net", .noat "Net" "_arrows", .noat "Net" "_leaves", .noat "Net" "_mothers", .noat "Net" "_children", .noat "Net" "_name_at", .noat "Net" "_place_at", .noat "Net" "_names", .noat "Net" "_root", .glo "Net", .meth "Net" "_demand", .meth "Net" "children", .meth "Net" "kind_of", .meth "Net" "mothers", .meth "Net" "inner", .mkr "Net", .meth "Net" "places", .meth "Net" "splits", .meth "Net" "mixings", .meth "Net" "arrows", .meth "Net" "leaves", .meth "Net" "names", .meth "Net" "__eq__", .meth "Net" "__contains__"]
def tsL : List He.Tab := [(fun K => He.ga K "LIST_FAULTS", ["long", "arrow", "leaf", "name", "again", "double", "none"]), (fun K => He.ga K "PLACE_FAULTS", ["degree", "roots", "ring", "label", "mixings"]), (fun K => He.ga K "RULES", ["split", "below", "mixings", "child", "mothers"])]
def psL : List DefP := []
def ckL (K : PySem.W.Frag) : Bool := tup2B K (He.ga K "DEGREES") [[0, 0], [0, 2], [1, 2], [2, 1], [1, 0]] && (He.valsB K (He.ga K "LIST_FAULTS") [("long", .glo "_long_lists"), ("arrow", .glo "_bad_arrows"), ("leaf", .glo "_bad_leaves"), ("name", .glo "_bad_names"), ("again", .glo "_leaves_again"), ("double", .glo "_arrows_again"), ("none", .glo "_no_leaves")] && (refsB K (He.ga K "LIST_FAULTS") [He.ga K "_long_lists", He.ga K "_bad_arrows", He.ga K "_bad_leaves", He.ga K "_bad_names", He.ga K "_leaves_again", He.ga K "_arrows_again", He.ga K "_no_leaves"] && (He.valsB K (He.ga K "PLACE_FAULTS") [("degree", .glo "_bad_degrees"), ("roots", .glo "_bad_roots"), ("ring", .glo "_ring_places"), ("label", .glo "_bad_labels"), ("mixings", .glo "_too_many_mixings")] && (refsB K (He.ga K "PLACE_FAULTS") [He.ga K "_bad_degrees", He.ga K "_bad_roots", He.ga K "_ring_places", He.ga K "_bad_labels", He.ga K "_too_many_mixings"] && (He.valsB K (He.ga K "RULES") [("split", .glo "_split_child"), ("below", .glo "_member_below_mixing"), ("mixings", .glo "_mixing_children"), ("child", .glo "_member_child"), ("mothers", .glo "_bound_mothers")] && (refsB K (He.ga K "RULES") [He.ga K "_split_child", He.ga K "_member_below_mixing", He.ga K "_mixing_children", He.ga K "_member_child", He.ga K "_bound_mothers"] && (He.tupB K "KIND_BY_CHILDREN" [.str "leaf", .str "mixing", .str "split"] && (insXB K (He.ga K "Net")))))))))
abbrev R : PySem.W.OpenRow := PySem.W.OpenLaw.row PySem.Challenge.rw_levelgifts_k45_core_is_the_last_knot
abbrev hk : PySem.W.Hook := hookX 4 faL fnL tsL psL ckL
def ob (s : PySem.W.SharedT) : AlX := obsXG 4 faL fnL tsL psL ckL (HandSHeadRun.getT s)
theorem ob_eq (s : PySem.W.SharedT) : ob s = hk.obs s.abs := obsXG_eq (HandSHeadRun.getT_eq s)
def loose : List PySem.Str := [("_wall" : PySem.Str), ("__name__" : PySem.Str), ("LevelError" : PySem.Str), ("BadNet" : PySem.Str), ("NoPlace" : PySem.Str), ("LETTERS" : PySem.Str), ("DIGITS" : PySem.Str), ("LONGEST_NAME" : PySem.Str), ("LAST_PLACE" : PySem.Str), ("MOST_ARROWS" : PySem.Str), ("MOST_LEAVES" : PySem.Str), ("MOST_MIXINGS" : PySem.Str), ("DEGREES" : PySem.Str), ("is_name" : PySem.Str), ("is_whole" : PySem.Str), ("is_place" : PySem.Str), ("is_place_pair" : PySem.Str), ("_is_labelled_place" : PySem.Str), ("all_places" : PySem.Str), ("relatives" : PySem.Str), ("places_below" : PySem.Str), ("_long_lists" : PySem.Str), ("_bad_arrows" : PySem.Str), ("_bad_leaves" : PySem.Str), ("_bad_names" : PySem.Str), ("_leaves_again" : PySem.Str), ("_arrows_again" : PySem.Str), ("_no_leaves" : PySem.Str), ("_bad_degrees" : PySem.Str), ("_bad_roots" : PySem.Str), ("_ring_places" : PySem.Str), ("_bad_labels" : PySem.Str), ("_too_many_mixings" : PySem.Str), ("LIST_FAULTS" : PySem.Str), ("PLACE_FAULTS" : PySem.Str), ("first_fault" : PySem.Str), ("net_fault" : PySem.Str), ("_split_child" : PySem.Str), ("_member_below_mixing" : PySem.Str), ("_mixing_children" : PySem.Str), ("_member_child" : PySem.Str), ("_bound_mothers" : PySem.Str), ("RULES" : PySem.Str), ("greatest_knot" : PySem.Str), ("knot_core" : PySem.Str), ("_demand_inner" : PySem.Str), ("_rule" : PySem.Str), ("_held" : PySem.Str), ("_greatest_part" : PySem.Str), ("KIND_BY_CHILDREN" : PySem.Str), ("Net" : PySem.Str), ("_law_mix" : PySem.Str), ("_law_store" : PySem.Str), ("_law_take" : PySem.Str), ("_law_pick" : PySem.Str), ("_law_same" : PySem.Str), ("_law_rising" : PySem.Str), ("_law_all" : PySem.Str), ("_law_ups" : PySem.Str), ("_law_downs" : PySem.Str), ("_law_inner" : PySem.Str), ("_law_is_net" : PySem.Str), ("_law_rule" : PySem.Str), ("_law_spots" : PySem.Str), ("_law_named" : PySem.Str), ("_law_size" : PySem.Str), ("_law_woven" : PySem.Str), ("_law_tangled" : PySem.Str), ("_law_peeled" : PySem.Str), ("_law_core" : PySem.Str), ("_law_is_core" : PySem.Str), ("_law_holds" : PySem.Str)]
theorem run_f (w : World) : HandSHeadRun.RunEq R (PySem.W.view R.prog [76]) hk ob 9000 loose (w.withFollow "special-get-raises" false) := by
  intro os
  kernel_rfl
theorem run_t (w : World) : HandSHeadRun.RunEq R (PySem.W.view R.prog [76]) hk ob 9000 loose (w.withFollow "special-get-raises" true) := by
  intro os
  kernel_rfl
theorem run (w : World) : HandSHeadRun.RunEq R (PySem.W.view R.prog [76]) hk ob 9000 loose w := PySem.W.byRow2 "special-get-raises" (P := fun w => HandSHeadRun.RunEq R (PySem.W.view R.prog [76]) hk ob 9000 loose w) run_f run_t w
end Pf
/-! The verifier's own layer: data apart from the store, what a draw keeps, calls by name, a few rules more. -/
namespace Lg
open PySem PySem.Spec PyProof.Rows L2

/-! ### calls by name -/
structure Own (P : Program) (w : World) (K : PySem.W.Frag) (mg : Str → Option Value) (base : Heap) (k : Nat) (x : Str) (ps : List Str) (sp : Sp) : Prop where
  ex : ∃ f fd, FnOk P w K mg base CX0 k f fd ps sp ∧ mg x = some (.ref f) ∧ PySem.W.keepIn K (.ref f) = true ∧ Binds K fd ps [] ∧ KBn K fd ps 0 ps (fun _ ws => ws) (fun _ zs => zs)
section
variable {X : Cx} {k : Nat} {x : Str} {ps : List Str} {sp : Sp} {e : Expr} {es : List Expr} {t : TA} {p pos : Pos} {kws : List Keyword}
theorem pe_own (O : Own X.prog X.w X.K X.mg X.base k x ps sp) (hr : Room k X.A) (hg : Gl X x) (ha : PA X (e :: es) t) (hdb : (x == ("__debug__" : Str)) = false := by decide)
    (he : starEach (e :: es) X.env = (false, eval e X.env) :: starEach es X.env := by rfl) (hpl : (backTo pos (starEach es X.env)).any (·.1) = false := by rfl) :
    PE X (.Call (.Name x p) (e :: es) [] pos) (tCall sp [] E0 t) := by
  obtain ⟨f, fd, F, gm, kp, hb, _⟩ := O.ex
  exact pe_call F hr hg gm kp hb .nil pass0 ha hdb he hpl
theorem pe_ownK0 (O : Own X.prog X.w X.K X.mg X.base k x ps sp) (hr : Room k X.A) (hg : Gl X x) (hkw : PK X kws t)
    (hks : (backToKw pos (keywordEach kws X.env)).filterMap (·.1) = ps := by rfl) (hall : (backToKw pos (keywordEach kws X.env)).all (·.1.isSome) = true := by rfl) (hdb : (x == ("__debug__" : Str)) = false := by decide)
    (hpl : ((backTo pos (starEach [] X.env)).any (·.1) || (backToKw pos (keywordEach kws X.env)).any (·.1.isNone)) = false := by rfl) :
    PE X (.Call (.Name x p) [] kws pos) (fun σ H Q => t σ H fun zs H2 => zs.length = ps.length ∧ sp zs H2 Q E0) := by
  obtain ⟨f, fd, F, gm, kp, _, hb⟩ := O.ex
  refine ⟨fun pins s σ H Q I h => ?_⟩
  refine wpAny_Call_Name_kw (ld_glob I hg gm ?_ hdb)
  refine PySem.W.callWith_KW0 (h₀ := X.base) I.ok.mod.kin kp hall ?_ hpl
  refine thn (hkw.run pos pins s σ H _ I h) fun ws s2 ⟨zs, H2, I2, rz, l2, q2⟩ => ⟨I2.kIn, ?_⟩
  rw [hks]
  exact run_fnN (us := []) (vs := []) F hr hb pass0 I2 .nil rz rfl l2 q2
theorem pe_gint {i : Int} (hg : Gl X x) (hm : ∃ t, X.mg x = some (.int i t)) (hd : (x == ("__debug__" : Str)) = false := by decide) : PE X (.Name x pos) (tC (.int i)) := by
  obtain ⟨t, e⟩ := hm
  exact pe_glob hg e ⟨t, rfl⟩ hd
theorem pe_gstr {i : Str} (hg : Gl X x) (hm : ∃ t, X.mg x = some (.str i t)) (hd : (x == ("__debug__" : Str)) = false := by decide) : PE X (.Name x pos) (tC (.str i)) := by
  obtain ⟨t, e⟩ := hm
  exact pe_glob hg e ⟨t, rfl⟩ hd
end

/-! ### rules more -/
section
variable {X : Cx}
/-- x is True, x is False -/
theorem op_isB : OpR X (compareOp .Is) (fun x y H Q => ∃ b, y = .bl b ∧ Q (.bl (decide (x = .bl b))) H) := by
  intro pins s σ H x y v u Q I rx ry h
  obtain ⟨b, rfl, q⟩ := h
  cases ry
  have key : ∀ c : Bool, c = decide (x = .bl b) → EP X pins σ Q (.bool c) s := fun c hc => ⟨.bl c, H, I, rfl, by rw [hc]; exact q⟩
  cases x with
  | bl c => cases (show v = Value.bool c from rx); exact wpAny_pure (key _ (by cases c <;> cases b <;> rfl))
  | non => cases (show v = Value.none from rx); exact wpAny_pure (key _ rfl)
  | int i => obtain ⟨t, rfl⟩ := rx; exact wpAny_pure (key _ rfl)
  | str i => obtain ⟨t, rfl⟩ := rx; exact wpAny_pure (key _ rfl)
  | byt i => obtain ⟨t, rfl⟩ := rx; exact wpAny_pure (key _ rfl)
  | flt i => obtain ⟨t, rfl⟩ := rx; exact wpAny_pure (key _ rfl)
  | ref i => cases (show v = Value.ref i from rx); exact wpAny_pure (key _ rfl)
  | ty i => cases (show v = Value.type i from rx); exact wpAny_pure (key _ rfl)
end

/-! ### what a draw keeps -/
theorem same_new {H H' : Hp} {p : Addr} {o : HO} (k : Same H H') (n : H p = none) : Same H (upd H' p o) := fun b u e => by
  rw [upd_ne (ne_of_none e n)]
  exact k b u e
/-- addresses that are taken -/
abbrev Av := Addr → Prop
/-- the store stands at s; what it stands on is taken -/
def SO (S : Av) (s : Addr) (H : Hp) : Prop := S s ∧ ∃ (c : Addr) (ns : List Int) (p r sd t : Int), H s = some (.lst [.ref c, .int p, .int r, .int sd, .int t]) ∧ c ≠ s ∧ H c = some (.lst (ns.map V.int)) ∧ 0 ≤ p ∧ 0 ≤ r ∧ S c
theorem SO.at_ {S : Av} {s : Addr} {H : Hp} (h : SO S s H) : S s := h.1
theorem SO.there {S : Av} {s : Addr} {H : Hp} (h : SO S s H) : ∃ o, H s = some o := let ⟨_, _, _, _, _, _, _, e, _⟩ := h; ⟨_, e⟩
theorem SO.ne {S : Av} {s p : Addr} {H : Hp} (h : SO S s H) (n : H p = none) : p ≠ s := by
  obtain ⟨o, e⟩ := h.there
  exact (ne_of_none e n).symm
theorem SO.same {S : Av} {s : Addr} {H H' : Hp} (h : SO S s H) (k : Same H H') : SO S s H' :=
  let ⟨z, c, ns, p, r, sd, t, e, n, ec, h1, h2, h3⟩ := h
  ⟨z, c, ns, p, r, sd, t, k _ _ e, n, k _ _ ec, h1, h2, h3⟩
theorem SO.new {S : Av} {s p : Addr} {H : Hp} {o : HO} (h : SO S s H) (n : H p = none) : SO S s (upd H p o) := h.same (same_new (Same.refl H) n)
theorem SO.put {S : Av} {s p : Addr} {H : Hp} {o : HO} (h : SO S s H) (n : ¬ S p) : SO S s (upd H p o) :=
  let ⟨z, c, ns, p', r, sd, t, e, nc, ec, h1, h2, h3⟩ := h
  ⟨z, c, ns, p', r, sd, t, by rw [upd_ne (show s ≠ p from fun q => n (q ▸ z))]; exact e, nc, by rw [upd_ne (show c ≠ p from fun q => n (q ▸ h3))]; exact ec, h1, h2, h3⟩
theorem SO.wide {S S' : Av} {s : Addr} {H : Hp} (h : SO S s H) (w : ∀ b, S b → S' b) : SO S' s H :=
  let ⟨z, c, ns, p', r, sd, t, e, nc, ec, h1, h2, h3⟩ := h
  ⟨w _ z, c, ns, p', r, sd, t, e, nc, ec, h1, h2, w _ h3⟩

/-- all but s stands as it was; a store at s is one still, over the same row -/
structure Keep (s : Addr) (H H' : Hp) : Prop where
  fn : ∀ b o, b ≠ s → H b = some o → H' b = some o
  so : ∀ S, SO S s H → SO S s H'
instance {s : Addr} {H H' : Hp} : CoeFun (Keep s H H') (fun _ => ∀ b o, b ≠ s → H b = some o → H' b = some o) := ⟨Keep.fn⟩
theorem Keep.refl (s : Addr) (H : Hp) : Keep s H H := ⟨fun _ _ _ h => h, fun _ h => h⟩
theorem Keep.trans {s : Addr} {H H1 H2 : Hp} (a : Keep s H H1) (b : Keep s H1 H2) : Keep s H H2 := ⟨fun c o n h => b.fn c o n (a.fn c o n h), fun S h => b.so S (a.so S h)⟩
theorem Keep.of {s : Addr} {H H' : Hp} (h : Same H H') : Keep s H H' := ⟨fun b o _ e => h b o e, fun _ so => so.same h⟩
theorem Keep.put {s c : Addr} {p r sd t p' r' sd' t' : Int} {H H' : Hp} (k : Keep s H H') (e : H' s = some (.lst [.ref c, .int p, .int r, .int sd, .int t])) (hp : 0 ≤ p') (hr : 0 ≤ r') :
    Keep s H (upd H' s (.lst [.ref c, .int p', .int r', .int sd', .int t'])) := by
  refine ⟨fun b u n h => ?_, fun S h => ?_⟩
  · rw [upd_ne n]
    exact k.fn b u n h
  · obtain ⟨z, c', ns, q, r2, sd2, t2, e', nc, ec, h1, h2, h3⟩ := k.so S h
    rw [e] at e'
    have e2 : c = c' := V.ref.inj (List.cons.inj (HO.lst.inj (Option.some.inj e'))).1
    subst e2
    exact ⟨z, c, ns, p', r', sd', t', upd_same, nc, by rw [upd_ne nc]; exact ec, hp, hr, h3⟩
theorem Keep.new {s p : Addr} {H H' : Hp} {o : HO} (k : Keep s H H') (n : H p = none) : Keep s H (upd H' p o) := by
  refine ⟨fun b u nb e => ?_, fun S h => ?_⟩
  · rw [upd_ne (ne_of_none e n)]
    exact k.fn b u nb e
  · have h1 : SO (fun b => S b ∧ H b ≠ none) s H := by
      obtain ⟨z, c, ns, q, r, sd, t, e, nc, ec, h1, h2, h3⟩ := h
      exact ⟨⟨z, by rw [e]; exact fun q => nomatch q⟩, c, ns, q, r, sd, t, e, nc, ec, h1, h2, h3, by rw [ec]; exact fun q => nomatch q⟩
    exact ((k.so _ h1).put (fun q => q.2 n)).wide fun b hb => hb.1
theorem Keep.free {s p : Addr} {H H' : Hp} (k : Keep s H H') (np : p ≠ s) (h : H' p = none) : H p = none := by
  cases e : H p with
  | none => rfl
  | some o => rw [k.fn p o np e] at h; cases h
theorem Keep.seq {K : PySem.W.Frag} {s : Addr} {H H' : Hp} {a : Addr} {xs : List V} (e : Keep s H H') (n : a ≠ s) (h : SqL K H a xs) : SqL K H' a xs := by
  rcases h with (h | ⟨o, h⟩) | h
  · exact .inl (.inl (e _ _ n h))
  · exact .inl (.inr ⟨o, e _ _ n h⟩)
  · exact .inr h
/-! ### data apart from what may change: S, addresses that are taken -/
def Al (S : Av) (H : Hp) : Prop := ∀ b, S b → ∃ o, H b = some o
def addA (S : Av) (D : Addr) : Av := fun b => S b ∨ b = D
theorem Al.same {S : Av} {H H' : Hp} (h : Al S H) (k : Same H H') : Al S H' := fun b hb => let ⟨o, e⟩ := h b hb; ⟨o, k b o e⟩
theorem Al.keep {S : Av} {s : Addr} {H H' : Hp} (h : Al S H) (k : Keep s H H') (so : SO S s H') : Al S H' := fun b hb => by
  by_cases e : b = s
  · subst e; exact so.there
  · obtain ⟨o, q⟩ := h b hb
    exact ⟨o, k b o e q⟩
theorem Al.upd {S : Av} {p : Addr} {o : HO} {H : Hp} (h : Al S H) : Al S (upd H p o) := fun b hb => by
  by_cases e : b = p
  · subst e; exact ⟨o, upd_same⟩
  · rw [upd_ne e]; exact h b hb
theorem Al.free {S : Av} {p : Addr} {H : Hp} (h : Al S H) (n : H p = none) : ¬ S p := fun hb => by
  obtain ⟨o, e⟩ := h p hb
  rw [n] at e; cases e
theorem Al.add {S : Av} {D : Addr} {H : Hp} {o : HO} (h : Al S H) (e : H D = some o) : Al (addA S D) H := fun b hb => by
  rcases hb with hb | rfl
  · exact h b hb
  · exact ⟨o, e⟩
mutual
inductive Da (S : Av) (H : Hp) : V → PyData → Prop
  | non : Da S H .non .none
  | bl (b : Bool) : Da S H (.bl b) (.bool b)
  | int (i : Int) : Da S H (.int i) (.int i)
  | str (x : Str) : Da S H (.str x) (.str x)
  | lst {a : Addr} {xs : List V} {ds : List PyData} : ¬ S a → H a = some (.lst xs) → DaAll S H xs ds → Da S H (.ref a) (.list ds)
  | tup {a : Addr} {xs : List V} {ds : List PyData} : ¬ S a → H a = some (.tup xs) → DaAll S H xs ds → Da S H (.ref a) (.tuple ds)
inductive DaAll (S : Av) (H : Hp) : List V → List PyData → Prop
  | nil : DaAll S H [] []
  | cons {v : V} {vs : List V} {d : PyData} {ds : List PyData} : Da S H v d → DaAll S H vs ds → DaAll S H (v :: vs) (d :: ds)
end
mutual
/-- what is not in S stands as it was (or S is smaller) -/
theorem Da.go {S S' : Av} {H H' : Hp} (k : ∀ b o, ¬ S b → H b = some o → ¬ S' b ∧ H' b = some o) : ∀ {v : V} {d : PyData}, Da S H v d → Da S' H' v d
  | _, _, .non => .non
  | _, _, .bl b => .bl b
  | _, _, .int i => .int i
  | _, _, .str x => .str x
  | _, _, .lst n e r => .lst (k _ _ n e).1 (k _ _ n e).2 (DaAll.go k r)
  | _, _, .tup n e r => .tup (k _ _ n e).1 (k _ _ n e).2 (DaAll.go k r)
theorem DaAll.go {S S' : Av} {H H' : Hp} (k : ∀ b o, ¬ S b → H b = some o → ¬ S' b ∧ H' b = some o) : ∀ {vs : List V} {ds : List PyData}, DaAll S H vs ds → DaAll S' H' vs ds
  | _, _, .nil => .nil
  | _, _, .cons a r => .cons (Da.go k a) (DaAll.go k r)
end
section
variable {S : Av} {s D p : Addr} {H H' : Hp} {v : V} {d : PyData} {vs : List V} {ds : List PyData} {o : HO}
theorem kgo (k : Keep s H H') (hs : S s) : ∀ b o, ¬ S b → H b = some o → ¬ S b ∧ H' b = some o := fun b o n e => ⟨n, k b o (fun q => n (q ▸ hs)) e⟩
theorem Da.keep (h : Da S H v d) (k : Keep s H H') (hs : S s) : Da S H' v d := h.go (kgo k hs)
theorem DaAll.keep (h : DaAll S H vs ds) (k : Keep s H H') (hs : S s) : DaAll S H' vs ds := h.go (kgo k hs)
theorem Da.same (h : Da S H v d) (k : Same H H') : Da S H' v d := h.go fun b o n e => ⟨n, k b o e⟩
theorem DaAll.same (h : DaAll S H vs ds) (k : Same H H') : DaAll S H' vs ds := h.go fun b o n e => ⟨n, k b o e⟩
theorem Da.new (h : Da S H v d) (np : H p = none) : Da S (upd H p o) v d := h.same (same_new (Same.refl H) np)
theorem DaAll.new (h : DaAll S H vs ds) (np : H p = none) : DaAll S (upd H p o) vs ds := h.same (same_new (Same.refl H) np)
/-- one more address is apart: it was free -/
theorem Da.more (h : Da S H v d) (nD : H D = none) : Da (addA S D) H v d := h.go fun b o n e => ⟨fun q => q.elim n (ne_of_none e nD), e⟩
theorem DaAll.more (h : DaAll S H vs ds) (nD : H D = none) : DaAll (addA S D) H vs ds := h.go fun b o n e => ⟨fun q => q.elim n (ne_of_none e nD), e⟩
theorem Da.less (h : Da (addA S D) H v d) : Da S H v d := h.go fun b o n e => ⟨fun q => n (.inl q), e⟩
theorem DaAll.less (h : DaAll (addA S D) H vs ds) : DaAll S H vs ds := h.go fun b o n e => ⟨fun q => n (.inl q), e⟩
/-- D, which is apart, is written -/
theorem Da.at (h : Da (addA S D) H v d) : Da (addA S D) (upd H D o) v d := h.go fun b u n e => ⟨n, by rw [upd_ne (fun q => n (.inr q))]; exact e⟩
theorem DaAll.at (h : DaAll (addA S D) H vs ds) : DaAll (addA S D) (upd H D o) vs ds := h.go fun b u n e => ⟨n, by rw [upd_ne (fun q => n (.inr q))]; exact e⟩
end
theorem DaAll.length {S : Av} {H : Hp} : ∀ {vs : List V} {ds : List PyData}, DaAll S H vs ds → vs.length = ds.length
  | _, _, .nil => rfl
  | _, _, .cons _ r => congrArg (· + 1) (DaAll.length r)
theorem DaAll.get {S : Av} {H : Hp} : ∀ {vs : List V} {ds : List PyData} {i : Nat} {v : V}, DaAll S H vs ds → vs[i]? = some v → ∃ d, ds[i]? = some d ∧ Da S H v d
  | _, _, _, _, .nil, e => by simp at e
  | _, _, 0, _, .cons (d := d) a _, e => by simp at e; subst e; exact ⟨d, rfl, a⟩
  | _, _, i + 1, v, .cons _ r, e => by
    obtain ⟨d, h1, h2⟩ := DaAll.get (i := i) (v := v) r (by simpa using e)
    exact ⟨d, by simpa using h1, h2⟩
theorem DaAll.mem {S : Av} {H : Hp} {vs : List V} {ds : List PyData} {v : V} (h : DaAll S H vs ds) (hv : v ∈ vs) : ∃ d, d ∈ ds ∧ Da S H v d := by
  obtain ⟨i, hi, e⟩ := List.mem_iff_getElem.mp hv
  obtain ⟨d, h1, h2⟩ := h.get (i := i) (v := v) (by rw [List.getElem?_eq_getElem hi, e])
  exact ⟨d, List.mem_of_getElem? h1, h2⟩
theorem DaAll.app {S : Av} {H : Hp} : ∀ {vs ws : List V} {ds es : List PyData}, DaAll S H vs ds → DaAll S H ws es → DaAll S H (vs ++ ws) (ds ++ es)
  | _, _, _, _, .nil, r => r
  | _, _, _, _, .cons a t, r => .cons a (DaAll.app t r)
theorem DaAll.one {S : Av} {H : Hp} {v : V} {d : PyData} (h : Da S H v d) : DaAll S H [v] [d] := .cons h .nil
theorem DaAll.take {S : Av} {H : Hp} : ∀ {vs : List V} {ds : List PyData} (n : Nat), DaAll S H vs ds → DaAll S H (vs.take n) (ds.take n)
  | _, _, 0, _ => .nil
  | _, _, _ + 1, .nil => .nil
  | _, _, n + 1, .cons a r => .cons a (DaAll.take n r)
theorem DaAll.drop {S : Av} {H : Hp} : ∀ {vs : List V} {ds : List PyData} (n : Nat), DaAll S H vs ds → DaAll S H (vs.drop n) (ds.drop n)
  | _, _, 0, h => h
  | _, _, _ + 1, .nil => .nil
  | _, _, n + 1, .cons _ r => DaAll.drop n r
theorem DaAll.set {S : Av} {H : Hp} {v : V} {d : PyData} (h : Da S H v d) : ∀ {vs : List V} {ds : List PyData} (n : Nat), DaAll S H vs ds → DaAll S H (vs.set n v) (ds.set n d)
  | _, _, _, .nil => .nil
  | _, _, 0, .cons _ r => .cons h r
  | _, _, n + 1, .cons a r => .cons a (DaAll.set h n r)
theorem DaAll.erase {S : Av} {H : Hp} : ∀ {vs : List V} {ds : List PyData} (n : Nat), DaAll S H vs ds → DaAll S H (vs.eraseIdx n) (ds.eraseIdx n)
  | _, _, _, .nil => .nil
  | _, _, 0, .cons _ r => r
  | _, _, n + 1, .cons a r => .cons a (DaAll.erase n r)
theorem DaAll.reverse {S : Av} {H : Hp} : ∀ {vs : List V} {ds : List PyData}, DaAll S H vs ds → DaAll S H vs.reverse ds.reverse
  | _, _, .nil => .nil
  | _, _, .cons a r => by
    rw [List.reverse_cons, List.reverse_cons]
    exact (DaAll.reverse r).app (.one a)
/-- data of depth at most n, texts and rows no longer than L, no dicts -/
inductive Dd (L : Nat) : Nat → PyData → Prop
  | non (n : Nat) : Dd L n .none
  | bl (n : Nat) (b : Bool) : Dd L n (.bool b)
  | int (n : Nat) (i : Int) : Dd L n (.int i)
  | str (n : Nat) {x : Str} : x.length ≤ L → Dd L n (.str x)
  | lst {n : Nat} {ds : List PyData} : ds.length ≤ L → (∀ d ∈ ds, Dd L n d) → Dd L (n + 1) (.list ds)
  | tup {n : Nat} {ds : List PyData} : ds.length ≤ L → (∀ d ∈ ds, Dd L n d) → Dd L (n + 1) (.tuple ds)
theorem Dd.mono {L L' : Nat} (hL : L ≤ L') : ∀ {n : Nat} {d : PyData} {n' : Nat}, Dd L n d → n ≤ n' → Dd L' n' d
  | _, _, _, .non _, _ => .non _
  | _, _, _, .bl _ b, _ => .bl _ b
  | _, _, _, .int _ i, _ => .int _ i
  | _, _, _, .str _ h, _ => .str _ (Nat.le_trans h hL)
  | _, _, 0, .lst _ _, h => absurd h (Nat.not_succ_le_zero _)
  | _, _, m + 1, .lst h1 h2, h => .lst (Nat.le_trans h1 hL) fun d hd => Dd.mono hL (h2 d hd) (Nat.le_of_succ_le_succ h)
  | _, _, 0, .tup _ _, h => absurd h (Nat.not_succ_le_zero _)
  | _, _, m + 1, .tup h1 h2, h => .tup (Nat.le_trans h1 hL) fun d hd => Dd.mono hL (h2 d hd) (Nat.le_of_succ_le_succ h)

/-! ### what a datum is -/
def tyN : PyData → String
  | .none => "NoneType" | .bool _ => "bool" | .int _ => "int" | .str _ => "str" | .list _ => "list" | .tuple _ => "tuple" | .dict _ => "dict"
theorem Da.ty {K : PySem.W.Frag} {S : Av} {H : Hp} {x : V} {d : PyData} : Da S H x d → TyX K H x (.type (tyN d))
  | .non => .base .non
  | .bl _ => .base (.bl _)
  | .int _ => .base (.int _)
  | .str _ => .base (.str _)
  | .lst _ e _ => .base (.lst e)
  | .tup _ e _ => .base (.tup e)
def isT (T n : String) : Bool := n == T || (n == "bool" && T == "int")
def isD (T : String) (d : PyData) : Bool := isT T (tyN d)
def kindB (T : String) : Bool := T == "str" || T == "int" || T == "bool" || T == "list" || T == "tuple"
theorem kit_d {K : PySem.W.Frag} {d : PyData} {T : String} (h : kindB T = true) (nd : tyN d ≠ "dict") : PySem.W.kitOne K (.type (tyN d)) (.type T) = some (isD T d) := by
  unfold kindB at h
  simp only [Bool.or_eq_true, beq_iff_eq, or_assoc] at h
  rcases h with rfl | rfl | rfl | rfl | rfl <;> cases d <;> simp only [isD, tyN] <;> first | exact kit_ty (by decide +kernel) | exact (nd rfl).elim
theorem Da.nodict {S : Av} {H : Hp} {x : V} {d : PyData} (h : Da S H x d) : tyN d ≠ "dict" := by
  cases h <;> simp [tyN]
theorem isi_da {K : PySem.W.Frag} {S : Av} {H : Hp} {x : V} {d : PyData} {T : String} {Q : VK} (hd : Da S H x d) (h : kindB T = true) (q : Q (.bl (isD T d)) H) : rIsi K [x, .ty T] H Q :=
  ⟨x, .ty T, _, _, _, rfl, .ty T, hd.ty, kit_d h hd.nodict, q⟩
/-- isinstance(x, (list, tuple)) -/
theorem isi_lt {K : PySem.W.Frag} {S : Av} {tp : Addr} {H : Hp} {x : V} {d : PyData} {Q : VK} (hd : Da S H x d) (ht : H tp = some (.tup [.ty "list", .ty "tuple"])) (q : Q (.bl (isD "list" d || isD "tuple" d)) H) : rIsiT K [x, .ref tp] H Q := by
  refine ⟨x, tp, _, _, [.type "list", .type "tuple"], _, rfl, ht, .cons (.ty _) (.cons (.ty _) .nil), hd.ty, ?_, q⟩
  refine kitAny_cons (kit_d rfl hd.nodict) (fun h1 => ?_) (fun h1 => by rw [h1, Bool.true_or])
  rw [h1, Bool.false_or]
  refine kitAny_cons (kit_d rfl hd.nodict) (fun h2 => by rw [h2]; rfl) (fun h2 => h2)
theorem int_at {ns : List Int} {i : Nat} {x : V} (h : (ns.map V.int)[i]? = some x) : ∃ n, ns[i]? = some n ∧ x = .int n := by
  rw [List.getElem?_map] at h
  cases e : ns[i]? with
  | none => rw [e] at h; cases h
  | some n => rw [e] at h; exact ⟨n, rfl, (Option.some.inj h).symm⟩
theorem take_snoc {α : Type} {xs : List α} {i : Nat} {x : α} (h : xs[i]? = some x) : xs.take i ++ [x] = xs.take (i + 1) := by
  rw [List.take_add_one, h]
  rfl
theorem line_lt {n : Nat} (h : n ≤ 1000000) : n < sizeLine := Nat.lt_of_le_of_lt h (by decide)
theorem line_le {n : Nat} (h : n ≤ 1000000) : n ≤ sizeLine := Nat.le_of_lt (line_lt h)
/-- a promise that is never asked -/
theorem FnOk.never {P : Program} {w : World} {K : PySem.W.Frag} {mg : Str → Option Value} {base : Heap} {CX : CXT} {k : Nat} {f : Addr} {fd : FuncData} {ps : List Str} {sp : Sp} (h : ∀ vs H Q E, sp vs H Q E → False) : FnOk P w K mg base CX k f fd ps sp :=
  ⟨fun _ _ _ _ q => (h _ _ _ _ q).elim, fun _ _ _ _ _ _ _ _ _ _ _ _ _ q => (h _ _ _ _ q).elim⟩

/-! ### the store's promises -/
def sp_law_mix : Sp := fun vs H Q _ => ∃ a b : Int, vs = [.int a, .int b] ∧ ∀ r : Int, Q (.int r) H
def sp_law_store (K : PySem.W.Frag) : Sp := fun vs H Q _ => ∃ (a : Addr) (ns : List Int), vs = [.ref a] ∧ SqL K H a (ns.map V.int) ∧ ns.length ≤ 63 ∧ ∀ (H' : Hp) (S : Av) (s : Addr), Same H H' → Al S H' → SO S s H' → Q (.ref s) H'
def sp_law_take : Sp := fun vs H Q _ => ∃ (S : Av) (s : Addr) (m : Int), vs = [.ref s, .int m] ∧ SO S s H ∧ m < 1000000000000000000000000000000000000000000000000000000000000 ∧ ∀ (H' : Hp) (r : Int), Keep s H H' → SO S s H' → 0 ≤ r → r < max 1 m → Q (.int r) H'
def sp_law_pick (K : PySem.W.Frag) : Sp := fun vs H Q _ => ∃ (S : Av) (s : Addr) (x : V), vs = [.ref s, x] ∧ SO S s H ∧
  ((∃ (a : Addr) (xs : List V), x = .ref a ∧ a ≠ s ∧ SqL K H a xs ∧ xs ≠ [] ∧ xs.length ≤ 1000000 ∧ ∀ (H' : Hp) (v : V), Keep s H H' → SO S s H' → v ∈ xs → Q v H') ∨
   (∃ z : Str, x = .str z ∧ 0 < z.length ∧ z.length ≤ 1000000 ∧ ∀ (H' : Hp) (c : Nat), Keep s H H' → SO S s H' → c ∈ z.cps.toList → Q (.str ⟨#[c]⟩) H'))
theorem pick_list {K : PySem.W.Frag} {S : Av} {s p : Addr} {H : Hp} {xs : List V} {Q : VK} (hS : SO S s H) (np : H p = none) (hne : xs ≠ []) (hl : xs.length ≤ 1000000)
    (q : ∀ (H' : Hp) (v : V), Keep s H H' → Keep s (upd H p (.lst xs)) H' → SO S s H' → v ∈ xs → Q v H') : sp_law_pick K [.ref s, .ref p] (upd H p (.lst xs)) Q E0 :=
  ⟨S, s, _, rfl, hS.new np, .inl ⟨p, xs, rfl, hS.ne np, SqL.of upd_same, hne, hl, fun H' v k so hv => q H' v (((Keep.refl s H).new np).trans k) k so hv⟩⟩
theorem pick_str {K : PySem.W.Frag} {S : Av} {s : Addr} {H : Hp} {z : Str} {Q : VK} (hS : SO S s H) (h0 : 0 < z.length) (hl : z.length ≤ 1000000)
    (q : ∀ (H' : Hp) (c : Nat), Keep s H H' → SO S s H' → c ∈ z.cps.toList → Q (.str ⟨#[c]⟩) H') : sp_law_pick K [.ref s, .str z] H Q E0 :=
  ⟨S, s, _, rfl, hS, .inr ⟨z, rfl, h0, hl, q⟩⟩
theorem isD_list {d : PyData} (h : isD "list" d = true) : ∃ ds, d = .list ds := by
  cases d <;> first | exact ⟨_, rfl⟩ | (exact absurd h (by simp only [isD, tyN]; decide))
theorem isD_tuple {d : PyData} (h : isD "tuple" d = true) : ∃ ds, d = .tuple ds := by
  cases d <;> first | exact ⟨_, rfl⟩ | (exact absurd h (by simp only [isD, tyN]; decide))
theorem isD_str {d : PyData} (h : isD "str" d = true) : ∃ z, d = .str z := by
  cases d <;> first | exact ⟨_, rfl⟩ | (exact absurd h (by simp only [isD, tyN]; decide))
theorem isD_int {d : PyData} (h : isD "int" d = true) : (∃ z, d = .int z) ∨ ∃ z, d = .bool z := by
  cases d <;> first | exact .inl ⟨_, rfl⟩ | exact .inr ⟨_, rfl⟩ | (exact absurd h (by simp only [isD, tyN]; decide))
theorem isD_lt {d : PyData} (h : (isD "list" d || isD "tuple" d) = true) : (∃ ds, d = .list ds) ∨ ∃ ds, d = .tuple ds := by
  rcases Bool.or_eq_true_iff.mp h with h | h
  · exact .inl (isD_list h)
  · exact .inr (isD_tuple h)
/-- the store, and what is taken -/
structure SS (S : Av) (s : Addr) (H : Hp) : Prop where
  so : SO S s H
  al : Al S H
theorem SS.at_ {S : Av} {s : Addr} {H : Hp} (h : SS S s H) : S s := h.so.at_
theorem SS.keep {S : Av} {s : Addr} {H H' : Hp} (h : SS S s H) (k : Keep s H H') (so : SO S s H') : SS S s H' := ⟨so, h.al.keep k so⟩
theorem SS.new {S : Av} {s p : Addr} {H : Hp} {o : HO} (h : SS S s H) (np : H p = none) : SS S s (upd H p o) := ⟨h.so.new np, h.al.upd⟩
theorem SS.same {S : Av} {s : Addr} {H H' : Hp} (h : SS S s H) (k : Same H H') : SS S s H' := ⟨h.so.same k, h.al.same k⟩
theorem SS.ne {S : Av} {s p : Addr} {H : Hp} (h : SS S s H) (np : H p = none) : p ≠ s := h.so.ne np
theorem SS.free {S : Av} {s p : Addr} {H : Hp} (h : SS S s H) (np : H p = none) : ¬ S p := h.al.free np
theorem SS.add {S : Av} {s D : Addr} {H : Hp} {o : HO} (h : SS S s H) (e : H D = some o) : SS (addA S D) s H := ⟨h.so.wide fun _ => .inl, h.al.add e⟩

/-! ### names -/
def lettersS : Str := "abcdefghijklmnopqrstuvwxyz"
def digitsS : Str := "0123456789"
def isLet (c : Nat) : Bool := decide (97 ≤ c) && decide (c ≤ 122)
def isDig (c : Nat) : Bool := decide (48 ≤ c) && decide (c ≤ 57)
/-- a name, by its signs -/
def nameL : List Nat → Bool
  | [] => false
  | c :: r => isLet c && r.all (fun c => isLet c || isDig c) && decide (r.length ≤ 7)
def nameS (z : Str) : Bool := nameL z.cps.toList
def nameD : PyData → Bool
  | .str z => nameS z
  | _ => false
theorem mem_let {c : Nat} : c ∈ ("abcdefghijklmnopqrstuvwxyz" : Str).cps.toList ↔ isLet c = true := by
  have f : ∀ x ∈ ("abcdefghijklmnopqrstuvwxyz" : Str).cps.toList, isLet x = true := by decide +kernel
  have g : ∀ x, x < 123 → isLet x = true → x ∈ ("abcdefghijklmnopqrstuvwxyz" : Str).cps.toList := by decide +kernel
  refine ⟨f c, fun h => g c ?_ h⟩
  have := of_decide_eq_true (Bool.and_eq_true_iff.mp h).2
  omega
theorem mem_ld {c : Nat} : c ∈ ("abcdefghijklmnopqrstuvwxyz0123456789" : Str).cps.toList ↔ (isLet c || isDig c) = true := by
  have f : ∀ x ∈ ("abcdefghijklmnopqrstuvwxyz0123456789" : Str).cps.toList, (isLet x || isDig x) = true := by decide +kernel
  have g : ∀ x, x < 123 → (isLet x || isDig x) = true → x ∈ ("abcdefghijklmnopqrstuvwxyz0123456789" : Str).cps.toList := by decide +kernel
  refine ⟨f c, fun h => g c ?_ h⟩
  rcases Bool.or_eq_true_iff.mp h with h | h
  · have := of_decide_eq_true (Bool.and_eq_true_iff.mp h).2
    omega
  · have := of_decide_eq_true (Bool.and_eq_true_iff.mp h).2
    omega
/-- one sign of a text -/
theorem str_at {z : Str} {c : Nat} {i : Nat} (h : z.cps[i]? = some c) : z.cps.toList[i]? = some c := by
  rw [Array.getElem?_toList]
  exact h
theorem str_len (z : Str) : z.length = z.cps.toList.length := rfl

/-! ### rules by data -/
theorem CallR.imp {X : Cx} {f : Value} {r r' : List V → Hp → VK → Prop} (h : CallR X f r) (i : ∀ xs H Q, r' xs H Q → r xs H Q) : CallR X f r' :=
  fun pins s σ H xs us Q I rv q => h pins s σ H xs us Q I rv (i _ _ _ q)
def rIsD : List V → Hp → VK → Prop := fun xs H Q => ∃ (x : V) (T : String) (S : Av) (d : PyData), xs = [x, .ty T] ∧ kindB T = true ∧ Da S H x d ∧ Q (.bl (isD T d)) H
theorem call_isD {X : Cx} : CallR X (.builtin "isinstance") rIsD := CallR.imp call_isi fun xs H Q ⟨x, T, S, d, e, h, hd, q⟩ => by
  subst e
  exact isi_da hd h q
def rIsLT : List V → Hp → VK → Prop := fun xs H Q => ∃ (x : V) (tp : Addr) (S : Av) (d : PyData), xs = [x, .ref tp] ∧ H tp = some (.tup [.ty "list", .ty "tuple"]) ∧ Da S H x d ∧ Q (.bl (isD "list" d || isD "tuple" d)) H
theorem call_isLT {X : Cx} : CallR X (.builtin "isinstance") rIsLT := CallR.imp call_isiT fun xs H Q ⟨x, tp, S, d, e, h, hd, q⟩ => by
  subst e
  exact isi_lt hd h q

theorem nameL_cons (c : Nat) (r : List Nat) : nameL (c :: r) = (isLet c && r.all (fun c => isLet c || isDig c) && decide (r.length ≤ 7)) := rfl
theorem nameL_long {l : List Nat} (h : 8 < l.length) : nameL l = false := by
  cases l with
  | nil => rfl
  | cons c r =>
    rw [List.length_cons] at h
    rw [nameL_cons]
    rw [show decide (r.length ≤ 7) = false from decide_eq_false (by omega), Bool.and_false]
theorem decide_mem_ld (c : Nat) : decide (c ∈ ("abcdefghijklmnopqrstuvwxyz0123456789" : Str).cps.toList) = (isLet c || isDig c) := by
  rw [Bool.eq_iff_iff, decide_eq_true_eq]
  exact mem_ld
theorem decide_mem_let (c : Nat) : decide (c ∈ ("abcdefghijklmnopqrstuvwxyz" : Str).cps.toList) = isLet c := by
  rw [Bool.eq_iff_iff, decide_eq_true_eq]
  exact mem_let
theorem str_app_list (x y : Str) : (x ++ y).cps.toList = x.cps.toList ++ y.cps.toList := by
  show (x.cps ++ y.cps).toList = _
  exact Array.toList_append
/-- a letter, then letters and digits -/
def wordL : List Nat → Bool
  | [] => false
  | c :: r => isLet c && r.all (fun c => isLet c || isDig c)
theorem wordL_snoc {l : List Nat} {c : Nat} (h : wordL l = true) (hc : (isLet c || isDig c) = true) : wordL (l ++ [c]) = true := by
  cases l with
  | nil => cases h
  | cons a r =>
    obtain ⟨h1, h2⟩ := Bool.and_eq_true_iff.mp h
    show (isLet a && (r ++ [c]).all _) = true
    rw [List.all_append, h1, h2]
    show (true && (true && ((isLet c || isDig c) && true))) = true
    rw [hc]; rfl
/-- a new object -/
theorem fresh {S : Av} {s p : Addr} {H0 H : Hp} (o : HO) (S1 : SS S s H) (k : Keep s H0 H) (np : H p = none) : ∃ H', upd H p o = H' ∧ SS S s H' ∧ Keep s H0 H' ∧ Same H H' ∧ H' p = some o ∧ ¬ S p ∧ p ≠ s :=
  ⟨_, rfl, S1.new np, k.trans ((Keep.refl s H).new np), same_new (Same.refl H) np, upd_same, S1.free np, S1.ne np⟩
theorem Dd.lift {L n m : Nat} {d : PyData} (h : Dd L n d) (e : n ≤ m) : Dd L m d := h.mono (Nat.le_refl L) e

/-- two rows of one kind -/
theorem rows_of {K : PySem.W.Frag} {S : Av} {H : Hp} {x y : V} {d e : PyData} {L m : Nat} (h : (isD "list" e || isD "tuple" e) = true) (h1 : isD "list" e = true → isD "list" d = true) (h2 : isD "tuple" e = true → isD "tuple" d = true)
    (hd : Da S H x d) (he : Da S H y e) (hD : Dd L m e) : ∃ (a c : Addr) (xs ys : List V) (ds es : List PyData) (m' : Nat), x = .ref a ∧ y = .ref c ∧ (∀ H', Same H H' → SqL K H' a xs ∨ SqT K H' a xs) ∧ (∀ H', Same H H' → SqL K H' c ys ∨ SqT K H' c ys) ∧
      DaAll S H xs ds ∧ DaAll S H ys es ∧ es.length ≤ L ∧ m = m' + 1 ∧ (∀ u ∈ es, Dd L m' u) ∧ (d = e ↔ ds = es) := by
  rcases isD_lt h with ⟨es, rfl⟩ | ⟨es, rfl⟩
  · obtain ⟨ds, rfl⟩ := isD_list (h1 rfl)
    cases hd with
    | @lst a xs _ _ ea ra =>
    cases he with
    | @lst c ys _ _ ec rc =>
    cases hD with
    | @lst m' _ hl hu =>
    exact ⟨a, c, xs, ys, ds, es, m', rfl, rfl, fun H' k => .inl (SqL.of (k _ _ ea)), fun H' k => .inl (SqL.of (k _ _ ec)), ra, rc, hl, rfl, hu, ⟨fun z => PyData.list.inj z, fun z => congrArg _ z⟩⟩
  · obtain ⟨ds, rfl⟩ := isD_tuple (h2 rfl)
    cases hd with
    | @tup a xs _ _ ea ra =>
    cases he with
    | @tup c ys _ _ ec rc =>
    cases hD with
    | @tup m' _ hl hu =>
    exact ⟨a, c, xs, ys, ds, es, m', rfl, rfl, fun H' k => .inr (SqT.of (k _ _ ea)), fun H' k => .inr (SqT.of (k _ _ ec)), ra, rc, hl, rfl, hu, ⟨fun z => PyData.tuple.inj z, fun z => congrArg _ z⟩⟩
/-- an item of a row, whatever the row -/
theorem ix_row {K : PySem.W.Frag} {H : Hp} {a : Addr} {xs : List V} {i : Nat} {v : V} {Q : VK} (h : SqL K H a xs ∨ SqT K H a xs) (e : xs[i]? = some v) (q : Q v H) : rIx K (.ref a) (.int (0 + i)) H Q := by
  rw [Int.zero_add]
  rcases h with h | h
  · exact .inl ⟨a, xs, _, v, rfl, rfl, h, atI_nat e, q⟩
  · exact .inr (.inl ⟨a, xs, _, v, rfl, rfl, h, atI_nat e, q⟩)
theorem ext_upto {ds es : List PyData} (hl : ds.length = es.length) (h : ∀ j : Nat, j < es.length → ds[j]? = es[j]?) : ds = es := by
  refine List.ext_getElem? fun j => ?_
  by_cases hj : j < es.length
  · exact h j hj
  · rw [List.getElem?_eq_none (by omega), List.getElem?_eq_none (by omega)]

/-! ### z[::-1] of a text -/
def revT (z : Str) : Str := ⟨z.cps.toList.reverse.toArray⟩
def tRevS (te : TE) : TE := fun σ H Q => te σ H fun x H1 => ∃ z, x = .str z ∧ z.length ≤ sizeLine ∧ Q (.str (revT z)) H1
/-! ### rows: a list or a tuple -/
theorem PI.or {X : Cx} {tg e : Expr} {w1 w2 : TI} (h1 : PI X tg e w1) (h2 : PI X tg e w2) : PI X tg e (fun σ H R => w1 σ H R ∨ w2 σ H R) :=
  ⟨fun pins s σ H R I h => h.elim (h1.run pins s σ H R I) (h2.run pins s σ H R I)⟩
def iRow (K : PySem.W.Frag) (te : TE) : TI := fun σ H R => iList K te σ H R ∨ iTup K te σ H R
/-- a list or a tuple that stays -/
def Row (K : PySem.W.Frag) (H : Hp) (a : Addr) (xs : List V) : Prop := SqL K H a xs ∨ SqT K H a xs
theorem Row.same {K : PySem.W.Frag} {H H' : Hp} {a : Addr} {xs : List V} (h : Row K H a xs) (e : Same H H') : Row K H' a xs := by
  rcases h with h | (h | ⟨o, h⟩) | h
  · exact .inl (e.seq h)
  · exact .inr (.inl (.inl (e _ _ h)))
  · exact .inr (.inl (.inr ⟨o, e _ _ h⟩))
  · exact .inr (.inr h)
theorem Keep.row {K : PySem.W.Frag} {S : Av} {s : Addr} {H H' : Hp} {a : Addr} {xs : List V} (e : Keep s H H') (n : a ≠ s) (h : Row K H a xs) : Row K H' a xs := by
  rcases h with h | (h | ⟨o, h⟩) | h
  · exact .inl (e.seq n h)
  · exact .inr (.inl (.inl (e _ _ n h)))
  · exact .inr (.inl (.inr ⟨o, e _ _ n h⟩))
  · exact .inr (.inr h)

/-- an if with a word for each of its two ways: each way is shown once, however often the test comes to it -/
def tIfCut (c : TT) (t u : TS) : TS := fun D σ H => ∃ T F : Hp → Prop, (c σ H fun b H1 => if b = true then T H1 else F H1) ∧ (∀ H1, T H1 → t D σ H1) ∧ ∀ H1, F H1 → u D σ H1
theorem ix_some {j n : Nat} (h : j < n) : seqIndex? (j : Int) n = some j := by
  unfold seqIndex?
  have h1 : ¬ (j : Int) < 0 := by omega
  have h2 : (j : Int) < (n : Int) := by omega
  have h3 : (0 : Int) ≤ (j : Int) := by omega
  simp only [h1, if_false, h3, h2, decide_true, Bool.and_self, if_true, Int.toNat_natCast]
/-! ### one sign of a word changed -/
theorem nameL_eq {l : List Nat} (h : 1 ≤ l.length) : nameL l = (wordL l && decide (l.length ≤ 8)) := by
  cases l with
  | nil => exact absurd h (by decide)
  | cons c r =>
    rw [nameL_cons]
    show _ = ((isLet c && r.all (fun c => isLet c || isDig c)) && decide (r.length + 1 ≤ 8))
    have e : decide (r.length ≤ 7) = decide (r.length + 1 ≤ 8) := by
      rw [Bool.eq_iff_iff, decide_eq_true_eq, decide_eq_true_eq]; omega
    rw [e]
/-! ### from the head's facts to calls by name -/
section
variable {P : Program} {w : World} {K : PySem.W.Frag} {mg : Str → Option Value} {base : Heap} {x qual : Str} {st : Stmt} {f : Addr} {fd : FuncData} {ps : List Str} {sp : Sp} {k j : Nat}
theorem fun_of (F : FunD K x qual (defArgs st) (defBody st) (defScope st) [] [] f fd) : Fun K x qual st f fd := by
  obtain ⟨oc, od, dV, kV, doc, pm, an, cdv, ct, osl, rfl, lk, hcd, hD, hK⟩ := F.ex
  rcases hD with ⟨_, rfl⟩ | ⟨e, _⟩
  · exact ⟨⟨oc, od, kV, doc, pm, an, cdv, ct, osl, rfl, lk, hcd⟩, F.kp⟩
  · exact absurd rfl e
theorem kbn_of (F : Fun K x qual st f fd)
    (h : ∀ (kV doc pm : Value) (an : Option Addr) (cdv ct : Value) (ws : List Value), ws.length = ps.length → bindArgs (PySem.W.fnOf x qual (defArgs st) (defBody st) (defScope st) .none kV doc pm an cdv ct) ⟨[], ps.zip ws⟩ = pure (ps.zip ws)) :
    KBn K fd ps 0 ps (fun _ ws => ws) (fun _ zs => zs) := by
  obtain ⟨oc, od, kV, doc, pm, an, cdv, ct, osl, rfl, lk, hcd⟩ := F.ex
  refine ⟨fun s us ws _ h1 h2 => ?_, fun _ r => r⟩
  have e : us = [] := List.eq_nil_of_length_eq_zero h1
  subst e
  exact .of_eq (h kV doc pm an cdv ct ws h2)
theorem Own.mk' (F : Fun K x qual st f fd) (ok : FnOk P w K mg base CX0 k f fd ps sp) (g : mg x = some (.ref f)) (b : Binds K fd ps []) (kb : KBn K fd ps 0 ps (fun _ ws => ws) (fun _ zs => zs)) : Own P w K mg base k x ps sp := ⟨f, fd, ok, g, F.kp, b, kb⟩
theorem Own.up (O : Own P w K mg base k x ps sp) (h : k ≤ j) : Own P w K mg base j x ps sp := by
  obtain ⟨f, fd, F, r⟩ := O.ex
  exact ⟨f, fd, F.mono h, r⟩
end
end Lg

/-! set(list of ints): the set that stands behind it, led. -/
namespace Lg
open PySem PySem.Spec PyProof.Rows L2
/-- a set that was just made -/
abbrev newS (w : World) : Obj := { cls := .type "set", dict := none, data := .set #[] 0 (.fresh 0 0 (!w.params.followText "set-order")) }
section
variable {P : Program} {w : World} {A : Around} {E : Value → Shared → Prop} {s : Shared}
/-- what the new set is behind its filling -/
abbrev FillEnd (w : World) (s : Shared) (ns : List Int) (r : Value) (s₂ : Shared) : Prop :=
  r = .none ∧ ∃ h' tk c, s₂ = { s with heap := h', toks := tk } ∧ SetR w h' s.heap.objs.size (fun j => decide (j ∈ ns)) c ∧ c ≤ ns.length ∧ ∀ b o, s.heap.get? b = some o → h'.get? b = some o
set_option maxHeartbeats 4000000 in
theorem call_set_listR {l : Addr} {items : Array Value} (ns : List Int) {Q : Value → Shared → Prop} (hh : A.handled = none) (hl : s.heap.IsList l items) (hit : IntsAre items.toList ns) (hb : ns.length + 1 < scanBound)
    (h : ∀ (h' : Heap) (tk c : Nat), SetR w h' s.heap.objs.size (fun j => decide (j ∈ ns)) c → c ≤ ns.length → (∀ b o, s.heap.get? b = some o → h'.get? b = some o) → Q (.ref s.heap.objs.size) { s with heap := h', toks := tk }) :
    wpAny (model P w) A (call (.type "set") [.ref l]) Q E s := by
  have lens : items.size = ns.length := by have q := IntsAre.length hit; rw [Array.length_toList] at q; exact q
  obtain ⟨c, tl, hmro⟩ := F.called_set.mro
  have hmade := F.called_set.made; have hsub := F.called_set.sub; have h1 := F.called_set.notType; have h2 := F.called_set.canCreate; have hct := F.typeCall_set_1 (.ref l)
  refine wpAny_call (codeAny_of_tree ?_); show wpAny _ _ (callAny (.type "set") _) _ _ _
  refine wpAny_pure ⟨Code.quiet_builtin _ (by decide +kernel), codeAny_builtin F.entry_type_call ?_⟩; rw [Around.under_plain (weight_type_call_type "set" [.ref l] []) rfl]
  repeat (any_goals (first | assumption | wp_step))
  refine codeAny_mono (code_set_led1 (.ref l) (E := E) (Q₁ := fun obj s₁ => obj = .ref s.heap.objs.size ∧ s₁ = { s with heap := s.heap.push (newS w) }) ⟨rfl, rfl⟩) fun r s₁ hr => ?_
  have hS : (s.heap.push (newS w)).get? s.heap.objs.size = some (newS w) := Heap.get?_push_size _ rfl
  have hT : Shared.TypeIs { s with heap := s.heap.push (newS w) } (.ref s.heap.objs.size) "set" := ⟨_, hS, rfl⟩
  cases r with
  | error e => exact hr
  | ok fl =>
  cases fl with
  | next => exact hr.elim
  | brk => exact hr.elim
  | cont => exact hr.elim
  | ret obj =>
  obtain ⟨rfl, rfl⟩ := hr
  have hli := F.called_set.init.lookup; have hbi := F.called_set.init.bind (.ref s.heap.objs.size)
  repeat (any_goals (first | assumption | wp_step))
  refine codeAny_mono (codeAny_call_builtin (R := wants (FillEnd w s ns) E) F.called_set.init.plain F.entry_set_init (check_set_init_1 hT ?_)) fun r₂ s₂ hr₂ => ?_
  · obtain ⟨⟨ocls, odict, odata, oslots⟩, hol, hcl, nl, hdl⟩ := hl
    simp only at hcl hdl; subst hcl; subst hdl
    have hol' : (s.heap.push (newS w)).get? l = some { cls := .type "list", dict := odict, data := .seq items nl, slots := oslots } := Heap.get?_push_of_some _ hol
    have hsls := F.sub_list_set; have hslf := F.sub_list_frozenset; have hne : (Value.type "list" == Value.type "dict") = false := by decide
    have hl1 : (s.heap.push (newS w)).IsList l items := ⟨_, hol', rfl, nl, rfl⟩
    unfold Builtin.«set.__init__» noKeywords Builtin.Frozenset.updateFrom; generalize hPI : pyIter = PI
    wp_walk
    subst hPI
    refine wpAny_pyIter_list hl1 (wpAny_bind (wpAny_runValue ?_))
    have hlS : l < s.heap.objs.size := Heap.lt_size hol
    have hh3 : A.in1.in1.in1.handled = none := by simp [hh]
    have sz : (s.heap.push (newS w)).objs.size = s.heap.objs.size + 1 := Heap.size_push ..
    have hval : ∀ (i : Nat) (v : Value), items[i]? = some v → ∃ k t, ns[i]? = some k ∧ v = .int k t := fun i v hv => by
      obtain ⟨t, e⟩ := PyProof.Rows.IntsAre.int_at hit i v (by rw [Array.getElem?_toList]; exact hv)
      have hi : i < ns.length := lens ▸ (Array.getElem?_eq_some_iff.mp hv).1
      exact ⟨ns[i], t, List.getElem?_eq_getElem hi, by rw [e, List.getD_eq_getElem?_getD, List.getElem?_eq_getElem hi] <;> rfl⟩
    refine set_update_ints ((Walks.list hh3 _ l (by rw [sz]; exact Nat.ne_of_lt (Nat.lt_succ_of_lt hlS)) items).toS) s.heap.objs.size (by rw [sz]; simp only [List.mem_cons, List.not_mem_nil, or_false, not_or]; exact ⟨Nat.ne_of_lt (Nat.lt_succ_self _), Nat.ne_of_gt hlS⟩) ns lens hb hval (items.size - 0) 0 _ (by omega) (Nat.zero_le _)
      ⟨⟨_, Heap.get?_push_size _ rfl, rfl, rfl⟩, (hl1.push _)⟩ ⟨0, Nat.le_refl 0, setR_new_at (Heap.get?_push_of_some _ hS)⟩ fun s' c' hm hc' hS' => ?_
    obtain ⟨h', g2, d', tk', os'⟩ := s'
    obtain rfl : g2 = s.gens := hm.gens
    obtain rfl : d' = s.drawn := hm.drawn
    obtain rfl : os' = s.os := hm.os
    show wpAny _ _ _ _ _ _
    refine wpAny_pure ?_
    show wpAny _ _ (ret Value.none) _ _ _
    refine wpAny_pure ⟨rfl, h', tk', c', rfl, hS', lens ▸ hc', fun b o e => ?_⟩
    have hb0 : b < s.heap.objs.size := Heap.lt_size e
    exact hm.heap b o (by rw [sz]; simp only [List.mem_cons, List.not_mem_nil, or_false, not_or]; exact ⟨Nat.ne_of_lt hb0, Nat.ne_of_lt (Nat.lt_succ_of_lt hb0)⟩) (Heap.get?_push_of_some _ (Heap.get?_push_of_some _ e))
  · cases r₂ with
    | error e => exact hr₂
    | ok fl₂ =>
    cases fl₂ with
    | next => exact hr₂.elim
    | brk => exact hr₂.elim
    | cont => exact hr₂.elim
    | ret r =>
    obtain ⟨rfl, h', tk, c2, rfl, hS', hc', hk'⟩ := hr₂
    repeat (any_goals (first | assumption | wp_step))
    exact h h' tk c2 hS' hc' hk'
end
end Lg

/-! enumerate(t), t a tuple. -/
namespace Lg
open PySem PySem.Spec PyProof.Rows L2
open AutoSeq1 (wpAny_loadPart')
section
variable {P : Program} {w : World} {A : Around} {E : Value → Shared → Prop} {s : Shared}
theorem nextT_item {it t : Addr} {i : Nat} {items : Array Value} {x : Value} {Q : Value → Shared → Prop} (hit : s.heap.IsTupleIter it t i) (ht : s.heap.IsTuple t items) (hx : items[i]? = some x)
    (hQ : ∀ h', h'.IsTupleIter it t (i + 1) → Heap.SameBut it s.heap h' → Q x { s with heap := h' }) : wpAny (model P w) A (Builtin.SmallTypes.nextOf (.ref it)) Q E s := by
  obtain ⟨o, ho, hc, hd⟩ := id hit; obtain ⟨ol, hol, _, nl, hdl⟩ := ht
  unfold Builtin.SmallTypes.nextOf
  refine wpAny_bind (wpAny_callSpecial?_slot (name := Str.ofString "__next__") hit.typeIs F.slot_tuple_iterator_next (wpAny_call_entry F.slot_tuple_iterator_next hit.typeIs F.entry_tuple_iterator_next ?_ (F.args_tuple_iterator_next_1 _)))
  show wpAny _ _ (field (.ref it) 0 >>= _) _ _ s; refine wpAny_bind (wpAny_field ho hd (x := .ref t) rfl ?_)
  show wpAny _ _ (if (Value.ref t == Value.none) = true then _ else _) _ _ s; rw [if_neg (show ¬ ((Value.ref t == Value.none) = true) from Bool.false_ne_true)]
  show wpAny _ _ (field (.ref it) 1 >>= _) _ _ s; refine wpAny_bind (wpAny_field ho hd (x := .int i 0) rfl ?_)
  show wpAny _ _ (seqItems? (.ref t) >>= _) _ _ s; refine wpAny_bind (wpAny_seqItems hol hdl ?_); simp only [Int.toNat_natCast, hx]
  refine wpAny_bind (wpAny_setField ho hd (by simp) (wpAny_pure ⟨x, rfl, wpAny_pure (hQ _ ⟨_, Heap.get?_update_self _ ho (Obj.isFreed_of_fields (Obj.data_mapFields hd _)), (Obj.cls_mapFields ..).trans hc, by rw [Obj.data_mapFields hd]; simp [rawInt]⟩ (Heap.SameBut.update ..))⟩))
theorem nextT_end {it t : Addr} {i : Nat} {items : Array Value} {Q : Value → Shared → Prop} (hh : A.handled = none) (hit : s.heap.IsTupleIter it t i) (ht : s.heap.IsTuple t items) (hx : items[i]? = none)
    (hE : ∀ h' e, Heap.ExtBut it s.heap h' → (∃ o, h'.get? e = some o ∧ o.cls = .type "StopIteration") → E (.ref e) { s with heap := h' }) : wpAny (model P w) A (Builtin.SmallTypes.nextOf (.ref it)) Q E s := by
  obtain ⟨o, ho, hc, hd⟩ := id hit; obtain ⟨ol, hol, _, nl, hdl⟩ := ht
  unfold Builtin.SmallTypes.nextOf
  refine wpAny_bind (wpAny_callSpecial?_slot (name := Str.ofString "__next__") hit.typeIs F.slot_tuple_iterator_next (wpAny_call_entry F.slot_tuple_iterator_next hit.typeIs F.entry_tuple_iterator_next ?_ (F.args_tuple_iterator_next_1 _)))
  show wpAny _ _ (field (.ref it) 0 >>= _) _ _ s; refine wpAny_bind (wpAny_field ho hd (x := .ref t) rfl ?_)
  show wpAny _ _ (if (Value.ref t == Value.none) = true then _ else _) _ _ s; rw [if_neg (show ¬ ((Value.ref t == Value.none) = true) from Bool.false_ne_true)]
  show wpAny _ _ (field (.ref it) 1 >>= _) _ _ s; refine wpAny_bind (wpAny_field ho hd (x := .int i 0) rfl ?_)
  show wpAny _ _ (seqItems? (.ref t) >>= _) _ _ s; refine wpAny_bind (wpAny_seqItems hol hdl ?_); simp only [Int.toNat_natCast, hx]
  refine wpAny_bind (wpAny_rule (wpAny_bind (wpAny_setField ho hd (by simp) ?_))); show wpAny _ _ (newExc (.type "StopIteration") [] >>= _) _ _ _
  refine wpAny_bind ?_; simp only [newExc, newTuple]; refine wpAny_bind (wpAny_newObj_type ?_ (by size_fits))
  refine wpAny_bind (m := firstArgMember _ _) (wpAny_of_eq (a := Value.none) (by first | rfl | (simp only [firstArgMember]; rfl)) (wpAny_newObj_type ?_ (by size_fits)))
  simp only [raiseNew]; refine wpAny_bind (wpAny_handled ?_); (first | rw [show A.in1.handled = none from hh] | rw [hh])
  refine wpAny_bind (wpAny_pure (wpAny_throw (hE _ _ (((Heap.SameBut.update ..).extBut.push _).push _) ⟨_, Heap.get?_push_size _ rfl, rfl⟩)))
theorem drawsT (hh : A.handled = none) (it t : Addr) (hne : t ≠ it) (items : Array Value) : Draws P w A it [it, t] items.size (fun i v => items[i]? = some v) (fun i h => h.IsTupleIter it t i ∧ h.IsTuple t items) where
  live := fun _ _ st => let ⟨o, ho, _⟩ := st.1; ⟨o, ho⟩
  frame := fun i h h' st hk => by
    obtain ⟨⟨o, ho, r⟩, ⟨ot, hot, r2⟩⟩ := st
    exact ⟨⟨o, hk it (by simp) o ho, r⟩, ⟨ot, hk t (by simp) ot hot, r2⟩⟩
  item := fun i s Q E hi st hQ => by
    refine nextT_item st.1 st.2 (x := items[i]) (by simp [hi]) fun h' hit' hs' => hQ _ h' s.toks (by simp [hi]) ⟨hit', ?_⟩ hs'
    obtain ⟨ot, hot, r2⟩ := st.2
    exact ⟨ot, (hs'.2 t hne).trans hot, r2⟩
  done := fun s Q E st hE => nextT_end hh st.1 st.2 (by simp) hE
theorem newT {l : Addr} {items : Array Value} {n : Nat} {dct : Option Addr} {sl : Array (Option Value)} :
    Meets (Builtin.«enumerate.__new__» ⟨[.type "enumerate", .ref l], []⟩) (fun _ R s => s.heap.get? l = some { cls := .type "tuple", dict := dct, data := .seq items n, slots := sl } ∧
      R (.ok (.ret (.ref (s.heap.push { cls := .type "tuple_iterator", data := .fields #[.ref l, .int 0 0] }).objs.size)))
        { s with heap := (s.heap.push { cls := .type "tuple_iterator", data := .fields #[.ref l, .int 0 0] }).push { cls := .type "enumerate", data := .fields #[.none, .bool false, .ref s.heap.objs.size, rawInt 0, .none, .none] } }) :=
  .of_wp fun prog w A R s h => by
    obtain ⟨hp, g, d, tk, os⟩ := s
    obtain ⟨hl, h⟩ := h
    have hsub := sub_enumerate; have hL : Heap.IsTuple (Shared.heap ⟨hp, g, d, tk, os⟩) l items := ⟨_, hl, rfl, n, rfl⟩
    wp_walk using wpAny_loadPart' hl
    refine wpAny_stack_any fun st => wpAny_pure ?_
    split
    · rename_i c _ _ _ _ _
      cases (c == Value.type "enumerate") <;> (wp_walk using wpAny_loadPart' hl, wpAny_pyIter_tuple hL; exact ⟨_, rfl, h⟩)
    · (wp_walk using wpAny_loadPart' hl, wpAny_pyIter_tuple hL; exact ⟨_, rfl, h⟩)
theorem call_enumT {l : Addr} {items : Array Value} {Q : Value → Shared → Prop} (hL : s.heap.IsTuple l items)
    (h : ∀ h', IsEnum h' (s.heap.objs.size + 1) s.heap.objs.size 0 .none → h'.IsTupleIter s.heap.objs.size l 0 → (∀ b o, s.heap.get? b = some o → h'.get? b = some o) → Q (.ref (s.heap.objs.size + 1)) { s with heap := h' }) :
    wpAny (model P w) A (call (.type "enumerate") [.ref l]) Q E s := by
  obtain ⟨⟨c, dct, dt, sl⟩, hl, hc, n, hd⟩ := hL
  replace hc : c = .type "tuple" := hc; replace hd : dt = .seq items n := hd; subst hc hd
  refine callType_new F.called_enumerate (by decide) (F.typeCall_enumerate_1 _) (F.newCall_enumerate_1 _) (fun obj => F.args_object_init_2 obj _) F.entry_enumerate_new newT ⟨hl, ?_⟩
  have hz : (s.heap.push { cls := .type "tuple_iterator", data := .fields #[.ref l, .int 0 0] }).objs.size = s.heap.objs.size + 1 := Heap.size_push ..
  show _ ∧ _
  rw [hz]
  have he : IsEnum ((s.heap.push { cls := .type "tuple_iterator", data := .fields #[.ref l, .int 0 0] }).push { cls := .type "enumerate", data := .fields #[.none, .bool false, .ref s.heap.objs.size, rawInt 0, .none, .none] }) (s.heap.objs.size + 1) s.heap.objs.size 0 .none := by
    have q := Heap.get?_push_size (s.heap.push { cls := .type "tuple_iterator", data := .fields #[.ref l, .int 0 0] }) (o := { cls := .type "enumerate", data := .fields #[.none, .bool false, .ref s.heap.objs.size, rawInt 0, .none, .none] }) rfl
    rw [hz] at q; exact q
  exact ⟨⟨_, he, rfl⟩, h _ he ⟨_, Heap.get?_push_of_some _ (Heap.get?_push_size _ rfl), rfl, rfl⟩ fun b o x => Heap.get?_push_of_some _ (Heap.get?_push_of_some _ x)⟩

end
/-- the tuple at a, each item in a new pair -/
def IteT (K : PySem.W.Frag) (a : Addr) (xs : List V) : It :=
  ⟨fun i H => SqT K H a xs ∧ i < xs.length, fun i H v H' => ∃ T x, v = .ref T ∧ H T = none ∧ H' = upd H T (.tup [.int (i : Nat), x]) ∧ xs[i]? = some x, fun i H => SqT K H a xs ∧ xs.length ≤ i⟩
theorem turn_enumT {P : Program} {w : World} {K : PySem.W.Frag} {elts : List Expr} {kk : Nat} {tpos : Pos} (a : Addr) (xs : List V) (e it : Addr) :
    Turn P w K (.Tuple elts kk tpos) (IteT K a xs) [e, it] e (fun i h => (∃ old, IsEnum h e it ((i : Nat) : Int) old) ∧ h.IsTupleIter it a i ∧ e ≠ it) where
  mem := by simp
  obj := fun i h ⟨⟨old, he⟩, ⟨o, ho, hc, hd⟩, _⟩ b hb => by
    rcases (by simpa using hb : b = e ∨ b = it) with rfl | rfl
    · exact ⟨_, he, fun v q => nomatch q⟩
    · exact ⟨o, ho, fun v q => by rw [hd] at q; cases q⟩
  keep := fun i h h' ⟨⟨old, he⟩, ⟨o, ho, r⟩, hne⟩ k => ⟨⟨old, k e (by simp) _ he⟩, ⟨o, k it (by simp) o ho, r⟩, hne⟩
  item := by
    intro X hP hw hK hc i pins s σ H E I hf st hg
    subst hP hw hK
    obtain ⟨⟨old, he⟩, hit, hne⟩ := st; obtain ⟨hq, hi⟩ := hg
    obtain ⟨its, rv, ⟨ot, hot, hotc, nt, hotd⟩, hz⟩ := I.tuple hq
    have hT : s.heap.IsTuple a its.toArray := ⟨ot, hot, hotc, nt, hotd⟩
    have nea : e ≠ a := fun z => by
      have q : s.heap.get? e = some _ := he
      rw [z, hot] at q
      rw [Option.some.inj q] at hotc
      exact absurd (Value.type.inj hotc) (by decide)
    have nai : a ≠ it := fun z => by obtain ⟨oi, hoi, hci, _⟩ := hit; rw [← z, hot] at hoi; rw [← Option.some.inj hoi, hotc] at hci; exact absurd (Value.type.inj hci) (by decide)
    have hil : it < s.heap.objs.size := by obtain ⟨_, q, _⟩ := hit; exact Heap.lt_size q
    have hsz : i < its.toArray.size := by rw [List.size_toArray, ← rv.length]; exact hi
    refine wpAny_pyNext_enum_itemD (drawsT (by simp [I.ok.hd hc]) it a nai its.toArray) he ⟨hit, hT⟩ hsz hne (by simp [hne, nea]) fun x h' tk hx ho hst' hT' hsz' hk => ?_
    have hx' : its[i]? = some x := by simpa using hx
    refine ⟨_, rfl, wpAny_letOwnedTupleGo_enum (s := { s with heap := h', toks := tk + 1 }) ho fun h'' he' sb => ?_⟩
    have el : e < s.heap.objs.size := Heap.lt_size he
    have atT := (sb.2 _ (Nat.ne_of_gt el)).trans hT'
    obtain ⟨y, hy, ry⟩ : ∃ y, xs[i]? = some y ∧ RelV y x := by
      obtain ⟨u, hu, ru⟩ := rv.get (List.getElem?_eq_getElem hi)
      rw [hx'] at hu; cases hu
      exact ⟨_, List.getElem?_eq_getElem hi, ru⟩
    have new : ObjOk X.prog X.w (upd H s.heap.objs.size (.tup [.int (i : Nat), y])) h'' s.heap.objs.size (.tup [.int (i : Nat), y]) :=
      ⟨by show 2 ≤ sizeLine; decide, [.int i tk, x], .cons ⟨_, rfl⟩ (.cons ry .nil), ⟨_, atT, rfl, _, rfl⟩⟩
    have J : Inv X pins σ (upd H s.heap.objs.size (.tup [.int (i : Nat), y])) { s with heap := h'', toks := tk + 1 } :=
      I.turnedNew (ch := [e, it]) (fun b ob hb q => (sb.2 b (fun z => hb (by simp [z]))).trans (hk b ob (fun z => hb (by simp [z])) (fun z => hb (by simp [z])) q)) hf (Nat.le_refl _) new
    obtain ⟨⟨oi, hoi, ri⟩, _⟩ := hst'
    refine ⟨.ref s.heap.objs.size, _, J, rfl, ⟨_, y, rfl, I.hok.fresh (Nat.le_refl _), rfl, hy⟩, ⟨⟨x, ?_⟩, ⟨oi, (sb.2 it (Ne.symm hne)).trans hoi, ri⟩, hne⟩, fun b hb => ?_⟩
    · rw [show ((i + 1 : Nat) : Int) = (i : Int) + 1 by omega]; exact he'
    · have hb' : b < s.heap.objs.size := by rcases (by simpa using hb : b = e ∨ b = it) with rfl | rfl <;> assumption
      rw [upd_ne (Nat.ne_of_lt hb')]; exact (hf b hb).1
  done := by
    intro X hP hw hK hc i pins s σ H E I hf st hg
    subst hP hw hK
    obtain ⟨⟨old, he⟩, hit, hne⟩ := st; obtain ⟨hq, hi⟩ := hg
    obtain ⟨its, rv, ⟨ot, hot, hotc, nt, hotd⟩, hz⟩ := I.tuple hq
    have hl := rv.length; obtain ⟨f0, f1, f2, f3, f4, f5⟩ := hf it (by simp)
    unfold pyNext
    refine wpAny_bind (wpAny_attempt (wpAny_callSpecial?_slot (name := Str.ofString "__next__") ⟨_, he, rfl⟩ F.slot_enumerate_next (wpAny_call_entry F.slot_enumerate_next ⟨_, he, rfl⟩ F.entry_enumerate_next ?_ (F.args_enumerate_next_1 _))))
    show wpAny _ _ (field (.ref e) 2 >>= _) _ _ _
    refine wpAny_bind (wpAny_field he rfl (x := .ref it) rfl (wpAny_bind (nextT_end (by simp [I.ok.hd hc]) hit ⟨ot, hot, hotc, nt, hotd⟩ (by simp; omega) fun h' x eb hx' => ?_)))
    obtain ⟨o, ho, hcx⟩ := hx'
    refine wpAny_bind (wpAny_isInstance (T := "StopIteration") (b := true) ⟨o, ho, hcx⟩ isSubtype_stop ?_)
    exact wpAny_pure ⟨rfl, I.turned (t' := s.toks) (fun b o hb q => eb b o hb q) f0 f1 f3 f4 f5⟩
  self := fun A i s Q E st h => let ⟨⟨_, he⟩, _⟩ := st; wpAny_pyIter_enum he h
def iEnumT (K : PySem.W.Frag) (ta : TA) : TI := fun σ H R => ta σ H fun vs H1 => ∃ a xs, vs = [.ref a] ∧ SqT K H1 a xs ∧ R (IteT K a xs) H1
theorem pi_enumT {X : Cx} {e : Expr} {ta : TA} {p pos tpos : Pos} {elts : List Expr} {kk : Nat} (hg : Gl X "enumerate") (hm : X.mg "enumerate" = none) (ha : PA X [e] ta) (hs : starEach [e] X.env = [(false, eval e X.env)] := by rfl) :
    PI X (.Tuple elts kk tpos) (.Call (.Name "enumerate" p) [e] [] pos) (iEnumT X.K ta) := by
  refine ⟨fun pins s σ H R I h => ?_⟩
  refine Call_ (ld_blt I hg hm boot_enumerate (PyProof.Rows.callWith_type1 (thn (ha.run pos pins s σ H _ I h) fun us s1 ⟨vs, H1, I1, r1, q1⟩ => ?_) hs rfl))
  obtain ⟨a, xs, ex, hq, q⟩ := q1
  subst ex
  cases r1 with
  | cons r rr =>
  cases rr; cases r
  obtain ⟨its, rv, ⟨ot, hot, hotc, nt, hotd⟩, hz⟩ := I1.tuple hq
  refine call_enumT ⟨ot, hot, hotc, nt, hotd⟩ fun h' he hit hk => wpAny_pyIter_enum he ?_
  have I2 : Inv X pins σ H1 { s1 with heap := h' } := I1.kept (t' := s1.toks) hk
  refine ⟨s1.heap.objs.size + 1, [s1.heap.objs.size + 1, s1.heap.objs.size], _, _, H1, rfl, I2, turn_enumT a xs (s1.heap.objs.size + 1) s1.heap.objs.size, ⟨⟨.none, he⟩, hit, Nat.succ_ne_self _⟩, fun b hb => ?_, q⟩
  have hle : s1.heap.objs.size ≤ b := by rcases (by simpa using hb : b = s1.heap.objs.size + 1 ∨ b = s1.heap.objs.size) with rfl | rfl <;> omega
  exact I1.fpOk hle (I1.hok.fresh hle)
theorem walk_enumT {K : PySem.W.Frag} {a : Addr} {xs : List V} : Walk (IteT K a xs) xs.length (fun H => SqT K H a xs) (YPair (fun i => some (.int (i : Nat))) (fun i => xs[i]?)) := by
  refine ⟨fun i _ hi q => ⟨q, hi⟩, fun _ q => ⟨q, Nat.le_refl _⟩, fun i H v H' _ q y => ?_⟩
  obtain ⟨T, x, h1, h2, h3, h4⟩ := y
  exact ⟨T, .int (i : Nat), x, h1, h2, h3, rfl, h4⟩
end Lg

/-! sorted of pairs of an int and a text. -/
namespace Lg
open PySem PySem.Spec PyProof.Rows L2
abbrev IS := Int × Str
def lexPS (p q : IS) : Bool := if p.1 = q.1 then decide (p.2.cps.toList < q.2.cps.toList) else decide (p.1 < q.1)
theorem lexPS_iff {p q : IS} : lexPS p q = true ↔ p.1 < q.1 ∨ (p.1 = q.1 ∧ p.2.cps.toList < q.2.cps.toList) := by
  unfold lexPS
  by_cases e : p.1 = q.1
  · rw [if_pos e, decide_eq_true_eq]
    exact ⟨fun h => .inr ⟨e, h⟩, fun h => h.elim (fun z => absurd e (Int.ne_of_lt z)) (fun z => z.2)⟩
  · rw [if_neg e, decide_eq_true_eq]
    exact ⟨fun h => .inl h, fun h => h.elim id (fun z => absurd z.1 e)⟩
theorem lexPS_no {p q : IS} : lexPS p q = false ↔ ¬ (p.1 < q.1 ∨ (p.1 = q.1 ∧ p.2.cps.toList < q.2.cps.toList)) := by
  rw [← lexPS_iff]
  cases lexPS p q <;> simp
theorem swoPS {α : Type} (k : α → IS) : SrtO.Swo fun v u => lexPS (k v) (k u) := by
  refine ⟨fun x y h => ?_, fun x y z h1 h2 => ?_⟩
  · refine lexPS_no.mpr fun h' => ?_
    rcases lexPS_iff.mp h with a | ⟨a, a2⟩ <;> rcases h' with b | ⟨b, b2⟩
    · omega
    · omega
    · omega
    · exact List.lt_asymm a2 b2
  · have a := lexPS_no.mp h1
    have b := lexPS_no.mp h2
    refine lexPS_no.mpr fun h' => ?_
    by_cases e1 : (k y).1 = (k x).1
    · by_cases e2 : (k z).1 = (k y).1
      · rcases h' with h' | ⟨_, h'⟩
        · omega
        · have a2 : ¬ (k y).2.cps.toList < (k x).2.cps.toList := fun q => a (.inr ⟨e1, q⟩)
          have b2 : ¬ (k z).2.cps.toList < (k y).2.cps.toList := fun q => b (.inr ⟨e2, q⟩)
          exact absurd h' (List.not_lt.mpr (List.le_trans (List.not_lt.mp a2) (List.not_lt.mp b2)))
      · have : ¬ (k z).1 < (k y).1 := fun q => b (.inl q)
        rcases h' with h' | ⟨h', _⟩ <;> omega
    · have a1 : ¬ (k y).1 < (k x).1 := fun q => a (.inl q)
      have b1 : ¬ (k z).1 < (k y).1 := fun q => b (.inl q)
      rcases h' with h' | ⟨h', _⟩ <;> omega
/-- v is a pair of an int and a text -/
def IsPS (h : Heap) (v : Value) (x : Int) (y : Str) : Prop := ∃ a o t u n, v = .ref a ∧ h.get? a = some o ∧ o.cls = .type "tuple" ∧ o.data = .seq #[.int x t, .str y u] n
theorem IsPS.keeps {h h' : Heap} {v : Value} {x : Int} {y : Str} (p : IsPS h v x y) (k : ∀ b o, h.get? b = some o → o.cls = .type "tuple" → h'.get? b = some o) : IsPS h' v x y :=
  let ⟨a, o, t, u, n, e, ho, hc, hd⟩ := p
  ⟨a, o, t, u, n, e, k _ _ ho hc, hc, hd⟩
theorem firstsPS {h : Heap} : ∀ {vs : List Value}, (∀ v ∈ vs, ∃ x y, IsPS h v x y) → ∃ fs : List Value, PySem.W.KatTups h vs fs ∧ fs.length = vs.length ∧ ∀ f ∈ fs, ∃ x t, f = Value.int x t
  | [], _ => ⟨[], PySem.W.KatTups.nil, rfl, fun _ hm => by simp at hm⟩
  | v :: vs, hp => by
    obtain ⟨fs, h1, h2, h3⟩ := firstsPS (vs := vs) fun v' hm => hp v' (List.mem_cons_of_mem _ hm)
    obtain ⟨x, y, a, o, t, u, n, rfl, ho, hc, hd⟩ := hp v List.mem_cons_self
    refine ⟨.int x t :: fs, ?_, congrArg (· + 1) h2, fun f hm => ?_⟩
    · exact PySem.W.KatTups.cons ho hc hd rfl h1
    · rcases List.mem_cons.mp hm with rfl | hm
      · exact ⟨x, t, rfl⟩
      · exact h3 f hm
theorem str_ne {x y : Str} (h : ¬ x = y) : x.cps.toList ≠ y.cps.toList := fun e => h (by
  cases x; cases y
  exact congrArg Str.mk (Array.toList_inj.mp e))
section
variable {prog : Program} {w : World} {A : Around} {s : Shared}
theorem cmpPS {vs : List Value} {k : Value → IS} (hp : ∀ v ∈ vs, IsPS s.heap v (k v).1 (k v).2) :
    SrtO.Cmp prog w A s (tuples' true) (fun p => p.1 ∈ vs) (SrtO.lt2 fun v u => lexPS (k v) (k u)) := by
  intro p q hm hm'
  have h1 := hp _ hm
  have h2 := hp _ hm'
  show wpAny (model prog w) A (keyLt' (tuples' true) p.1 q.1) (fun r s' => s' = s ∧ r = lexPS (k p.1) (k q.1)) (fun _ _ => False) s
  generalize k p.1 = kp at h1 ⊢
  generalize k q.1 = kq at h2 ⊢
  obtain ⟨x, y⟩ := kp
  obtain ⟨x', y'⟩ := kq
  obtain ⟨a, o, t, u, n, e, ho, hc, hd⟩ := h1
  obtain ⟨a', o', t', u', n', e', ho', hc', hd'⟩ := h2
  rw [e, e']
  refine PySem.W.kat_lt ho hd ho' hd' ?_
  show PySem.W.KatLex prog w A true (decide (2 < 2)) _ [(.int x t, .int x' t'), (.str y u, .str y' u')] 0 s
  refine PySem.W.kat_cons (wpAny_eqBool_int ?_)
  refine PySem.W.kat_go (fun e1 => ?_) (fun e1 => ?_)
  · have ex : x = x' := by simpa using e1
    subst ex
    refine PySem.W.kat_yes (PySem.W.kat_cons (wpAny_eqBool_str ?_))
    refine PySem.W.kat_go (fun e2 => ?_) (fun e2 => ?_)
    · have ey : y = y' := of_decide_eq_true e2
      subst ey
      refine PySem.W.kat_yes (PySem.W.kat_nil ⟨rfl, (lexPS_no.mpr fun h => ?_).symm⟩)
      rcases h with h | ⟨_, h⟩
      · exact absurd h (Int.lt_irrefl _)
      · exact List.lt_irrefl _ h
    · refine PySem.W.kat_no (PyProof.Rows.oneLt_any_str ⟨rfl, ?_⟩)
      simp [lexPS]
  · have ex : ¬ x = x' := by simpa using e1
    refine PySem.W.kat_no (PyProof.Rows.oneLt_any_int ⟨rfl, ?_⟩)
    simp [lexPS, ex]
theorem sortablePS {a : Addr} {vs : List Value} {k : Value → IS} (h0 : 0 < vs.length) (hp : ∀ v ∈ vs, IsPS s.heap v (k v).1 (k v).2)
    (ha : ∀ o, s.heap.get? a = some o → o.cls ≠ .type "tuple") : SrtO.SortableO prog w A s a vs fun v u => lexPS (k v) (k u) := by
  intro h' keep
  have hp' : ∀ v ∈ vs, IsPS h' v (k v).1 (k v).2 := fun v hm => (hp v hm).keeps fun b o e c => keep b o (fun z => by subst z; exact ha o e c) e
  obtain ⟨fs, h1, h2, h3⟩ := firstsPS fun v hm => ⟨_, _, hp' v hm⟩
  refine ⟨tuples' true, fun Q E hq => ?_, cmpPS hp'⟩
  refine PySem.W.kat_kind (T := .type "int") h1 (by omega) (fun f hm => ?_) (by rfl) ?_
  · obtain ⟨x, t, rfl⟩ := h3 f hm
    exact PySem.W.Looks.now
  · rw [show (Value.type "int" != Value.type "tuple") = true from by first | decide +kernel | rfl]
    exact hq
end
section
variable {X : Cx}
/-- x before y: by the int, then by the text -/
abbrev ltPS (k : V → IS) (x y : V) : Bool := lexPS (k x) (k y)
/-- sorted(xs) of pairs of an int and a text: a new list, sorted, equal ones in their order -/
def rSortedPS (K : PySem.W.Frag) : List V → Hp → VK → Prop := fun vs H Q => ∃ (a : Addr) (xs : List V) (k : V → IS), vs = [V.ref a] ∧ SqL K H a xs ∧
  (∀ x ∈ xs, ∃ t, x = V.ref t ∧ H t = some (.tup [.int (k x).1, .str (k x).2])) ∧
  ∀ ys p, SrtO.Srtd (ltPS k) ys → SrtO.Stb (ltPS k) ys xs → H p = none → Q (.ref p) (upd H p (.lst ys))
theorem cr_sortedPS : CallR X (.builtin "sorted") (rSortedPS X.K) := by
  intro pins s σ H vs us Q I r h
  obtain ⟨a, xs, k, rfl, hs, hx, q⟩ := h
  obtain ⟨its, rv, hl, hz⟩ := I.list hs
  obtain ⟨u, rfl, ru⟩ := vals1 r
  obtain rfl : u = Value.ref a := ru
  obtain ⟨e1, e2⟩ := refs_back rv fun x m => let ⟨t, e, _⟩ := hx x m; ⟨t, e⟩
  have hp : ∀ v ∈ its, IsPS s.heap v (k (backV v)).1 (k (backV v)).2 := fun v hv => by
    obtain ⟨t, rfl⟩ := e2 v hv
    have hm : V.ref t ∈ xs := by rw [e1]; exact List.mem_map.mpr ⟨_, hv, rfl⟩
    obtain ⟨t', e, ht⟩ := hx _ hm
    cases e
    obtain ⟨_, its2, r2, o, ho, hc, n, hd⟩ := I.hok _ _ ht
    obtain ⟨u1, u2, rfl, ri, rj⟩ := vals2 r2
    obtain ⟨t1, rfl⟩ := ri
    obtain ⟨t2, rfl⟩ := rj
    exact ⟨t, o, t1, t2, n, rfl, ho, hc, hd⟩
  refine SrtO.sorted_ord (swoPS fun v => k (backV v)) hl.isList (by rw [← rv.length]; exact hz) (fun h2 h₁ b hb kk => ?_) fun out h1 h2 => ?_
  · refine sortablePS (s := { s with heap := h₁ }) (by omega) (fun v hm => (hp v hm).keeps fun c o e _ => (kk c o e).2) fun o e => ?_
    cases (show some o = some (seqObj "list" its.toArray 0) from e.symm.trans hb)
    exact fun c => absurd (Value.type.inj c) (by decide)
  · have h3 : ∀ u ∈ out, ∃ a, u = Value.ref a := fun u hu => e2 u (h2.perm.mem_iff.mp hu)
    have hb : SrtO.Stb (ltPS k) (out.map backV) xs := by
      rw [e1]
      exact SrtO.Stb.map (swoPS k) backV h2
    obtain ⟨n, hn⟩ := sortedAll_at s.heap its out.toArray
    refine ⟨.ref _, upd H _ (.lst (out.map backV)), I.laid (t' := s.toks) (fun b o e => sortedAll_old e) (Nat.le_succ _) ⟨?_, out, n, vals_back h3, hn⟩, rfl, q _ _ (SrtO.srtd_map h1) hb (I.hok.fresh (Nat.le_succ _))⟩
    rw [hb.len]
    exact hz
end
end Lg

/-! Rules for the nets' program. -/
namespace Lg
open PySem PySem.Spec PyProof.Rows L2
section
/-- set(xs), a list of ints -/
def rSetL (K : PySem.W.Frag) (w : World) : List V → Hp → VK → Prop := fun xs H Q => ∃ (l : Addr) (ns : List Int), xs = [V.ref l] ∧ SqL K H l (ns.map V.int) ∧ ns.length ≤ 1000 ∧
  ∀ a (L : List Int), H a = none → L.Nodup → (∀ k, k ∈ L ↔ k ∈ ns) → Q (.ref a) (upd H a (SetO w a (fun j => decide (j ∈ ns)) L.length))
theorem cr_setL {X : Cx} (hc : X.calm = true) : CallR X (.type "set") (rSetL X.K X.w) := by
  intro pins s σ H xs us Q I r h
  obtain ⟨l, ns, rfl, hl, hf, q⟩ := h
  rw [Vals.ref1 r]
  obtain ⟨its, rv, pl, hz⟩ := I.list hl
  have hn : H s.heap.objs.size = none := I.hok.fresh (Nat.le_refl _)
  refine call_set_listR ns (I.ok.hd hc) pl.isList (by simpa using rv.ints) (by unfold scanBound; omega) fun h' tk c R hc' k => ?_
  refine ⟨.ref s.heap.objs.size, upd H s.heap.objs.size (SetO X.w s.heap.objs.size (fun j => decide (j ∈ ns)) c), I.laid (t' := tk) k (Nat.le_refl _) (setO_new R), rfl, ?_⟩
  obtain ⟨o, es, ep, t, _, _, _, _, nd, mem, _, _, hc, _⟩ := R
  have e : (es.toList.map keyOf).length = c := by rw [List.length_map, Array.length_toList, hc]
  rw [← e]
  exact q _ _ hn nd fun k => by rw [← mem k, decide_eq_true_eq]
end
/-! ### a written table with text keys, walked -/
/-- at d stands a dict of the top whose keys are the texts ks, in this order -/
structure KTab (K : PySem.W.Frag) (w : World) (d : Addr) (ks : List Str) : Prop where
  ex : ∃ es n, K.lookup d = some ⟨.type "dict", none, .dict es n, #[]⟩ ∧ es.toList.map He.keyOf = He.keysIn w.params ks
  low : (d == sysModules) = false
  nd : ks.Nodup
theorem ktab_pairs {P : Program} {w : World} : ∀ {l : List DictEntry} {ks : List Str}, l.map He.keyOf = He.keysIn w.params ks →
    (∀ e ∈ l, ∃ k, (PySem.strKind P w).is k e.key = true ∧ e.hash = (PySem.strKind P w).hash k) ∧ PySem.Pairs (PySem.strKind P w) l (ks.zip (l.map (·.val)))
  | [], [], _ => ⟨(fun e he => nomatch he), .nil⟩
  | [], _ :: _, h => by cases h
  | _ :: _, [], h => by cases h
  | e :: r, k :: ks, h => by
    injection (show He.keyOf e :: r.map He.keyOf = some (k, PyData.keyHash w.params k) :: He.keysIn w.params ks from h) with h2 h3
    obtain ⟨i1, i2⟩ := ktab_pairs (P := P) (w := w) h3
    unfold He.keyOf at h2
    split at h2
    · rename_i x t q
      obtain ⟨h5, h6⟩ := Prod.mk.inj (Option.some.inj h2)
      have hk : (PySem.strKind P w).is k e.key = true := by rw [q, h5]; exact PySem.strKind_is P w k t
      refine ⟨fun e' he' => ?_, .cons hk rfl i2⟩
      rcases List.mem_cons.mp he' with rfl | he'
      · exact ⟨k, hk, h6⟩
      · exact i1 e' he'
    · cases h2
def ItkS (ks : List Str) : It := ⟨fun i _ => i < ks.length, fun i H x H' => H' = H ∧ ∃ k, ks[i]? = some k ∧ x = .str k, fun i _ => ks.length ≤ i⟩
section
variable {X : Cx} {pins : List (Addr × Obj)} {σ : L2.St} {H : Hp} {s : Shared}
theorem KTab.at_ {d : Addr} {ks : List Str} (D : KTab X.K X.w d ks) (I : Inv X pins σ H s) : ∃ (o : Obj) (es : Array DictEntry) (n : Nat) (kvs : List (Str × Value)), s.heap.get? d = some o ∧ o.ExactDict ∧ o.data = .dict es n ∧ es.size = ks.length ∧ kvs.map (·.1) = ks ∧ s.heap.DictAt (PySem.strKind X.prog X.w) d kvs n ∧ X.K.lookup d = some ⟨.type "dict", none, .dict es n, #[]⟩ := by
  obtain ⟨es, n, hk, hm⟩ := D.ex
  have hd := I.kIn d _ hk
  obtain ⟨h1, h2⟩ := ktab_pairs (P := X.prog) hm
  have hl : es.toList.length = ks.length := by
    have q := congrArg List.length hm
    unfold He.keysIn at q
    rw [List.length_map, List.length_map] at q
    exact q
  have e1 : (ks.zip (es.toList.map (·.val))).map (·.1) = ks := by
    rw [List.map_fst_zip (by rw [List.length_map]; omega)]
  exact ⟨_, es, n, ks.zip (es.toList.map (·.val)), hd, ⟨rfl, rfl, rfl⟩, rfl, by rw [← Array.length_toList]; exact hl, e1, ⟨_, es, hd, ⟨rfl, rfl, rfl⟩, rfl, fun e he => h1 e (Array.mem_toList_iff.mpr he), h2, by rw [e1]; exact D.nd⟩, hk⟩
def iKeysS (d : Addr) (ks : List Str) (td : TE) : TI := fun σ H R => td σ H fun x H1 => x = .ref d ∧ R (ItkS ks) H1
/-! ### x in t, a tuple of data -/
theorem op_notInDT (hu : X.A.units + 65 < cLine) : OpR X (compareOp .NotIn) (fun x y H Q => ∃ d ds, Dp X.K H x d ∧ Dp X.K H y (.tuple ds) ∧ SeqAt.shaped d = true ∧ SeqAt.shaped (.tuple ds) = true ∧ Q (.bl (!ds.any fun z => PyData.eqv z d)) H) := by
  intro pins s σ H x y v u Q I rx ry ⟨d, ds, hd, he, sd, se, q⟩
  obtain ⟨as, r1⟩ := Dp.reads I d x v hd rx
  obtain ⟨bs, r2⟩ := Dp.reads I (.tuple ds) y u he ry
  exact SeqAt.notIn_tuple_reads r2 r1 (SeqAt.canLay_of_shaped se) (SeqAt.canLay_of_shaped sd) (room_in_shaped sd hu) ⟨.bl _, H, I, rfl, q⟩
end
end Lg

/-! What the nets' functions answer, as maths. -/
namespace Lg
open PySem PySem.Spec PyProof.Rows L2
/-- a pair as a target; K is told, so that it may stand in a comprehension -/
theorem pg_pairK {X : Cx} (K : PySem.W.Frag) {e1 e2 : Expr} {t1 t2 : TG} {k : Nat} {pos : Pos} (hK : X.K = K) (hc : X.calm = true) (h1 : PG X e1 t1) (h2 : PG X e2 t2)
    (hn : (assignEach [e1, e2] X.env).length = 2) (hst : (assignEach [e1, e2] X.env).findIdx? (·.1) = none)
    (hs : (assignEach [e1, e2] X.env).map (·.2) = assign e1 X.env :: (assignEach [e2] X.env).map (·.2)) (hs2 : (assignEach [e2] X.env).map (·.2) = assign e2 X.env :: (assignEach [] X.env).map (·.2)) :
    PG X (.Tuple [e1, e2] k pos) (gTup K 2 (gCons t1 (gCons t2 gNil))) := by
  subst hK
  exact pg_tup hc (pgs_cons h1 (pgs_cons h2 pgs_nil hs2) hs) hn hst
theorem ix_tupK {X : Cx} (K : PySem.W.Frag) (hK : X.K = K) : IxR X (rIxT K) := hK ▸ ix_tup
theorem ix_listK {X : Cx} (K : PySem.W.Frag) (hK : X.K = K) : IxR X (rIxL K) := hK ▸ ix_list
theorem op_in_seqK {X : Cx} (K : PySem.W.Frag) (hK : X.K = K) : OpR X (compareOp .In) (rIn K false) := hK ▸ op_in_seq
theorem sl_listK {X : Cx} (K : PySem.W.Frag) (hK : X.K = K) : SlR X (rSlL K) := hK ▸ sl_list
theorem u65 {k : Nat} {A : Around} (r : Room k A) : A.units + 65 < cLine := by have := r.un; omega
theorem u1 {k : Nat} {A : Around} (r : Room k A) : A.units + 1 < cLine := by have := r.un; omega
theorem op_inDK {X : Cx} (K : PySem.W.Frag) (hK : X.K = K) (hu : X.A.units + 65 < cLine) : OpR X (compareOp .In) (rInD K) := hK ▸ op_inD hu
def rLen (K : PySem.W.Frag) : List V → Hp → VK → Prop := fun xs H Q => ∃ p ys, xs = [.ref p] ∧ (SqL K H p ys ∨ SqT K H p ys) ∧ Q (.int ys.length) H
theorem call_len_seqK {X : Cx} (K : PySem.W.Frag) (hK : X.K = K) : CallR X (.builtin "len") (rLen K) := hK ▸ call_len_seq
def tTru (K : PySem.W.Frag) (ta : TE) : TT := fun σ H Q => ta σ H fun x H' => ∃ k, TruV K x H' k ∧ Q k H'
theorem pt_tru {X : Cx} {a : Expr} {ta : TE} (K : PySem.W.Frag) (hK : X.K = K) (ha : PE X a ta) (he : ∀ whole, isTrue a X.env whole = (do let v ← whole; standAt a.pos; holding [v] (truthy v))) : PT X a (tTru K ta) := hK ▸ pt_truth ha he
theorem pi_listK {X : Cx} {tg l : Expr} {tl : TE} (K : PySem.W.Frag) (hK : X.K = K) (hl : PE X l tl) : PI X tg l (iList K tl) := hK ▸ pi_list hl
theorem pi_tupK {X : Cx} {tg l : Expr} {tl : TE} (K : PySem.W.Frag) (hK : X.K = K) (hl : PE X l tl) : PI X tg l (iTup K tl) := hK ▸ pi_tup hl
theorem pe_notTK {X : Cx} {a : Expr} {ta : TE} {pos : Pos} (K : PySem.W.Frag) (hK : X.K = K) (ha : PE X a ta) : PE X (.UnaryOp .Not a pos) (tNotT K ta) := hK ▸ pe_notT ha
theorem pe_fldK {X : Cx} {e : Expr} {ta : TE} {f : Str} {pos : Pos} (K : PySem.W.Frag) (hK : X.K = K) (he : PE X e ta) (hb : attributeBase e f X.env (eval e X.env) = eval e X.env) : PE X (.Attribute e f pos) (tFld K ta f) := hK ▸ pe_fld he hb
def placeD : PyData → Bool
  | .int i => decide (0 ≤ i) && decide (i ≤ 9999)
  | _ => false
def pairD : PyData → Bool
  | .tuple [a, b] => placeD a && placeD b
  | _ => false
def isStrD : PyData → Bool
  | .str _ => true
  | _ => false
def labD : PyData → Bool
  | .tuple [a, b] => placeD a && isStrD b
  | _ => false
theorem isStrD_eq (d : PyData) : isD "str" d = isStrD d := by cases d <;> rfl
theorem two_or {S : Av} {H : Hp} {xs : List V} {ds : List PyData} (h : DaAll S H xs ds) :
    (∃ x y a b, xs = [x, y] ∧ ds = [a, b] ∧ Da S H x a ∧ Da S H y b) ∨ (decide (V.int (xs.length : Int) = V.int 2) = false ∧ ∀ a b, ds ≠ [a, b]) := by
  match xs, ds, h with
  | [], [], _ => exact .inr ⟨by decide, fun _ _ e => nomatch e⟩
  | [_], [_], _ => exact .inr ⟨decide_eq_false fun e => absurd (V.int.inj e) (show ¬ (1 : Int) = 2 by decide), fun _ _ e => nomatch e⟩
  | [x, y], [a, b], .cons h1 (.cons h2 .nil) => exact .inl ⟨x, y, a, b, rfl, rfl, h1, h2⟩
  | _ :: _ :: _ :: r, _ :: _ :: _ :: _, _ =>
    refine .inr ⟨decide_eq_false fun e => ?_, fun _ _ e => nomatch e⟩
    have := V.int.inj e
    simp only [List.length_cons] at this
    omega
theorem pairD_no {ds : List PyData} (h : ∀ a b, ds ≠ [a, b]) : pairD (.tuple ds) = false := by
  match ds, h with
  | [], _ => rfl
  | [_], _ => rfl
  | [a, b], h => exact absurd rfl (h a b)
  | _ :: _ :: _ :: _, _ => rfl
theorem labD_no {ds : List PyData} (h : ∀ a b, ds ≠ [a, b]) : labD (.tuple ds) = false := by
  match ds, h with
  | [], _ => rfl
  | [_], _ => rfl
  | [a, b], h => exact absurd rfl (h a b)
  | _ :: _ :: _ :: _, _ => rfl
/-- the places in the list at which p holds -/
def atB {α : Type} (p : α → Bool) (l : List α) : List Nat := (List.range l.length).filter fun i => (l[i]?).any p
theorem flt_succ {p : Nat → Bool} {n : Nat} : (List.range (n + 1)).filter p = (List.range n).filter p ++ (if p n = true then [n] else []) := by
  rw [List.range_succ, List.filter_append]
  cases h : p n <;> simp [h]
theorem flt_le {p : Nat → Bool} {n : Nat} : ((List.range n).filter p).length ≤ n := Nat.le_trans (List.length_filter_le _ _) (by rw [List.length_range]; exact Nat.le_refl _)
/-- a comprehension that only makes new things: of each turn i its y i, if p i -/
theorem lc_flt {J : It} {n : Nat} {G : Hp → Prop} {Y : Nat → Hp → V → Hp → Prop} (w : Walk J n G Y) {g : TG} {tt : TT} {te : TE} {vs : List Nat} {σ : L2.St} {H : Hp} {Q : VK} (p : Nat → Bool) (y : Nat → V) (hn : n < sizeLine)
    (hG : ∀ H', Same H H' → G H')
    (hs : ∀ i x H1 H2 (N : Hp → Prop) (A : VK), i < n → Same H H1 → Y i H1 x H2 → (∀ H4, Same H1 H4 → p i = false → N H4) → (∀ H5, Same H1 H5 → p i = true → A (y i) H5) →
      g x (wipe σ vs) H2 fun σ2 H3 => wipe σ2 vs = wipe σ vs ∧ tt σ2 H3 fun b H4 => if b = true then te σ2 H4 A else N H4)
    (hd : ∀ D H', H D = none → Same H H' → H' D = some (.lst (((List.range n).filter p).map y)) → Q (.ref D) H') : tLc (fun _ H R => R J H) g tt te vs σ H Q := by
  intro D nD
  refine lc_it w (fun i H' => Same H H' ∧ H' D = some (.lst (((List.range i).filter p).map y))) ⟨same_new (Same.refl H) nD, upd_same⟩ (fun i H' _ hp => hG H' hp.1) ?_ (fun H' hp => hd D H' nD hp.1 hp.2)
  rintro i x H1 H2 hi ⟨sm, eD⟩ hy
  refine hs i x H1 H2 _ _ hi sm hy (fun H4 h4 h3 => ⟨fun b o e => h4 _ _ (sm _ _ e), ?_⟩) (fun H5 h7 h3 => ⟨_, h7 _ _ eD, ?_, fun b o e => ?_, ?_⟩)
  · rw [flt_succ, if_neg (by rw [h3]; decide), List.append_nil]
    exact h4 _ _ eD
  · rw [List.length_map]
    exact Nat.lt_of_le_of_lt flt_le (Nat.lt_trans hi hn)
  · rw [upd_ne (ne_of_none e nD)]
    exact h7 _ _ (sm _ _ e)
  · rw [upd_same, flt_succ, if_pos h3, List.map_append]
    rfl
/-! ### arrows and leaves as data -/
abbrev pd (p : Int × Int) : PyData := .tuple [.int p.1, .int p.2]
abbrev ld (p : Int × Str) : PyData := .tuple [.int p.1, .str p.2]
theorem Da.intV {S : Av} {H : Hp} {v : V} {i : Int} (h : Da S H v (.int i)) : v = .int i := by cases h; rfl
theorem Da.strV {S : Av} {H : Hp} {v : V} {i : Str} (h : Da S H v (.str i)) : v = .str i := by cases h; rfl
theorem Da.pd {S : Av} {H : Hp} {v : V} {p : Int × Int} (h : Da S H v (pd p)) : ∃ t, v = .ref t ∧ ¬ S t ∧ H t = some (.tup [.int p.1, .int p.2]) := by
  cases h with
  | tup n e r =>
    cases r with
    | cons h1 r =>
      cases r with
      | cons h2 r =>
        cases r
        rw [h1.intV, h2.intV] at e
        exact ⟨_, rfl, n, e⟩
theorem Da.ld {S : Av} {H : Hp} {v : V} {p : Int × Str} (h : Da S H v (ld p)) : ∃ t, v = .ref t ∧ ¬ S t ∧ H t = some (.tup [.int p.1, .str p.2]) := by
  cases h with
  | tup n e r =>
    cases r with
    | cons h1 r =>
      cases r with
      | cons h2 r =>
        cases r
        rw [h1.intV, h2.strV] at e
        exact ⟨_, rfl, n, e⟩
theorem Da.list {S : Av} {H : Hp} {v : V} {ds : List PyData} (h : Da S H v (.list ds)) : ∃ a xs, v = .ref a ∧ ¬ S a ∧ H a = some (.lst xs) ∧ DaAll S H xs ds := by
  cases h with
  | lst n e r => exact ⟨_, _, rfl, n, e, r⟩
theorem DaAll.pd {S : Av} {H : Hp} {xs : List V} {As : List (Int × Int)} (h : DaAll S H xs (As.map Lg.pd)) {i : Nat} {v : V} (e : xs[i]? = some v) :
    ∃ p t, As[i]? = some p ∧ v = .ref t ∧ ¬ S t ∧ H t = some (.tup [.int p.1, .int p.2]) := by
  obtain ⟨d, e2, hd⟩ := h.get e
  rw [List.getElem?_map] at e2
  obtain ⟨p, e3, rfl⟩ := Option.map_eq_some_iff.mp e2
  obtain ⟨t, h1, h2, h3⟩ := hd.pd
  exact ⟨p, t, e3, h1, h2, h3⟩
theorem DaAll.ld {S : Av} {H : Hp} {xs : List V} {Ls : List (Int × Str)} (h : DaAll S H xs (Ls.map Lg.ld)) {i : Nat} {v : V} (e : xs[i]? = some v) :
    ∃ p t, Ls[i]? = some p ∧ v = .ref t ∧ ¬ S t ∧ H t = some (.tup [.int p.1, .str p.2]) := by
  obtain ⟨d, e2, hd⟩ := h.get e
  rw [List.getElem?_map] at e2
  obtain ⟨p, e3, rfl⟩ := Option.map_eq_some_iff.mp e2
  obtain ⟨t, h1, h2, h3⟩ := hd.ld
  exact ⟨p, t, e3, h1, h2, h3⟩
theorem DaAll.ldS {S : Av} {H H' : Hp} {xs : List V} {Ls : List (Int × Str)} (h : DaAll S H xs (Ls.map Lg.ld)) (sm : Same H H') {i : Nat} {v : V} (e : xs[i]? = some v) :
    ∃ p t, Ls[i]? = some p ∧ v = .ref t ∧ ¬ S t ∧ H' t = some (.tup [.int p.1, .str p.2]) := let ⟨p, t, a, b, c, d⟩ := h.ld e; ⟨p, t, a, b, c, sm _ _ d⟩
theorem DaAll.pdS {S : Av} {H H' : Hp} {xs : List V} {Ls : List (Int × Int)} (h : DaAll S H xs (Ls.map Lg.pd)) (sm : Same H H') {i : Nat} {v : V} (e : xs[i]? = some v) :
    ∃ p t, Ls[i]? = some p ∧ v = .ref t ∧ ¬ S t ∧ H' t = some (.tup [.int p.1, .int p.2]) := let ⟨p, t, a, b, c, d⟩ := h.pd e; ⟨p, t, a, b, c, sm _ _ d⟩
/-- indexes as a list of a heap -/
abbrev ixs (l : List Nat) : HO := .lst (l.map fun i : Nat => V.int i)
mutual
theorem Da.dp {K : PySem.W.Frag} {S : Av} {H : Hp} : ∀ {v : V} {d : PyData}, Da S H v d → Dp K H v d
  | _, _, .non => .non
  | _, _, .bl b => .bl b
  | _, _, .int i => .int i
  | _, _, .str x => .str x
  | _, _, .lst _ e r => .lst (.of e) (DaAll.dp r)
  | _, _, .tup _ e r => .tup (.of e) (DaAll.dp r)
theorem DaAll.dp {K : PySem.W.Frag} {S : Av} {H : Hp} : ∀ {vs : List V} {ds : List PyData}, DaAll S H vs ds → DpAll K H vs ds
  | _, _, .nil => .nil
  | _, _, .cons a r => .cons (Da.dp a) (DaAll.dp r)
end
theorem cutV_take (xs : List V) (i : Nat) : cutV xs none (some (i : Int)) = xs.take i := by
  unfold cutV
  rw [HT.sIx_none, HT.sIx_nat, List.drop_zero, Nat.sub_zero]
  by_cases h : i ≤ xs.length
  · rw [Nat.min_eq_left h]
  · rw [Nat.min_eq_right (by omega), List.take_of_length_le (Nat.le_refl _), List.take_of_length_le (by omega)]
theorem depth_map {α : Type} (f : α → PyData) (n : Nat) : ∀ {l : List α}, (∀ a ∈ l, (f a).depth ≤ n) → PyData.depthAll (l.map f) ≤ n
  | [], _ => Nat.zero_le _
  | a :: l, h => Nat.max_le.mpr ⟨h a List.mem_cons_self, depth_map f n fun b hb => h b (List.mem_cons_of_mem _ hb)⟩
theorem lay_map {α : Type} (f : α → PyData) : ∀ {l : List α}, (∀ a ∈ l, (f a).canLay0 = true) → PyData.canLayAll0 (l.map f) = true
  | [], _ => rfl
  | a :: l, h => Bool.and_eq_true_iff.mpr ⟨h a List.mem_cons_self, lay_map f fun b hb => h b (List.mem_cons_of_mem _ hb)⟩
theorem pd_depth (p : Int × Int) : (pd p).depth = 1 := rfl
theorem shaped_pd (p : Int × Int) : SeqAt.shaped (pd p) = true := rfl
theorem shaped_pds (As : List (Int × Int)) : SeqAt.shaped (.list (As.map pd)) = true := by
  refine Bool.and_eq_true_iff.mpr ⟨lay_map pd fun p _ => rfl, decide_eq_true ?_⟩
  exact Nat.le_trans (Nat.succ_le_succ (depth_map pd 1 fun p _ => Nat.le_of_eq (pd_depth p))) (by decide)
theorem eqv_pd (p q : Int × Int) : PyData.eqv (pd p) (pd q) = decide (p = q) := by
  obtain ⟨a, b⟩ := p
  obtain ⟨c, d⟩ := q
  show PyData.eqvAll [.int a, .int b] [.int c, .int d] = _
  simp [PyData.eqvAll, PyData.eqv, Prod.mk.injEq, BEq.beq]
theorem any_pd (p : Int × Int) (l : List (Int × Int)) : ((l.map pd).any fun z => PyData.eqv z (pd p)) = decide (p ∈ l) := by
  rw [List.any_map, Bool.eq_iff_iff, List.any_eq_true, decide_eq_true_eq]
  constructor
  · rintro ⟨q, hq, h⟩
    rw [Function.comp, eqv_pd, decide_eq_true_eq] at h
    exact h ▸ hq
  · intro h
    exact ⟨p, h, by rw [Function.comp, eqv_pd, decide_eq_true_eq]⟩
/-- a comprehension that only makes new things, with something of each turn -/
theorem lc_map {J : It} {n : Nat} {G : Hp → Prop} {Y : Nat → Hp → V → Hp → Prop} (w : Walk J n G Y) {g : TG} {tt : TT} {te : TE} {vs : List Nat} {σ : L2.St} {H : Hp} {Q : VK} (zs : List V) (hz : zs.length = n) (hn : n < sizeLine)
    (hG : ∀ H', Same H H' → G H')
    (hs : ∀ i x H1 H2 (N : Hp → Prop) (A : VK) (z : V), zs[i]? = some z → Same H H1 → Y i H1 x H2 → (∀ H5, Same H1 H5 → A z H5) →
      g x (wipe σ vs) H2 fun σ2 H3 => wipe σ2 vs = wipe σ vs ∧ tt σ2 H3 fun b H4 => if b = true then te σ2 H4 A else N H4)
    (hd : ∀ D H', H D = none → Same H H' → H' D = some (.lst zs) → Q (.ref D) H') : tLc (fun _ H R => R J H) g tt te vs σ H Q := by
  refine lc_flt w (fun _ => true) (fun i => (zs[i]?).getD .non) hn hG (fun i x H1 H2 N A hi sm hy _ hA => ?_) (fun D H' nD sm e => hd D H' nD sm ?_)
  · have hi' : i < zs.length := by omega
    exact hs i x H1 H2 N A zs[i] (List.getElem?_eq_getElem hi') sm hy fun H5 s5 => by
      have := hA H5 s5 rfl
      rw [List.getElem?_eq_getElem hi'] at this
      exact this
  · rw [e]
    congr 1
    congr 1
    rw [List.filter_eq_self.mpr (fun _ _ => rfl)]
    apply List.ext_getElem?
    intro i
    rw [List.getElem?_map]
    by_cases h : i < n
    · rw [List.getElem?_range h]
      have hi : zs[i]? = some (zs[i]'(by omega)) := List.getElem?_eq_getElem (by omega)
      simp only [hi, Option.map_some, Option.getD_some]
    · rw [List.getElem?_eq_none (by rw [List.length_range]; omega), List.getElem?_eq_none (by omega)]
      rfl
theorem inV_ints {i : Int} {ns : List Int} : inV (.int i) (ns.map V.int) = decide (i ∈ ns) := by
  unfold inV
  rw [List.any_map, Bool.eq_iff_iff, List.any_eq_true, decide_eq_true_eq]
  constructor
  · rintro ⟨q, hq, h⟩
    have : q = i := by simpa [eqV] using h
    exact this ▸ hq
  · intro h
    exact ⟨i, h, by simp [eqV]⟩
theorem inV_strs {i : Str} {ns : List Str} : inV (.str i) (ns.map V.str) = decide (i ∈ ns) := by
  unfold inV
  rw [List.any_map, Bool.eq_iff_iff, List.any_eq_true, decide_eq_true_eq]
  constructor
  · rintro ⟨q, hq, h⟩
    have : q = i := by simpa [eqV] using h
    exact this ▸ hq
  · intro h
    exact ⟨i, h, by simp [eqV]⟩
theorem flat_ints {ns : List Int} : (ns.map V.int).all flatV = true := by
  rw [List.all_map, List.all_eq_true]
  exact fun _ _ => rfl
theorem flat_strs {ns : List Str} : (ns.map V.str).all flatV = true := by
  rw [List.all_map, List.all_eq_true]
  exact fun _ _ => rfl
theorem lc_listM {K : PySem.W.Frag} {j : Nat} {a : Addr} {xs : List V} {g : TG} {tt : TT} {te : TE} {vs : List Nat} {σ : L2.St} {H : Hp} {Q : VK} (hσ : σ[j]? = some (some (.ref a))) (ea : H a = some (.lst xs)) (zs : List V) (hz : zs.length = xs.length) (hn : xs.length < sizeLine)
    (hs : ∀ (i : Nat) (x : V) (H1 : Hp) (N : Hp → Prop) (A : VK) (z : V), zs[i]? = some z → Same H H1 → xs[i]? = some x → (∀ H5, Same H1 H5 → A z H5) →
      g x (wipe σ vs) H1 fun σ2 H3 => wipe σ2 vs = wipe σ vs ∧ tt σ2 H3 fun b H4 => if b = true then te σ2 H4 A else N H4)
    (hd : ∀ D H', H D = none → Same H H' → H' D = some (.lst zs) → Q (.ref D) H') : tLc (iList K (tVar j)) g tt te vs σ H Q :=
  ⟨_, hσ, a, rfl, ⟨_, .of ea⟩, lc_map (walk_list (K := K) (a := a) (xs := xs)) zs hz hn (fun H' sm => .of (sm _ _ ea)) (fun i x H1 H2 N A z h1 h2 ⟨h3, h4⟩ h5 => by
    subst h3
    exact hs i x _ N A z h1 h2 h4 h5) hd⟩
theorem line62 {n : Nat} (h : n < sizeLine) : -2 ^ 62 ≤ (n : Int) ∧ (n : Int) < 2 ^ 62 := by
  have : sizeLine < 2 ^ 62 := by decide
  have h2 : n < 2 ^ 62 := Nat.lt_trans h this
  omega
/-- the turns of a walk, whatever a turn does -/
theorem loop_it {J : It} {n : Nat} {G : Hp → Prop} {Y : Nat → Hp → V → Hp → Prop} (w : Walk J n G Y) (Pv : Nat → Hp → Prop) {H0 : Hp} (h0 : Pv 0 H0) (hG : ∀ i H, i ≤ n → Pv i H → G H)
    {Stop : Hp → Prop} {Step : (Hp → Prop) → V → Hp → Prop} (hs : ∀ i x H H', i < n → Pv i H → Y i H x H' → Step (Pv (i + 1)) x H') (hd : ∀ H, Pv n H → Stop H) :
    ∃ W : Nat → Nat → Hp → Prop, (∃ m, W 0 m H0) ∧ ∀ j k H, W j k H → (J.stop j H ∧ Stop H) ∨ (J.go j H ∧ ∃ Nx : Hp → Prop, (∀ H', Nx H' → ∃ k', k' < k ∧ W (j + 1) k' H') ∧ ∀ x H', J.yld j H x H' → Step Nx x H') := by
  refine ⟨fun j k H => k = n - j ∧ j ≤ n ∧ Pv j H, ⟨n, rfl, Nat.zero_le _, h0⟩, fun j k H ⟨hk, hj, p⟩ => ?_⟩
  have q := hG j H hj p
  rcases Nat.lt_or_ge j n with hlt | hge
  · exact .inr ⟨w.goes j H hlt q, Pv (j + 1), fun H' p' => ⟨n - (j + 1), by omega, rfl, hlt, p'⟩, fun x H' y => hs j x H H' hlt p (w.yields j H x H' hlt q y)⟩
  · obtain rfl : j = n := by omega
    exact .inl ⟨w.stops H q, hd H p⟩
abbrev endsOf (As : List (Int × Int)) : List Int := As.flatMap fun p => [p.1, p.2]
theorem endsOf_len (As : List (Int × Int)) : (endsOf As).length = 2 * As.length := by
  induction As with
  | nil => rfl
  | cons p As ih =>
    show (p.1 :: p.2 :: endsOf As).length = _
    rw [List.length_cons, List.length_cons, ih, List.length_cons]
    omega
theorem endsOf_take {As : List (Int × Int)} {i : Nat} {p : Int × Int} (e : As[i]? = some p) : endsOf (As.take (i + 1)) = endsOf (As.take i) ++ [p.1, p.2] := by
  unfold endsOf
  rw [← take_snoc e, List.flatMap_append]
  rfl
theorem lc2_ends {K : PySem.W.Frag} {S : Av} {j ia ie : Nat} {a : Addr} {As : List (Int × Int)} {xs : List V} {vs vs1 : List Nat} {σ : L2.St} {H : Hp} {Q : VK} (hσ : σ[j]? = some (some (.ref a))) (ea : H a = some (.lst xs)) (hA : DaAll S H xs (As.map pd)) (hn : 2 * As.length + 2 < sizeLine)
    (hw : ∀ v, wipe ((wipe σ vs).set ia (some v)) vs = wipe σ vs) (hv : ∀ v, ((wipe σ vs).set ia (some v))[ia]? = some (some v))
    (hw1 : ∀ v u, wipe ((wipe ((wipe σ vs).set ia (some v)) vs1).set ie (some u)) vs1 = wipe ((wipe σ vs).set ia (some v)) vs1) (hv1 : ∀ v u, ((wipe ((wipe σ vs).set ia (some v)) vs1).set ie (some u))[ie]? = some (some u))
    (hd : ∀ D H', H D = none → Same H H' → H' D = some (.lst ((endsOf As).map V.int)) → Q (.ref D) H') : tLc2 (iList K (tVar j)) (gName ia) tYes (iTup K (tVar ia)) (gName ie) tYes (tVar ie) vs vs1 σ H Q := by
  have hx : xs.length = As.length := by rw [hA.length, List.length_map]
  refine ⟨_, hσ, a, rfl, ⟨_, .of ea⟩, fun D nD => ?_⟩
  refine loop_it (walk_list (K := K) (a := a) (xs := xs)) (fun i H' => Same H H' ∧ H' D = some (.lst ((endsOf (As.take i)).map V.int))) ⟨same_new (Same.refl H) nD, upd_same⟩ (fun i H' _ hp => .of (hp.1 _ _ ea))
    (Step := fun Nx x H' => gName ia x (wipe σ vs) H' fun σ2 H2 => wipe σ2 vs = wipe σ vs ∧ tYes σ2 H2 fun b H3 => if b = true then iTup K (tVar ia) σ2 H3 fun J1 H4 => ∃ W1 : Nat → Nat → Hp → Prop, (∃ m, W1 0 m H4) ∧ ∀ j k H, W1 j k H →
      (J1.stop j H ∧ Nx H) ∨ (J1.go j H ∧ ∃ Nx1 : Hp → Prop, (∀ H', Nx1 H' → ∃ k', k' < k ∧ W1 (j + 1) k' H') ∧ ∀ x H', J1.yld j H x H' → gName ie x (wipe σ2 vs1) H' fun σ3 H5 => wipe σ3 vs1 = wipe σ2 vs1 ∧ tYes σ3 H5 fun b H6 =>
        if b = true then tVar ie σ3 H6 fun y H7 => ∃ acc, H7 D = some (.lst acc) ∧ acc.length < sizeLine ∧ Nx1 (upd H7 D (.lst (acc ++ [y]))) else Nx1 H6) else Nx H3) ?_ ?_
  · rintro i x H1 H2 hi ⟨sm, eD⟩ ⟨rfl, hxi⟩
    obtain ⟨p, t, ed, rfl, nt, et⟩ := hA.pdS sm hxi
    refine ⟨hw _, _, hv _, t, rfl, ⟨_, .of et⟩, ?_⟩
    refine loop_it (walk_tup (K := K) (a := t) (xs := [.int p.1, .int p.2])) (fun k H' => Same H H' ∧ H' D = some (.lst ((endsOf (As.take i) ++ [p.1, p.2].take k).map V.int))) ⟨sm, by rw [List.take_zero, List.append_nil]; exact eD⟩
      (fun k H' _ hp => let ⟨_, _, e3, e4, _, e6⟩ := hA.pdS hp.1 hxi; ?_)
      (Step := fun Nx1 x H' => gName ie x (wipe ((wipe σ vs).set ia (some (.ref t))) vs1) H' fun σ3 H5 => wipe σ3 vs1 = wipe ((wipe σ vs).set ia (some (.ref t))) vs1 ∧ tYes σ3 H5 fun b H6 =>
        if b = true then tVar ie σ3 H6 fun y H7 => ∃ acc, H7 D = some (.lst acc) ∧ acc.length < sizeLine ∧ Nx1 (upd H7 D (.lst (acc ++ [y]))) else Nx1 H6) ?_ ?_
    · rw [ed] at e3
      cases e3
      cases e4
      exact .of e6
    · rintro k x H1 H2 hk ⟨sm, eD⟩ ⟨rfl, hxk⟩
      have hu : ∃ u, [p.1, p.2][k]? = some u ∧ x = .int u := by
        rcases k with _ | _ | k
        · cases hxk; exact ⟨_, rfl, rfl⟩
        · cases hxk; exact ⟨_, rfl, rfl⟩
        · cases hxk
      obtain ⟨u, hu, rfl⟩ := hu
      refine ⟨hw1 _ _, _, hv1 _ _, _, eD, ?_, fun b o e => ?_, ?_⟩
      · rw [List.length_map, List.length_append, endsOf_len, List.length_take, List.length_take]
        show 2 * min i As.length + min k 2 < sizeLine
        omega
      · rw [upd_ne (ne_of_none e nD)]
        exact sm _ _ e
      · rw [upd_same, ← take_snoc hu, ← List.append_assoc, List.map_append (l₂ := [u])]
        rfl
    · rintro H' ⟨sm, eD⟩
      exact ⟨sm, by rw [endsOf_take ed]; exact eD⟩
  · rintro H' ⟨sm, eD⟩
    rw [hx, List.take_length] at eD
    exact hd D H' nD sm eD
/-- P: what is in l, ascending, once each -/
def Asc (P l : List Int) : Prop := P.Pairwise (· < ·) ∧ ∀ k, k ∈ P ↔ k ∈ l
theorem Asc.nodup {P l : List Int} (h : Asc P l) : P.Nodup := h.1.imp Int.ne_of_lt
theorem asc_uniq : ∀ {P R : List Int}, P.Pairwise (· < ·) → R.Pairwise (· < ·) → (∀ k, k ∈ P ↔ k ∈ R) → P = R
  | [], [], _, _, _ => rfl
  | [], r :: R, _, _, h => absurd ((h r).mpr List.mem_cons_self) (by simp)
  | p :: P, [], _, _, h => absurd ((h p).mp List.mem_cons_self) (by simp)
  | p :: P, r :: R, hp, hr, h => by
    obtain ⟨p1, p2⟩ := List.pairwise_cons.mp hp
    obtain ⟨r1, r2⟩ := List.pairwise_cons.mp hr
    have e : p = r := by
      rcases List.mem_cons.mp ((h p).mp List.mem_cons_self) with e | e
      · exact e
      · rcases List.mem_cons.mp ((h r).mpr List.mem_cons_self) with e2 | e2
        · exact e2.symm
        · have := r1 p e
          have := p1 r e2
          omega
    subst e
    rw [asc_uniq p2 r2 fun k => ⟨fun hk => ?_, fun hk => ?_⟩]
    · rcases List.mem_cons.mp ((h k).mp (List.mem_cons_of_mem _ hk)) with e | e
      · have := p1 k hk
        omega
      · exact e
    · rcases List.mem_cons.mp ((h k).mpr (List.mem_cons_of_mem _ hk)) with e | e
      · have := r1 k hk
        omega
      · exact e
theorem Asc.uniq {P R l m : List Int} (h : Asc P l) (h2 : Asc R m) (e : ∀ k, k ∈ l ↔ k ∈ m) : P = R :=
  asc_uniq h.1 h2.1 fun k => by rw [h.2, h2.2, e]
theorem nodup_le {α : Type} [BEq α] [LawfulBEq α] : ∀ {L M : List α}, L.Nodup → (∀ k, k ∈ L → k ∈ M) → L.length ≤ M.length
  | [], _, _, _ => Nat.zero_le _
  | x :: L, M, h, hm => by
    have hx := hm x List.mem_cons_self
    have h2 := List.nodup_cons.mp h
    have := nodup_le (M := M.erase x) h2.2 fun k hk => (List.mem_erase_of_ne (fun (e : k = x) => h2.1 (e ▸ hk))).mpr (hm k (List.mem_cons_of_mem _ hk))
    rw [List.length_erase_of_mem hx] at this
    have := List.length_pos_of_mem hx
    rw [List.length_cons]
    omega
theorem same_snoc {H H' : Hp} {p : Addr} {o : HO} (s : Same H H') (n : H' p = none) : Same H (upd H' p o) := fun b u e => same_new (Same.refl H') n b u (s b u e)
/-- name = {..} over one for, the name a local -/
theorem sw_trueD {kx vx : Expr} {gs : List Comprehension} {scope : Scope} {pos py : Pos} {y : Str} {l : Nat} {env : Env} (hk : env.scope.kind = .function) (hy : env.scope.names.lookup y = some .local) (hl : (py.line == pos.line) = true)
    (ha : (scope.names.any fun (n, k) => n == y && (k == .local || k == .cell)) = false) : swapsWith (.DictComp kx vx gs scope pos) (some (.Name y py)) l env = pure true := by
  have h1 : env.kindOf y = some .local := hy
  have h2 : env.blockKind = .function := by
    unfold Env.blockKind
    rw [hk]
    rfl
  unfold swapsWith
  simp only [h1, h2, ha, hl, Expr.pos]
  rfl
section
variable {X : Cx}
theorem ps_setDc {i : Nat} {y : Str} {py : Pos} {kx vx tg iter : Expr} {ifs : List Expr} {scope : Scope} {own : List (Str × Nat)} {pos spos : Pos} {wi : TI} {g : TG} {tt : TT} {tk tv : TE} (hc : X.calm = true) (hN : X.N.Nodup) (hy : X.N[i]? = some y) (hyl : X.env.scope.names.lookup y = some .local)
    (hsw : swapsWith (.DictComp kx vx [⟨tg, iter, ifs, 0⟩] scope pos) (some (.Name y py)) spos.line X.env = pure true) (hi : PI X tg iter wi) (ok : BlkOk X.N X.env.scope scope own)
    (hg : ∀ (s : Shared) (H : Hp) (C : Addr) (cl : List (Str × Addr)) (fp : List Addr), PG (X.blk s H scope (compEnvC scope cl C X.env) fp) tg g) (ht : ∀ (s : Shared) (H : Hp) (C : Addr) (cl : List (Str × Addr)) (fp : List Addr), PTs (X.blk s H scope (compEnvC scope cl C X.env) fp) ifs tt)
    (hk : ∀ (s : Shared) (H : Hp) (C : Addr) (cl : List (Str × Addr)) (fp : List Addr), PE (X.blk s H scope (compEnvC scope cl C X.env) fp) kx tk)
    (he : ∀ (s : Shared) (H : Hp) (C : Addr) (cl : List (Str × Addr)) (fp : List Addr), PE (X.blk s H scope (compEnvC scope cl C X.env) fp) vx tv) (hs : ∀ x, foldedSetIterable iter X.env x = pure x := by intro _; rfl) :
    PS X (.Assign [.Name y py] (.DictComp kx vx [⟨tg, iter, ifs, 0⟩] scope pos) spos) (tAsg (tDc wi g tt tk tv (own.map (·.2))) (gName i)) := by
  refine ⟨fun pins s σ H D I h => ?_⟩
  rw [exec_Assign_Name_used _ _ _ _ hsw]
  refine wpAny_bind (wpAny_standAt (wpAny_bind ?_))
  show wpAny _ X.A (do let _ ← comprehension (.DictComp kx vx [⟨tg, iter, ifs, 0⟩] scope pos) scope X.env (firstIterPos [⟨tg, iter, ifs, 0⟩] pos) newDict false (eval iter X.env) (some (assign (.Name y py) X.env))) _ _ s
  have hh : tDc wi g tt tk tv (own.map (·.2)) σ H (fun x H1 => gName i x σ H1 D.nx) := h
  refine wpAny_bind (thn (dc_core (Qf := fun _ s' => SP X pins D .next s') hc hN I hi ok hg ht hk he hs hh fun L C s' m H' I' q hn f => ?_) fun _ s' z => wpAny_pure (wpAny_pure z))
  show wpAny _ _ (assign (.Name y py) X.env (.ref L)) _ _ _
  refine wpAny_assign_Name (store_ok2 (v := V.ref L) I' hN hy (.inl hyl) rfl (fun s2 I2 ⟨a, sb, ha⟩ => ?_) (.inr hyl))
  obtain ⟨f0, f1, f2, f3, f4, f5⟩ := f
  have ne : C ≠ a := fun e => by
    rcases ha with z | z
    · exact f1 (e.trans z)
    · exact f4 y a z e.symm
  exact ⟨m, hn.sameBut sb ne, fun h3 sb3 => ⟨_, H', I2.turned (t' := s2.toks) (fun b o hb e => (sb3.2 b hb).trans e) f0 f1 f3 f4 f5, q⟩⟩
end
/-! ### dicts from places to lists of places -/
abbrev dKs (P : List Int) (adr : Int → Addr) : HO := .dK (P.map fun p => ((.inl p : Key), V.ref (adr p)))
/-- at D a dict of the places P, made behind H0, with a list of its own for each: val p -/
structure DiN (H0 H : Hp) (D : Addr) (P : List Int) (adr : Int → Addr) (val : Int → List Int) : Prop where
  nd : H0 D = none
  na : ∀ p ∈ P, H0 (adr p) = none
  inj : ∀ p ∈ P, ∀ q ∈ P, adr p = adr q → p = q
  at_ : H D = some (dKs P adr)
  val : ∀ p ∈ P, H (adr p) = some (.lst ((val p).map V.int))
theorem valV_dKs {P : List Int} {adr : Int → Addr} {q : Int} (h : q ∈ P) : valV (P.map fun p => ((.inl p : Key), V.ref (adr p))) (.inl q) = some (.ref (adr q)) := by
  unfold valV
  rw [List.find?_map]
  have : ∃ r, P.find? ((fun kv : Key × V => decide (kv.1 = (.inl q : Key))) ∘ fun p => ((.inl p : Key), V.ref (adr p))) = some r ∧ r = q := by
    cases e : P.find? ((fun kv : Key × V => decide (kv.1 = (.inl q : Key))) ∘ fun p => ((.inl p : Key), V.ref (adr p))) with
    | none =>
      have := List.find?_eq_none.mp e q h
      simp at this
    | some r =>
      have := List.find?_some e
      simp at this
      exact ⟨r, rfl, this⟩
  obtain ⟨r, h1, rfl⟩ := this
  rw [h1]
  rfl
theorem putK_new {P : List Int} {adr : Int → Addr} {q : Int} {a : V} (h : q ∉ P) : putK (P.map fun p => ((.inl p : Key), V.ref (adr p))) (.inl q) a = (P.map fun p => ((.inl p : Key), V.ref (adr p))) ++ [(.inl q, a)] := by
  unfold putK
  rw [if_neg]
  rw [List.any_map, List.any_eq_true]
  rintro ⟨r, hr, e⟩
  simp at e
  exact h (e ▸ hr)
theorem dc_lists {K : PySem.W.Frag} {j ip : Nat} {a : Addr} {P : List Int} {vs : List Nat} {σ : L2.St} {H : Hp} {Q : VK} (hσ : σ[j]? = some (some (.ref a))) (ea : H a = some (.lst (P.map V.int))) (hP : P.Nodup) (hn : P.length < sizeLine)
    (hw : ∀ v, wipe ((wipe σ vs).set ip (some v)) vs = wipe σ vs) (hv : ∀ v, ((wipe σ vs).set ip (some v))[ip]? = some (some v))
    (hd : ∀ D H' adr, Same H H' → DiN H H' D P adr (fun _ => []) → Q (.ref D) H') : tDc (iList K (tVar j)) (gName ip) tYes (tVar ip) (tLst tNil) vs σ H Q := by
  refine ⟨_, hσ, a, rfl, ⟨_, .of ea⟩, fun D nD => ?_⟩
  refine loop_it (walk_list (K := K) (a := a) (xs := P.map V.int)) (fun i H' => Same H H' ∧ ∃ adr, DiN H H' D (P.take i) adr fun _ => []) ⟨same_new (Same.refl H) nD, fun _ => D, nD, (fun p hp => by simp at hp), (fun p hp => by simp at hp), upd_same, (fun p hp => by simp at hp)⟩ (fun i H' _ hp => .of (hp.1 _ _ ea))
    (Step := fun Nx x H' => gName ip x (wipe σ vs) H' fun σ2 H2 => wipe σ2 vs = wipe σ vs ∧ tYes σ2 H2 fun b H3 =>
      if b = true then tVar ip σ2 H3 fun y H4 => tLst tNil σ2 H4 fun z H5 => ∃ kvs k, y = kV k ∧ H5 D = some (.dK kvs) ∧ kvs.length < sizeLine ∧ Nx (upd H5 D (.dK (putK kvs k z))) else Nx H3) ?_ ?_
  · rintro i x H1 H2 hi ⟨sm, adr, h⟩ ⟨rfl, hx⟩
    rw [List.getElem?_map] at hx
    obtain ⟨p, hp, rfl⟩ := Option.map_eq_some_iff.mp hx
    refine ⟨hw _, _, hv _, (by show 0 ≤ sizeLine; decide), fun l nl => ?_⟩
    have lD : D ≠ l := fun e => by rw [← e, h.at_] at nl; cases nl
    have pn : p ∉ P.take i := fun hm => by
      obtain ⟨k, hk⟩ := List.mem_iff_getElem?.mp hm
      have hki : k < i := by
        have := (List.getElem?_eq_some_iff.mp hk).1
        rw [List.length_take] at this
        omega
      rw [List.getElem?_take_of_lt hki] at hk
      have h1 := (List.getElem?_eq_some_iff.mp hk)
      have h2 := (List.getElem?_eq_some_iff.mp hp)
      exact absurd ((List.getElem_inj hP).mp (h1.2.trans h2.2.symm)) (Nat.ne_of_lt hki)
    have pne : ∀ q ∈ P.take i, q ≠ p := fun q hq e => pn (e ▸ hq)
    have nl0 : H l = none := sm.free nl
    have ladr : ∀ q ∈ P.take i, adr q ≠ l := fun q hq e => by
      have := h.val q hq
      rw [e, nl] at this
      cases this
    refine ⟨_, .inl p, rfl, (by rw [upd_ne lD]; exact h.at_), ?_, fun b o e => ?_, fun q => if q = p then l else adr q, h.nd, fun q hq => ?_, fun q hq r hr e => ?_, ?_, fun q hq => ?_⟩
    · rw [List.length_map, List.length_take]
      exact Nat.lt_of_le_of_lt (Nat.min_le_right _ _) hn
    · have e1 := sm _ _ e
      rw [upd_ne (fun z => by rw [z, h.nd] at e; cases e), upd_ne (fun z => by rw [z, nl] at e1; cases e1)]
      exact e1
    · show H (if q = p then l else adr q) = none
      rw [← take_snoc hp] at hq
      rcases List.mem_append.mp hq with hq | hq
      · rw [if_neg (pne _ hq)]
        exact h.na q hq
      · rw [if_pos (List.mem_singleton.mp hq)]
        exact nl0
    · rw [← take_snoc hp] at hq hr
      rcases List.mem_append.mp hq with hq | hq <;> rcases List.mem_append.mp hr with hr | hr
      · rw [if_neg (pne _ hq), if_neg (pne _ hr)] at e
        exact h.inj q hq r hr e
      · rw [if_neg (pne _ hq), if_pos (List.mem_singleton.mp hr)] at e
        exact absurd e (ladr q hq)
      · rw [if_pos (List.mem_singleton.mp hq), if_neg (pne _ hr)] at e
        exact absurd e.symm (ladr r hr)
      · rw [List.mem_singleton.mp hq, List.mem_singleton.mp hr]
    · rw [upd_same, putK_new pn, ← take_snoc hp]
      refine congrArg some ?_
      unfold dKs
      rw [List.map_append]
      refine congrArg HO.dK ?_
      refine congr (congrArg HAppend.hAppend ?_) ?_
      · exact List.map_congr_left fun q hq => by
          show _ = ((.inl q : Key), V.ref (if q = p then l else adr q))
          rw [if_neg (pne _ hq)]
      · show _ = [((.inl p : Key), V.ref (if p = p then l else adr p))]
        rw [if_pos rfl]
    · rw [← take_snoc hp] at hq
      rcases List.mem_append.mp hq with hq | hq
      · rw [if_neg (pne _ hq), upd_ne (fun e => ?_), upd_ne (ladr q hq)]
        · exact h.val q hq
        · have := h.val q hq
          rw [e, h.at_] at this
          cases this
      · rw [if_pos (List.mem_singleton.mp hq), upd_ne lD.symm, upd_same]
        rfl
  · rintro H' ⟨sm, adr, h⟩
    rw [List.length_map, List.take_length] at h
    exact hd D H' adr sm h
abbrev lexP (p q : Int × Int) : Bool := SrtO.lexB p q
/-- Bs: As in ascending order -/
def SrtA (As Bs : List (Int × Int)) : Prop := Bs.Perm As ∧ SrtO.Srtd lexP Bs
theorem swo_lexP : SrtO.Swo lexP := by
  refine ⟨fun x y h => ?_, fun x y z h1 h2 => ?_⟩
  · have := SrtO.lexB_iff.mp h
    exact SrtO.lexB_no.mpr (by omega)
  · have h1 := SrtO.lexB_no.mp h1
    have h2 := SrtO.lexB_no.mp h2
    exact SrtO.lexB_no.mpr (by omega)
theorem eqv_lexP {x y : Int × Int} : SrtO.eqv lexP x y = (y == x) := by
  rw [Bool.eq_iff_iff, SrtO.eqv_iff, beq_iff_eq]
  constructor
  · rintro ⟨h1, h2⟩
    have h1 := SrtO.lexB_no.mp h1
    have h2 := SrtO.lexB_no.mp h2
    exact Prod.ext (by omega) (by omega)
  · rintro rfl
    exact ⟨swo_lexP.refl _, swo_lexP.refl _⟩
theorem SrtA.uniq {As Bs Cs : List (Int × Int)} (h1 : SrtA As Bs) (h2 : SrtA As Cs) : Bs = Cs := by
  refine SrtO.stb_uniq swo_lexP h1.2 h2.2 ⟨h1.1.trans h2.1.symm, fun x => ?_⟩
  have e : SrtO.eqv lexP x = (· == x) := funext fun y => eqv_lexP
  rw [e, List.filter_beq, List.filter_beq, (h1.1.trans h2.1.symm).count_eq]
def upsOf (Bs : List (Int × Int)) (p : Int) : List Int := (Bs.filter fun b => b.2 == p).map (·.1)
def downsOf (Bs : List (Int × Int)) (p : Int) : List Int := (Bs.filter fun b => b.1 == p).map (·.2)
theorem upsOf_snoc {Bs : List (Int × Int)} {b : Int × Int} : upsOf (Bs ++ [b]) = fun p => if p = b.2 then upsOf Bs p ++ [b.1] else upsOf Bs p := by
  funext p
  unfold upsOf
  rw [List.filter_append, List.map_append]
  by_cases h : p = b.2
  · subst h
    rw [if_pos rfl]
    simp
  · rw [if_neg h]
    have : ¬ b.2 = p := fun e => h e.symm
    simp [this]
theorem downsOf_snoc {Bs : List (Int × Int)} {b : Int × Int} : downsOf (Bs ++ [b]) = fun p => if p = b.1 then downsOf Bs p ++ [b.2] else downsOf Bs p := by
  funext p
  unfold downsOf
  rw [List.filter_append, List.map_append]
  by_cases h : p = b.1
  · subst h
    rw [if_pos rfl]
    simp
  · rw [if_neg h]
    have : ¬ b.1 = p := fun e => h e.symm
    simp [this]
theorem DiN.app {H0 H : Hp} {D : Addr} {P : List Int} {adr : Int → Addr} {val : Int → List Int} (h : DiN H0 H D P adr val) {p x : Int} (hp : p ∈ P) :
    DiN H0 (upd H (adr p) (.lst ((val p).map V.int ++ [V.int x]))) D P adr (fun q => if q = p then val q ++ [x] else val q) := by
  have nD : D ≠ adr p := fun e => by
    have := h.val p hp
    rw [← e, h.at_] at this
    cases this
  refine ⟨h.nd, h.na, h.inj, by rw [upd_ne nD]; exact h.at_, fun q hq => ?_⟩
  by_cases e : q = p
  · subst e
    rw [upd_same, if_pos rfl, List.map_append]
    rfl
  · rw [upd_ne (fun z => e (h.inj q hq p hp z)), if_neg e]
    exact h.val q hq
theorem DiN.other {H0 H : Hp} {D : Addr} {P : List Int} {adr : Int → Addr} {val : Int → List Int} (h : DiN H0 H D P adr val) {b : Addr} {o : HO} (h1 : b ≠ D) (h2 : ∀ p ∈ P, b ≠ adr p) : DiN H0 (upd H b o) D P adr val :=
  ⟨h.nd, h.na, h.inj, by rw [upd_ne h1.symm]; exact h.at_, fun p hp => by rw [upd_ne (h2 p hp).symm]; exact h.val p hp⟩
theorem DiN.new {H0 H : Hp} {D : Addr} {P : List Int} {adr : Int → Addr} {val : Int → List Int} (h : DiN H0 H D P adr val) {b : Addr} {o : HO} (n : H b = none) : DiN H0 (upd H b o) D P adr val :=
  h.other (fun e => by rw [e, h.at_] at n; cases n) (fun p hp e => by rw [e, h.val p hp] at n; cases n)
theorem DiN.same {H0 H H' : Hp} {D : Addr} {P : List Int} {adr : Int → Addr} {val : Int → List Int} (h : DiN H0 H D P adr val) (s : Same H H') : DiN H0 H' D P adr val :=
  ⟨h.nd, h.na, h.inj, s _ _ h.at_, fun p hp => s _ _ (h.val p hp)⟩
theorem DiN.base {H0 H1 H : Hp} {D : Addr} {P : List Int} {adr : Int → Addr} {val : Int → List Int} (h : DiN H1 H D P adr val) (s : Same H0 H1) : DiN H0 H D P adr val :=
  ⟨s.free h.nd, fun p hp => s.free (h.na p hp), h.inj, h.at_, h.val⟩
/-- the pair at an address -/
def pairAt (H : Hp) : V → Int × Int
  | .ref t => match H t with
    | some (.tup [.int a, .int b]) => (a, b)
    | _ => (0, 0)
  | _ => (0, 0)
theorem pairAt_eq {H : Hp} {t : Addr} {p : Int × Int} (e : H t = some (.tup [.int p.1, .int p.2])) : pairAt H (.ref t) = p := by
  show (match H t with | some (.tup [.int a, .int b]) => (a, b) | _ => (0, 0)) = p
  rw [e]
theorem mapP_pd {S : Av} {H : Hp} : ∀ {xs : List V} {As : List (Int × Int)}, DaAll S H xs (As.map pd) → xs.map (pairAt H) = As
  | [], [], _ => rfl
  | x :: xs, p :: As, .cons h r => by
    obtain ⟨t, rfl, _, e⟩ := h.pd
    rw [List.map_cons, pairAt_eq e, mapP_pd r]
/-- what sorted gives of a list of pairs -/
theorem sorted_pd {S : Av} {H : Hp} {xs ys : List V} {As Bs : List (Int × Int)} (h : DaAll S H xs (As.map pd)) (hB : SrtA As Bs) (h1 : SrtO.Srtd (ltP (pairAt H)) ys) (h2 : SrtO.Stb (ltP (pairAt H)) ys xs) :
    ys.length = Bs.length ∧ ∀ (i : Nat) (y : V), ys[i]? = some y → ∃ b t, Bs[i]? = some b ∧ y = .ref t ∧ ¬ S t ∧ H t = some (.tup [.int b.1, .int b.2]) := by
  have e : ys.map (pairAt H) = Bs := by
    refine SrtA.uniq (As := As) ⟨?_, SrtO.srtd_map (f := pairAt H) (lt := lexP) h1⟩ hB
    rw [← mapP_pd h]
    exact h2.perm.map _
  refine ⟨by rw [← e, List.length_map], fun i y hy => ?_⟩
  have hm : y ∈ xs := h2.perm.mem_iff.mp (List.mem_of_getElem? hy)
  obtain ⟨j, hj⟩ := List.mem_iff_getElem?.mp hm
  obtain ⟨p, t, _, rfl, nt, et⟩ := h.pd hj
  have : (ys.map (pairAt H))[i]? = Bs[i]? := by rw [e]
  rw [List.getElem?_map, hy] at this
  refine ⟨p, t, ?_, rfl, nt, et⟩
  rw [← this, Option.map_some, pairAt_eq et]
theorem seq_asg {te : TE} {i : Nat} {u : TS} {D : Ends} {σ : L2.St} {H : Hp} (h : te σ H fun x H1 => u D (σ.set i (some x)) H1) : tSeq (tAsg te (gName i)) u D σ H := h
theorem DiN.get {H0 H : Hp} {D : Addr} {P : List Int} {adr : Int → Addr} {val : Int → List Int} (h : DiN H0 H D P adr val) {p : Int} (hp : p ∈ P) : DGet H D (.int p) (some (.ref (adr p))) :=
  .inl ⟨_, .inl p, .inl h.at_, rfl, (valV_dKs hp).symm⟩
theorem upsOf_len (Bs : List (Int × Int)) (p : Int) : (upsOf Bs p).length ≤ Bs.length := by
  unfold upsOf
  rw [List.length_map]
  exact List.length_filter_le _ _
theorem downsOf_len (Bs : List (Int × Int)) (p : Int) : (downsOf Bs p).length ≤ Bs.length := by
  unfold downsOf
  rw [List.length_map]
  exact List.length_filter_le _ _
/-- q is below p -/
inductive Und (val : Int → List Int) (p : Int) : Int → Prop
  | base {q : Int} : q ∈ val p → Und val p q
  | step {r q : Int} : Und val p r → q ∈ val r → Und val p q
theorem Und.closed {val : Int → List Int} {p : Int} {F : List Int} (h1 : ∀ q ∈ val p, q ∈ F) (h2 : ∀ r ∈ F, ∀ q ∈ val r, q ∈ F) {q : Int} (h : Und val p q) : q ∈ F := by
  induction h with
  | base h => exact h1 _ h
  | step _ hq ih => exact h2 _ ih _ hq
abbrev trueKs (F : List Int) : HO := .dK (F.map fun q => ((.inl q : Key), V.bl true))
theorem valV_true {F : List Int} {q : Int} : (valV (F.map fun q => ((.inl q : Key), V.bl true)) (.inl q)).isSome = decide (q ∈ F) := by
  unfold valV
  rw [List.find?_map, Option.isSome_map, Option.isSome_map, Bool.eq_iff_iff, List.find?_isSome]
  simp
theorem putK_true {F : List Int} {q : Int} (h : q ∉ F) : putK (F.map fun q => ((.inl q : Key), V.bl true)) (.inl q) (.bl true) = (F ++ [q]).map fun q => ((.inl q : Key), V.bl true) := by
  unfold putK
  rw [if_neg]
  · rw [List.map_append]
    rfl
  rw [List.any_map, List.any_eq_true]
  rintro ⟨r, hr, e⟩
  simp at e
  exact h (e ▸ hr)
theorem lt_of_le_nodup : ∀ {l : List Int}, l.Pairwise (· ≤ ·) → l.Nodup → l.Pairwise (· < ·)
  | [], _, _ => .nil
  | x :: l, h, n => by
    have h := List.pairwise_cons.mp h
    have n := List.nodup_cons.mp n
    refine List.pairwise_cons.mpr ⟨fun y hy => ?_, lt_of_le_nodup h.2 n.2⟩
    have := h.1 y hy
    have : x ≠ y := fun e => n.1 (e ▸ hy)
    omega
/-- the same, read only: also while a walk holds the dict -/
structure DiR (H : Hp) (D : Addr) (P : List Int) (adr : Int → Addr) (val : Int → List Int) : Prop where
  at_ : Rd H D (dKs P adr)
  val : ∀ p ∈ P, H (adr p) = some (.lst ((val p).map V.int))
theorem DiN.r {H0 H : Hp} {D : Addr} {P : List Int} {adr : Int → Addr} {val : Int → List Int} (h : DiN H0 H D P adr val) : DiR H D P adr val := ⟨.inl h.at_, h.val⟩
theorem Rd.same {H H' : Hp} {a : Addr} {u : HO} (h : Rd H a u) (s : Same H H') : Rd H' a u := by
  rcases h with h | ⟨o, h⟩
  · exact .inl (s _ _ h)
  · exact .inr ⟨o, s _ _ h⟩
theorem DiR.same {H H' : Hp} {D : Addr} {P : List Int} {adr : Int → Addr} {val : Int → List Int} (h : DiR H D P adr val) (s : Same H H') : DiR H' D P adr val := ⟨Lg.Rd.same h.at_ s, fun p hp => s _ _ (h.val p hp)⟩
theorem DiR.new {H : Hp} {D : Addr} {P : List Int} {adr : Int → Addr} {val : Int → List Int} (h : DiR H D P adr val) {b : Addr} {o : HO} (n : H b = none) : DiR (upd H b o) D P adr val := h.same (same_new (Same.refl H) n)
theorem DiR.get {H : Hp} {D : Addr} {P : List Int} {adr : Int → Addr} {val : Int → List Int} (h : DiR H D P adr val) {p : Int} (hp : p ∈ P) : DGet H D (.int p) (some (.ref (adr p))) :=
  .inl ⟨_, .inl p, h.at_, rfl, (valV_dKs hp).symm⟩
theorem DiR.lock {H : Hp} {D E : Addr} {P R : List Int} {adr adr2 : Int → Addr} {val : Int → List Int} (h : DiR H D P adr val) {od : Obj} (hE : H E = some (dKs R adr2)) : DiR (upd H E (.frz od (dKs R adr2))) D P adr val := by
  refine ⟨?_, fun p hp => ?_⟩
  · by_cases e : D = E
    · subst e
      rcases h.at_ with h | ⟨o, h⟩
      · rw [hE] at h
        exact .inr ⟨od, by rw [upd_same, Option.some.inj h]⟩
      · rw [hE] at h
        cases h
    · rcases h.at_ with h | ⟨o, h⟩
      · exact .inl (by rw [upd_ne e]; exact h)
      · exact .inr ⟨o, by rw [upd_ne e]; exact h⟩
  · rw [upd_ne (fun e => ?_)]
    · exact h.val p hp
    · have := h.val p hp
      rw [e, hE] at this
      cases this
/-- a comprehension that only makes new things, of a list's items that pass -/
theorem lc_fltL {α : Type} {J : It} {n : Nat} {G : Hp → Prop} {Y : Nat → Hp → V → Hp → Prop} (w : Walk J n G Y) {g : TG} {tt : TT} {te : TE} {vs : List Nat} {σ : L2.St} {H : Hp} {Q : VK} (zs : List α) (hz : zs.length = n) (p : α → Bool) (y : α → V) (hn : n < sizeLine)
    (hG : ∀ H', Same H H' → G H')
    (hs : ∀ (i : Nat) (z : α) (x : V) (H1 H2 : Hp) (N : Hp → Prop) (A : VK), zs[i]? = some z → Same H H1 → Y i H1 x H2 → (∀ H4, Same H1 H4 → p z = false → N H4) → (∀ H5, Same H1 H5 → p z = true → A (y z) H5) →
      g x (wipe σ vs) H2 fun σ2 H3 => wipe σ2 vs = wipe σ vs ∧ tt σ2 H3 fun b H4 => if b = true then te σ2 H4 A else N H4)
    (hd : ∀ D H', H D = none → Same H H' → H' D = some (.lst ((zs.filter p).map y)) → Q (.ref D) H') : tLc (fun _ H R => R J H) g tt te vs σ H Q := by
  intro D nD
  refine lc_it w (fun i H' => Same H H' ∧ H' D = some (.lst (((zs.take i).filter p).map y))) ⟨same_new (Same.refl H) nD, upd_same⟩ (fun i H' _ hp => hG H' hp.1) ?_ (fun H' hp => hd D H' nD hp.1 (by
    have := hp.2
    rw [← hz, List.take_length] at this
    exact this))
  rintro i x H1 H2 hi ⟨sm, eD⟩ hy
  obtain ⟨z, hzi⟩ : ∃ z, zs[i]? = some z := ⟨_, List.getElem?_eq_getElem (by omega)⟩
  refine hs i z x H1 H2 _ _ hzi sm hy (fun H4 h4 h3 => ⟨fun b o e => h4 _ _ (sm _ _ e), ?_⟩) (fun H5 h7 h3 => ⟨_, h7 _ _ eD, ?_, fun b o e => ?_, ?_⟩)
  · rw [← take_snoc hzi, List.filter_append, List.filter_cons_of_neg (by rw [h3]; decide), List.filter_nil, List.append_nil]
    exact h4 _ _ eD
  · rw [List.length_map]
    refine Nat.lt_of_le_of_lt (List.length_filter_le _ _) ?_
    rw [List.length_take]
    omega
  · rw [upd_ne (ne_of_none e nD)]
    exact h7 _ _ (sm _ _ e)
  · rw [upd_same, ← take_snoc hzi, List.filter_append, List.filter_cons_of_pos h3, List.filter_nil, List.map_append]
    rfl
/-- [place for place in d if ..] -/
theorem lc_dict {j ip : Nat} {D : Addr} {P : List Int} {adr : Int → Addr} {tt : TT} {vs : List Nat} {σ : L2.St} {H : Hp} {Q : VK} (hσ : σ[j]? = some (some (.ref D))) (hD : H D = some (dKs P adr)) (p : Int → Bool) (hn : P.length < sizeLine)
    (hw : ∀ v, wipe ((wipe σ vs).set ip (some v)) vs = wipe σ vs) (hv : ∀ v, ((wipe σ vs).set ip (some v))[ip]? = some (some v))
    (hs : ∀ x ∈ P, ∀ (od : Obj) (H1 : Hp) (k : Bool → Hp → Prop), Same (upd H D (.frz od (dKs P adr))) H1 → (∀ H4, Same H1 H4 → k (p x) H4) → tt ((wipe σ vs).set ip (some (.int x))) H1 k)
    (hd : ∀ R H', H R = none → Same H H' → H' R = some (.lst ((P.filter p).map V.int)) → Q (.ref R) H') : tLockE (tLc (iKeys (tVar j)) (gName ip) tt (tVar ip) vs) σ H Q := by
  refine ⟨D, _, hD, trivial, fun od => ⟨_, hσ, D, od, rfl, .inl ⟨_, upd_same, ?_⟩⟩⟩
  show tLc (fun _ H R => R (Itk D od (P.map fun p => ((.inl p : Key), V.ref (adr p)))) H) (gName ip) tt (tVar ip) vs σ (upd H D (.frz od (dKs P adr))) (fun v H' => H' D = some (.frz od (dKs P adr)) ∧ Q v (upd H' D (dKs P adr)))
  refine lc_fltL (walk_keys (d := D) (o := od) (kvs := P.map fun p => ((.inl p : Key), V.ref (adr p)))) P (by rw [List.length_map]) p V.int (by rw [List.length_map]; exact hn) (fun H' sm => sm _ _ upd_same) ?_ ?_
  · rintro i z x H1 H2 N A hz sm ⟨rfl, k, v, hk, rfl⟩ hN hA
    rw [List.getElem?_map, hz] at hk
    cases hk
    refine ⟨hw _, hs z (List.mem_of_getElem? hz) od _ _ sm fun H4 s4 => ?_⟩
    cases h : p z with
    | false => exact ite2 (fun e => absurd e (by decide)) fun _ => hN _ s4 h
    | true => exact ite2 (fun _ => ⟨_, hv _, hA _ s4 h⟩) fun e => absurd rfl e
  · intro R H' nR sm e
    have nRD : R ≠ D := fun z => by rw [z, upd_same] at nR; cases nR
    refine ⟨sm _ _ upd_same, hd R _ (by rw [upd_ne nRD] at nR; exact nR) (fun b o eb => ?_) (by rw [upd_ne nRD]; exact e)⟩
    by_cases hb : b = D
    · subst hb
      rw [hD] at eb
      rw [upd_same]
      exact eb
    · rw [upd_ne hb]
      exact sm _ _ (by rw [upd_ne hb]; exact eb)
theorem lock_asg {te : TE} {i : Nat} {u : TS} {D : Ends} {σ : L2.St} {H : Hp} (h : tLockE te σ H fun x H1 => u D (σ.set i (some x)) H1) : tSeq (tLock (tAsg te (gName i))) u D σ H := h
theorem cutV_drop (xs : List V) (i : Nat) (h : i ≤ xs.length) : cutV xs (some (i : Int)) none = xs.drop i := by
  unfold cutV
  rw [HT.sIx_none, HT.sIx_nat, Nat.min_eq_left h, List.take_of_length_le]
  rw [List.length_drop]
  exact Nat.le_refl _
theorem dec_two (n : Nat) : decide (V.int (n : Int) = V.int 2) = (n == 2) := by
  rw [Bool.eq_iff_iff, decide_eq_true_eq, beq_iff_eq, V.int.injEq]
  omega
/-! ### what the head leaves: tuples of tuples of ints -/
theorem intsB_ok {H : Hp} {S : Av} : ∀ {us : List Value} {ns : List Int}, intsB us ns = true → Vals (ns.map V.int) us ∧ us.length = ns.length
  | [], [], _ => ⟨.nil, rfl⟩
  | .int i t :: us, n :: ns, h => by
    obtain ⟨h1, h2⟩ := Bool.and_eq_true_iff.mp (show (decide (i = n) && intsB us ns) = true from h)
    obtain ⟨h3, h4⟩ := intsB_ok (H := H) (S := S) h2
    rw [of_decide_eq_true h1]
    exact ⟨.cons ⟨t, rfl⟩ h3, congrArg (· + 1) h4⟩
theorem tupleB_ok {K : PySem.W.Frag} {v : Value} {p : List Value → Bool} (h : tupleB K v p = true) : ∃ (a : Addr) (o : Obj) (its : Array Value) (n : Nat), v = .ref a ∧ K.lookup a = some o ∧ o.cls = .type "tuple" ∧ o.data = .seq its n ∧ p its.toList = true := by
  cases v with
  | ref a =>
    cases e : K.lookup a with
    | none =>
      have h : (match K.lookup a with | some o => (match o.cls with | .type c => decide (c = "tuple") | _ => false) && (match o.data with | .seq its _ => p its.toList | _ => false) | none => false) = true := h
      rw [e] at h
      cases h
    | some o =>
      have h : (match K.lookup a with | some o => (match o.cls with | .type c => decide (c = "tuple") | _ => false) && (match o.data with | .seq its _ => p its.toList | _ => false) | none => false) = true := h
      rw [e] at h
      obtain ⟨h1, h2⟩ := Bool.and_eq_true_iff.mp h
      obtain ⟨oc, od, dt, sl⟩ := o
      cases oc with
      | type c =>
        cases dt with
        | seq its n => exact ⟨a, _, its, n, rfl, e, congrArg Value.type (of_decide_eq_true h1), rfl, h2⟩
        | _ => cases h2
      | _ => cases h1
  | _ => cases h
abbrev tupD (nss : List (List Int)) : PyData := .tuple (nss.map fun ns => .tuple (ns.map PyData.int))
/-- at a stands a tuple of tuples of ints of the head -/
def TupD (K : PySem.W.Frag) (a : Addr) (nss : List (List Int)) : Prop := ∀ H : Hp, Dp K H (.ref a) (tupD nss)
theorem dp_ints {K : PySem.W.Frag} {H : Hp} : ∀ {ns : List Int}, DpAll K H (ns.map V.int) (ns.map PyData.int)
  | [] => .nil
  | n :: _ => .cons (.int n) dp_ints
theorem tupsB_ok {K : PySem.W.Frag} {H : Hp} : ∀ {us : List Value} {nss : List (List Int)}, (∀ ns ∈ nss, ns.length ≤ 1000) → tupsB K us nss = true → us.length = nss.length ∧ ∃ vs, Vals vs us ∧ DpAll K H vs (nss.map fun ns => .tuple (ns.map PyData.int))
  | [], [], _, _ => ⟨rfl, [], .nil, .nil⟩
  | [], _ :: _, _, h => by cases h
  | _ :: _, [], _, h => by cases h
  | u :: us, ns :: nss, hl, h => by
    obtain ⟨h1, h2⟩ := Bool.and_eq_true_iff.mp (show (tupleB K u (fun l => intsB l ns) && tupsB K us nss) = true from h)
    obtain ⟨e1, vs, r, d⟩ := tupsB_ok (H := H) (fun m hm => hl m (List.mem_cons_of_mem _ hm)) h2
    obtain ⟨a, o, its, n, rfl, ho, hc, hd, hi⟩ := tupleB_ok h1
    obtain ⟨hv, hn⟩ := intsB_ok (H := H) (S := fun _ => False) hi
    refine ⟨congrArg (· + 1) e1, .ref a :: vs, .cons rfl r, .cons (.tup (.inr ⟨o, its, n, ho, hc, hd, ?_, hv⟩) dp_ints) d⟩
    rw [← Array.length_toList, hn]
    exact Nat.le_trans (hl ns List.mem_cons_self) (by decide)
theorem tup2B_ok {K : PySem.W.Frag} {a : Addr} {nss : List (List Int)} (hl : (nss.all fun ns => decide (ns.length ≤ 1000)) = true) (hl2 : nss.length ≤ 1000) (h : tup2B K a nss = true) : TupD K a nss := fun H => by
  obtain ⟨b, o, its, n, e, ho, hc, hd, hi⟩ := tupleB_ok h
  cases e
  obtain ⟨e1, vs, r, d⟩ := tupsB_ok (H := H) (fun ns hns => of_decide_eq_true (List.all_eq_true.mp hl ns hns)) hi
  refine .tup (.inr ⟨o, its, n, ho, hc, hd, ?_, r⟩) d
  rw [← Array.length_toList, e1]
  exact Nat.le_trans hl2 (by decide)
theorem shaped_tupD (nss : List (List Int)) : SeqAt.shaped (tupD nss) = true := by
  refine Bool.and_eq_true_iff.mpr ⟨lay_map _ fun ns _ => lay_map _ fun n _ => rfl, decide_eq_true ?_⟩
  exact Nat.le_trans (Nat.succ_le_succ (depth_map _ 1 fun ns _ => Nat.succ_le_succ (depth_map _ 0 fun _ _ => Nat.le_refl _))) (by decide)
def rNotInT (K : PySem.W.Frag) : R2 := fun x y H Q => ∃ d ds, Dp K H x d ∧ Dp K H y (.tuple ds) ∧ SeqAt.shaped d = true ∧ SeqAt.shaped (.tuple ds) = true ∧ Q (.bl (!ds.any fun z => PyData.eqv z d)) H
theorem op_notInDTK {X : Cx} (K : PySem.W.Frag) (hK : X.K = K) (hu : X.A.units + 65 < cLine) : OpR X (compareOp .NotIn) (rNotInT K) := hK ▸ op_notInDT hu
def badDeg (up dn : Int → List Int) (p : Int) : Bool := !([(0, 0), (0, 2), (1, 2), (2, 1), (1, 0)] : List (Nat × Nat)).contains ((up p).length, (dn p).length)
theorem any_deg (a b : Nat) : ((([[0, 0], [0, 2], [1, 2], [2, 1], [1, 0]] : List (List Int)).map fun ns => PyData.tuple (ns.map PyData.int)).any fun z => PyData.eqv z (.tuple [.int (a : Int), .int (b : Int)])) = ([(0, 0), (0, 2), (1, 2), (2, 1), (1, 0)] : List (Nat × Nat)).contains (a, b) := by
  have key : ∀ (i j : Nat), PyData.eqv (.tuple [.int (i : Int), .int (j : Int)]) (.tuple [.int (a : Int), .int (b : Int)]) = ((a, b) == (i, j)) := fun i j => by
    show PyData.eqvAll [.int (i : Int), .int (j : Int)] [.int (a : Int), .int (b : Int)] = _
    rw [Bool.eq_iff_iff]
    simp [PyData.eqvAll, PyData.eqv]
    omega
  show (PyData.eqv (.tuple [.int ((0 : Nat) : Int), .int ((0 : Nat) : Int)]) _ || (PyData.eqv (.tuple [.int ((0 : Nat) : Int), .int ((2 : Nat) : Int)]) _ || (PyData.eqv (.tuple [.int ((1 : Nat) : Int), .int ((2 : Nat) : Int)]) _ || (PyData.eqv (.tuple [.int ((2 : Nat) : Int), .int ((1 : Nat) : Int)]) _ || (PyData.eqv (.tuple [.int ((1 : Nat) : Int), .int ((0 : Nat) : Int)]) _ || false))))) = _
  rw [key, key, key, key, key]
  simp only [List.contains_cons, List.contains_nil]
/-- a call of a local that holds a def, whichever -/
def tCallH (P : Program) (w : World) (K : PySem.W.Frag) (mg : Str → Option Value) (base : Heap) (k i : Nat) (t : TA) : TE := fun σ H Q => ∃ f sp, σ[i]? = some (some (.ref f)) ∧ Held P w K mg base k f sp ∧ t σ H fun vs H1 => sp vs H1 Q (fun _ _ _ => False)
theorem pe_callH {X : Cx} {k i : Nat} {x : Str} {p pos : Pos} {e : Expr} {es : List Expr} {t : TA} (hr : Room k X.A) (hN : X.N[i]? = some x) (hv : Vis X.env.scope x) (ha : PA X (e :: es) t)
    (hdb : (x == ("__debug__" : Str)) = false := by decide) (hcd : (x == ("__classdict__" : Str)) = false := by decide)
    (he : starEach (e :: es) X.env = (false, eval e X.env) :: starEach es X.env := by rfl) (hpl : (backTo pos (starEach es X.env)).any (·.1) = false := by rfl) : PE X (.Call (.Name x p) (e :: es) [] pos) (tCallH X.prog X.w X.K X.mg X.base k i t) := by
  refine ⟨fun pins s σ H Q I ⟨f, sp, hs, A, ht⟩ => ?_⟩
  obtain ⟨fd, ps, F, hk, hb⟩ := A.ex
  refine (pe_callL (i := i) (f := f) (sp := sp) (dvs := []) (E := fun _ _ _ => False) F hr hN hv hk hb .nil (fun _ _ _ _ _ _ _ z => z.elim) ha hdb hcd he hpl).run pins s σ H Q I ⟨hs, ?_⟩
  have e0 : (fun (vs : List V) (H1 : Hp) => sp (vs ++ []) H1 Q (fun _ _ _ => False)) = fun vs H1 => sp vs H1 Q (fun _ _ _ => False) := funext fun vs => funext fun H1 => by rw [List.append_nil]
  rw [e0]
  exact ht
theorem Own.held {P : Program} {w : World} {K : PySem.W.Frag} {mg : Str → Option Value} {base : Heap} {k : Nat} {x : Str} {ps : List Str} {sp : Sp} (O : Own P w K mg base k x ps sp) {a : Addr} (e : mg x = some (.ref a)) : Held P w K mg base k a sp := by
  obtain ⟨f, fd, F, gm, kp, hb, _⟩ := O.ex
  cases gm.symm.trans e
  exact ⟨fd, ps, F, kp, hb⟩
/-- typed from data -/
def asF : PyData → Int × Int
  | .tuple [.int a, .int b] => (a, b)
  | _ => (0, 0)
def lsF : PyData → Int × Str
  | .tuple [.int a, .str b] => (a, b)
  | _ => (0, "")
def asOf (ds : List PyData) : List (Int × Int) := ds.map asF
def lsOf (ds : List PyData) : List (Int × Str) := ds.map lsF
theorem placeD_int {d : PyData} (h : placeD d = true) : ∃ i, d = .int i := by
  cases d <;> first | exact ⟨_, rfl⟩ | (exfalso; exact Bool.false_ne_true h)
theorem isStrD_str {d : PyData} (h : isStrD d = true) : ∃ i, d = .str i := by
  cases d <;> first | exact ⟨_, rfl⟩ | (exfalso; exact Bool.false_ne_true h)
theorem asF_eq {d : PyData} (h1 : pairD d = true) : pd (asF d) = d := by
  unfold pairD at h1
  split at h1
  · rename_i a b
    obtain ⟨ha, hb⟩ := Bool.and_eq_true_iff.mp h1
    obtain ⟨i, rfl⟩ := placeD_int ha
    obtain ⟨j, rfl⟩ := placeD_int hb
    rfl
  · cases h1
theorem lsF_eq {d : PyData} (h1 : labD d = true) : ld (lsF d) = d := by
  unfold labD at h1
  split at h1
  · rename_i a b
    obtain ⟨ha, hb⟩ := Bool.and_eq_true_iff.mp h1
    obtain ⟨i, rfl⟩ := placeD_int ha
    obtain ⟨j, rfl⟩ := isStrD_str hb
    rfl
  · cases h1
theorem asOf_eq : ∀ {ds : List PyData}, (∀ d ∈ ds, pairD d = true) → (asOf ds).map pd = ds
  | [], _ => rfl
  | d :: ds, h => by
    show pd (asF d) :: (asOf ds).map pd = _
    rw [asOf_eq fun x hx => h x (List.mem_cons_of_mem _ hx), asF_eq (h d List.mem_cons_self)]
theorem lsOf_eq : ∀ {ds : List PyData}, (∀ d ∈ ds, labD d = true) → (lsOf ds).map ld = ds
  | [], _ => rfl
  | d :: ds, h => by
    show ld (lsF d) :: (lsOf ds).map ld = _
    rw [lsOf_eq fun x hx => h x (List.mem_cons_of_mem _ hx), lsF_eq (h d List.mem_cons_self)]
theorem atB_nil {α : Type} {p : α → Bool} {l : List α} (h : atB p l = []) : ∀ d ∈ l, p d = false := fun d hd => by
  obtain ⟨i, hi⟩ := List.mem_iff_getElem?.mp hd
  have := List.filter_eq_nil_iff.mp h i (List.mem_range.mpr (List.getElem?_eq_some_iff.mp hi).1)
  rw [hi] at this
  exact Bool.eq_false_iff.mpr this
/-- the faults of the items: each word with all that is at fault -/
def lfinds (ds es : List PyData) : List (Str × List Nat) :=
  [("long", (List.range 2).filter fun i => if i = 0 then decide (46 < ds.length) else decide (12 < es.length)), ("arrow", atB (fun d => !pairD d) ds), ("leaf", atB (fun d => !labD d) es), ("name", atB (fun p => !nameL p.2.cps.toList) (lsOf es)),
   ("again", (List.range (lsOf es).length).filter fun i => ((lsOf es)[i]?).any fun p => decide (p.1 ∈ ((lsOf es).map (·.1)).take i) || decide (p.2 ∈ ((lsOf es).map (·.2)).take i)),
   ("double", (List.range (asOf ds).length).filter fun i => ((asOf ds)[i]?).any fun p => decide (p ∈ (asOf ds).take i)), ("none", if es = [] then [0] else [])]
def firstF {α : Type} (l : List (Str × List α)) : Option (Str × α) := l.findSome? fun kv => kv.2.head?.map fun i => (kv.1, i)
theorem firstF_at {α β : Type} {f : α → Option β} : ∀ {l : List α} {i : Nat} {x : α} {y : β}, l[i]? = some x → f x = some y → (∀ j, j < i → ∀ z, l[j]? = some z → f z = none) → l.findSome? f = some y
  | [], i, x, y, h, _, _ => by cases h
  | a :: l, 0, x, y, h, hf, _ => by
    cases h
    rw [List.findSome?_cons, hf]
  | a :: l, i + 1, x, y, h, hf, hp => by
    rw [List.findSome?_cons, hp 0 (Nat.succ_pos _) a rfl]
    exact firstF_at (i := i) h hf fun j hj z hz => hp (j + 1) (Nat.succ_lt_succ hj) z hz
theorem firstF_some {α : Type} {l : List (Str × List α)} {i : Nat} {wd : Str} {a : α} {r : List α} (h : l[i]? = some (wd, a :: r)) (hp : ∀ j, j < i → ∀ z, l[j]? = some z → z.2 = []) : firstF l = some (wd, a) :=
  firstF_at h rfl fun j hj z hz => by rw [hp j hj z hz]; rfl
theorem firstF_none {α : Type} {l : List (Str × List α)} (hp : ∀ j, j < l.length → ∀ z, l[j]? = some z → z.2 = []) : firstF l = none := by
  unfold firstF
  rw [List.findSome?_eq_none_iff]
  intro z hz
  obtain ⟨j, hj⟩ := List.mem_iff_getElem?.mp hz
  rw [hp j (List.getElem?_eq_some_iff.mp hj).1 z hj]
  rfl
/-- the faults of the places -/
def pfinds (P : List Int) (up dn : Int → List Int) (ring : Int → Bool) (Lb : List Int) : List (Str × List Int) :=
  [("degree", P.filter (badDeg up dn)), ("roots", if (P.filter fun p => (up p).isEmpty) = [] then P else (P.filter fun p => (up p).isEmpty).drop 1), ("ring", P.filter ring), ("label", P.filter fun p => (dn p).isEmpty != decide (p ∈ Lb)),
   ("mixings", if 8 < (P.filter fun p => (up p).length == 2).length then [((P.filter fun p => (up p).length == 2).length : Int)] else [])]
theorem downsOf_mem {As Bs : List (Int × Int)} {P l : List Int} (hB : SrtA As Bs) (hP : Asc P (endsOf As ++ l)) {p q : Int} (h : q ∈ downsOf Bs p) : q ∈ P := by
  obtain ⟨b, hb, rfl⟩ := List.mem_map.mp h
  have hb := hB.1.mem_iff.mp (List.mem_filter.mp hb).1
  exact (hP.2 _).mpr (List.mem_append_left _ (List.mem_flatMap.mpr ⟨b, hb, by simp⟩))
/-- all but what stands at o -/
def But (o : Addr) (H H' : Hp) : Prop := ∀ b u, b ≠ o → H b = some u → H' b = some u
theorem But.free {o : Addr} {H H' : Hp} (h : But o H H') {b : Addr} (hb : b ≠ o) (n : H' b = none) : H b = none := by
  cases e : H b with
  | none => rfl
  | some u => rw [h b u hb e] at n; cases n
/-- Ms: Ls in order of the places -/
def SrtL (Ls Ms : List (Int × Str)) : Prop := Ms.Perm Ls ∧ SrtO.Srtd lexPS Ms
theorem seq_fld {K : PySem.W.Frag} {ta tv : TE} {f : Str} {u : TS} {D : Ends} {σ : L2.St} {H : Hp} (h : tv σ H fun y H1 => ta σ H1 fun x H2 => ∃ a C dx fs, x = .ref a ∧ H2 a = some (.ins C dx fs) ∧ Cls K C ∧ NoAttr K C f ∧ fs.length < 1000 ∧ u D σ (upd H2 a (.ins C dx (putF f y fs)))) :
    tSeq (sFld K ta tv f) u D σ H := h
theorem putK_fresh {kvs : List (Key × V)} {k : Key} {v : V} (h : k ∉ kvs.map (·.1)) : putK kvs k v = kvs ++ [(k, v)] := by
  unfold putK
  rw [if_neg]
  rw [List.any_eq_true]
  rintro ⟨kv, hkv, e⟩
  exact h (List.mem_map.mpr ⟨kv, hkv, of_decide_eq_true e⟩)
/-- a dict comprehension that only makes new things, its keys unlike -/
theorem dc_map {J : It} {n : Nat} {G : Hp → Prop} {Y : Nat → Hp → V → Hp → Prop} (w : Walk J n G Y) {g : TG} {tt : TT} {tk tv : TE} {vs : List Nat} {σ : L2.St} {H : Hp} {Q : VK} (zs : List (Key × V)) (hz : zs.length = n) (hnd : (zs.map (·.1)).Nodup) (hn : n < sizeLine)
    (hG : ∀ H', Same H H' → G H')
    (hs : ∀ (i : Nat) (x : V) (H1 H2 : Hp) (N : Hp → Prop) (B : V → V → Hp → Prop) (z : Key × V), zs[i]? = some z → Same H H1 → Y i H1 x H2 → (∀ H5, Same H1 H5 → B (kV z.1) z.2 H5) →
      g x (wipe σ vs) H2 fun σ2 H3 => wipe σ2 vs = wipe σ vs ∧ tt σ2 H3 fun b H4 => if b = true then tk σ2 H4 fun y H5 => tv σ2 H5 fun v H6 => B y v H6 else N H4)
    (hd : ∀ D H', H D = none → Same H H' → H' D = some (.dK zs) → Q (.ref D) H') : tDc (fun _ H R => R J H) g tt tk tv vs σ H Q := by
  intro D nD
  refine loop_it w (fun i H' => Same H H' ∧ H' D = some (.dK (zs.take i))) ⟨same_new (Same.refl H) nD, upd_same⟩ (fun i H' _ hp => hG H' hp.1)
    (Step := fun Nx x H' => g x (wipe σ vs) H' fun σ2 H2 => wipe σ2 vs = wipe σ vs ∧ tt σ2 H2 fun b H3 =>
      if b = true then tk σ2 H3 fun y H4 => tv σ2 H4 fun z H5 => ∃ kvs k, y = kV k ∧ H5 D = some (.dK kvs) ∧ kvs.length < sizeLine ∧ Nx (upd H5 D (.dK (putK kvs k z))) else Nx H3) ?_ ?_
  · rintro i x H1 H2 hi ⟨sm, eD⟩ hy
    obtain ⟨z, hzi⟩ : ∃ z, zs[i]? = some z := ⟨_, List.getElem?_eq_getElem (by omega)⟩
    refine hs i x H1 H2 _ _ z hzi sm hy fun H5 s5 => ⟨_, z.1, rfl, s5 _ _ eD, ?_, fun b o e => ?_, ?_⟩
    · rw [List.length_take]
      omega
    · rw [upd_ne (ne_of_none e nD)]
      exact s5 _ _ (sm _ _ e)
    · rw [upd_same, putK_fresh, ← take_snoc hzi]
      intro hm
      obtain ⟨y, hy, e⟩ := List.mem_map.mp hm
      obtain ⟨j, hj⟩ := List.mem_iff_getElem?.mp hy
      have hji : j < i := by
        have := (List.getElem?_eq_some_iff.mp hj).1
        rw [List.length_take] at this
        omega
      rw [List.getElem?_take_of_lt hji] at hj
      have h1 : (zs.map (·.1))[j]? = some z.1 := by rw [List.getElem?_map, hj, ← e]; rfl
      have h2 : (zs.map (·.1))[i]? = some z.1 := by rw [List.getElem?_map, hzi]; rfl
      have g1 := List.getElem?_eq_some_iff.mp h1
      have g2 := List.getElem?_eq_some_iff.mp h2
      exact absurd ((List.getElem_inj hnd).mp (g1.2.trans g2.2.symm)) (Nat.ne_of_lt hji)
  · rintro H' ⟨sm, eD⟩
    rw [← hz, List.take_length] at eD
    exact hd D H' nD sm eD
/-- {a: b for a, b in leaves}, {b: a for a, b in leaves} -/
theorem dc_leaves {K : PySem.W.Frag} {S : Av} {j ia ib : Nat} {a : Addr} {xs : List V} {Ls : List (Int × Str)} {tk tv : TE} {vs : List Nat} {σ : L2.St} {H : Hp} {Q : VK} (hσ : σ[j]? = some (some (.ref a))) (ea : H a = some (.lst xs)) (hA : DaAll S H xs (Ls.map ld)) (f : Int × Str → Key × V) (hnd : (Ls.map fun p => (f p).1).Nodup) (hn : Ls.length < sizeLine)
    (hw : ∀ u v, wipe (((wipe σ vs).set ia (some u)).set ib (some v)) vs = wipe σ vs)
    (hs : ∀ (p : Int × Str) (H1 : Hp) (B : V → V → Hp → Prop), B (kV (f p).1) (f p).2 H1 → tk (((wipe σ vs).set ia (some (.int p.1))).set ib (some (.str p.2))) H1 fun y H5 => tv (((wipe σ vs).set ia (some (.int p.1))).set ib (some (.str p.2))) H5 fun v H6 => B y v H6)
    (hd : ∀ D H', H D = none → Same H H' → H' D = some (.dK (Ls.map f)) → Q (.ref D) H') : tDc (iList K (tVar j)) (gTup K 2 (gCons (gName ia) (gCons (gName ib) gNil))) tYes tk tv vs σ H Q := by
  have hx : xs.length = Ls.length := by rw [hA.length, List.length_map]
  refine ⟨_, hσ, a, rfl, ⟨_, .of ea⟩, ?_⟩
  show tDc (fun _ H R => R (Itl K a) H) (gTup K 2 (gCons (gName ia) (gCons (gName ib) gNil))) tYes tk tv vs σ H Q
  refine dc_map (walk_list (K := K) (a := a) (xs := xs)) (Ls.map f) (by rw [List.length_map, hx]) (by rw [List.map_map]; exact hnd) (by rw [hx]; exact hn) (fun H' sm => .of (sm _ _ ea)) ?_ hd
  rintro i x H1 H2 N B z hz sm ⟨rfl, hxi⟩ hB
  obtain ⟨p, t, ed, rfl, nt, et⟩ := hA.ldS sm hxi
  rw [List.getElem?_map, ed] at hz
  cases hz
  refine ⟨t, _, rfl, .of et, rfl, _, _, rfl, _, _, rfl, rfl, hw _ _, ?_⟩
  exact hs p _ B (hB _ (Same.refl _))
def isAt (H : Hp) : V → IS
  | .ref t => match H t with
    | some (.tup [.int a, .str b]) => (a, b)
    | _ => (0, "")
  | _ => (0, "")
theorem isAt_eq {H : Hp} {t : Addr} {p : Int × Str} (e : H t = some (.tup [.int p.1, .str p.2])) : isAt H (.ref t) = p := by
  show (match H t with | some (.tup [.int a, .str b]) => (a, b) | _ => (0, "")) = p
  rw [e]
theorem mapP_ld {S : Av} {H : Hp} : ∀ {xs : List V} {As : List (Int × Str)}, DaAll S H xs (As.map ld) → xs.map (isAt H) = As
  | [], [], _ => rfl
  | x :: xs, p :: As, .cons h r => by
    obtain ⟨t, rfl, _, e⟩ := h.ld
    rw [List.map_cons, isAt_eq e, mapP_ld r]
theorem da_ofpd {S : Av} {H : Hp} {t : Addr} {p : Int × Int} (n : ¬ S t) (e : H t = some (.tup [.int p.1, .int p.2])) : Da S H (.ref t) (pd p) := .tup n e (.cons (.int _) (.cons (.int _) .nil))
theorem da_ofld {S : Av} {H : Hp} {t : Addr} {p : Int × Str} (n : ¬ S t) (e : H t = some (.tup [.int p.1, .str p.2])) : Da S H (.ref t) (ld p) := .tup n e (.cons (.int _) (.cons (.str _) .nil))
theorem daAll_of {S : Av} {H : Hp} {α : Type} (k : V → α) (d : α → PyData) : ∀ {ys : List V}, (∀ y ∈ ys, Da S H y (d (k y))) → DaAll S H ys ((ys.map k).map d)
  | [], _ => .nil
  | y :: ys, h => .cons (h y List.mem_cons_self) (daAll_of k d fun z hz => h z (List.mem_cons_of_mem _ hz))
theorem sorted_pdA {S : Av} {H : Hp} {xs ys : List V} {As Bs : List (Int × Int)} (h : DaAll S H xs (As.map pd)) (hB : SrtA As Bs) (h1 : SrtO.Srtd (ltP (pairAt H)) ys) (h2 : SrtO.Stb (ltP (pairAt H)) ys xs) : DaAll S H ys (Bs.map pd) := by
  have e : ys.map (pairAt H) = Bs := by
    refine SrtA.uniq (As := As) ⟨?_, SrtO.srtd_map (f := pairAt H) (lt := lexP) h1⟩ hB
    rw [← mapP_pd h]
    exact h2.perm.map _
  rw [← e]
  refine daAll_of (pairAt H) pd fun y hy => ?_
  obtain ⟨j, hj⟩ := List.mem_iff_getElem?.mp (h2.perm.mem_iff.mp hy)
  obtain ⟨p, t, _, rfl, nt, et⟩ := h.pd hj
  rw [pairAt_eq et]
  exact da_ofpd nt et
theorem sorted_ldA {S : Av} {H : Hp} {xs ys : List V} {Ls : List (Int × Str)} (h : DaAll S H xs (Ls.map ld)) (h1 : SrtO.Srtd (ltPS (isAt H)) ys) (h2 : SrtO.Stb (ltPS (isAt H)) ys xs) : ∃ Ms, SrtL Ls Ms ∧ DaAll S H ys (Ms.map ld) := by
  refine ⟨ys.map (isAt H), ⟨?_, SrtO.srtd_map (f := isAt H) (lt := lexPS) h1⟩, daAll_of (isAt H) ld fun y hy => ?_⟩
  · rw [← mapP_ld h]
    exact h2.perm.map _
  · obtain ⟨j, hj⟩ := List.mem_iff_getElem?.mp (h2.perm.mem_iff.mp hy)
    obtain ⟨p, t, _, rfl, nt, et⟩ := h.ld hj
    rw [isAt_eq et]
    exact da_ofld nt et
/-- at o a Net, apart from S -/
structure NetAt (S : Av) (K : PySem.W.Frag) (H : Hp) (o : Addr) (Bs : List (Int × Int)) (Ls Ms : List (Int × Str)) (P : List Int) (root : Int) : Prop where
  srt : SrtL Ls Ms
  ex : ∃ (dx A L M C NA PA NM : Addr) (am ac : Int → Addr) (ys zs : List V) (ns : List Str),
    H o = some (.ins (He.ga K "Net") dx [("_arrows", .ref A), ("_leaves", .ref L), ("_mothers", .ref M), ("_children", .ref C), ("_name_at", .ref NA), ("_place_at", .ref PA), ("_names", .ref NM), ("_root", .int root)]) ∧
    (H A = some (.lst ys) ∧ DaAll S H ys (Bs.map pd)) ∧ (H L = some (.lst zs) ∧ DaAll S H zs (Ms.map ld)) ∧
    (H M = some (dKs P am) ∧ DiR H M P am (upsOf Bs)) ∧ (H C = some (dKs P ac) ∧ DiR H C P ac (downsOf Bs)) ∧
    H NA = some (.dK (Ls.map fun p => ((.inl p.1 : Key), V.str p.2))) ∧ H PA = some (.dK (Ls.map fun p => ((.inr p.2 : Key), V.int p.1))) ∧
    (H NM = some (.lst (ns.map V.str)) ∧ ns.Perm (Ls.map (·.2)) ∧ sortedS ns = true) ∧
    (∀ b ∈ [o, A, L, M, C, NA, PA, NM], ¬ S b) ∧ ∀ p ∈ P, ¬ S (am p) ∧ ¬ S (ac p)
/-- all that is no instance is kept -/
def Kp (H H' : Hp) : Prop := ∀ b u, (∀ C d f, u ≠ .ins C d f) → H b = some u → H' b = some u
theorem Kp.trans {H1 H2 H3 : Hp} (h : Kp H1 H2) (k : Kp H2 H3) : Kp H1 H3 := fun b u n e => k b u n (h b u n e)
theorem Kp.lst {H H' : Hp} (h : Kp H H') {b : Addr} {xs : List V} (e : H b = some (.lst xs)) : H' b = some (.lst xs) := h b _ (fun _ _ _ z => nomatch z) e
theorem Kp.tup {H H' : Hp} (h : Kp H H') {b : Addr} {xs : List V} (e : H b = some (.tup xs)) : H' b = some (.tup xs) := h b _ (fun _ _ _ z => nomatch z) e
theorem Kp.dK {H H' : Hp} (h : Kp H H') {b : Addr} {xs : List (Key × V)} (e : H b = some (.dK xs)) : H' b = some (.dK xs) := h b _ (fun _ _ _ z => nomatch z) e
mutual
theorem Da.kp {S : Av} {H H' : Hp} (k : Kp H H') : ∀ {v : V} {d : PyData}, Da S H v d → Da S H' v d
  | _, _, .non => .non
  | _, _, .bl b => .bl b
  | _, _, .int i => .int i
  | _, _, .str x => .str x
  | _, _, .lst n e r => .lst n (Kp.lst k e) (DaAll.kp k r)
  | _, _, .tup n e r => .tup n (Kp.tup k e) (DaAll.kp k r)
theorem DaAll.kp {S : Av} {H H' : Hp} (k : Kp H H') : ∀ {vs : List V} {ds : List PyData}, DaAll S H vs ds → DaAll S H' vs ds
  | _, _, .nil => .nil
  | _, _, .cons a r => .cons (Da.kp k a) (DaAll.kp k r)
end
theorem DiR.kp {H H' : Hp} {D : Addr} {P : List Int} {adr : Int → Addr} {val : Int → List Int} (h : DiR H D P adr val) (hD : H D = some (dKs P adr)) (k : Kp H H') : DiR H' D P adr val := ⟨.inl (k.dK hD), fun p hp => k.lst (h.val p hp)⟩
theorem stage {H0 H : Hp} {o p C dx : Addr} {fs : List (Str × V)} (fs' : List (Str × V)) (u : HO) (kb : But o H0 H) (eo : H o = some (.ins C dx fs)) (np : H p = none) :
    But o H0 (upd (upd H p u) o (.ins C dx fs')) ∧ Kp H (upd (upd H p u) o (.ins C dx fs')) ∧ upd (upd H p u) o (.ins C dx fs') o = some (.ins C dx fs') ∧ upd (upd H p u) o (.ins C dx fs') p = some u ∧ p ≠ o := by
  have po : p ≠ o := fun e => by rw [e, eo] at np; cases np
  refine ⟨fun b w hb e => ?_, fun b w hw e => ?_, upd_same, by rw [upd_ne po, upd_same], po⟩
  · have e1 := kb b w hb e
    rw [upd_ne hb, upd_ne (fun z => by rw [z, np] at e1; cases e1)]
    exact e1
  · have hb : b ≠ o := fun z => by
      rw [z, eo] at e
      exact hw _ _ _ (Option.some.inj e).symm
    rw [upd_ne hb, upd_ne (fun z => by rw [z, np] at e; cases e)]
    exact e
theorem stage0 {H0 H : Hp} {o C dx : Addr} {fs : List (Str × V)} (fs' : List (Str × V)) (kb : But o H0 H) (eo : H o = some (.ins C dx fs)) :
    But o H0 (upd H o (.ins C dx fs')) ∧ Kp H (upd H o (.ins C dx fs')) ∧ upd H o (.ins C dx fs') o = some (.ins C dx fs') := by
  refine ⟨fun b w hb e => by rw [upd_ne hb]; exact kb b w hb e, fun b w hw e => ?_, upd_same⟩
  have hb : b ≠ o := fun z => by
    rw [z, eo] at e
    exact hw _ _ _ (Option.some.inj e).symm
  rw [upd_ne hb]
  exact e
theorem But.fresh {S : Av} {o p : Addr} {H H' : Hp} (h : But o H H') (hS : ∀ b, S b → ∃ u, H b = some u) (po : p ≠ o) (n : H' p = none) : ¬ S p := fun hs => by
  obtain ⟨u, hu⟩ := hS p hs
  rw [h p u po hu] at n
  cases n
theorem Same.kp {H H' : Hp} (s : Same H H') : Kp H H' := fun b u _ e => s b u e
theorem But.same {o : Addr} {H H' H'' : Hp} (h : But o H H') (s : Same H' H'') : But o H H'' := fun b u hb e => s _ _ (h b u hb e)
theorem fld_h {K : PySem.W.Frag} {ta tv : TE} {f : Str} {D : Ends} {σ : L2.St} {H : Hp} (h : tv σ H fun y H1 => ta σ H1 fun x H2 => ∃ a C dx fs, x = .ref a ∧ H2 a = some (.ins C dx fs) ∧ Cls K C ∧ NoAttr K C f ∧ fs.length < 1000 ∧ D.nx σ (upd H2 a (.ins C dx (putF f y fs)))) :
    sFld K ta tv f D σ H := h
theorem op_h {r : R2} {ta tb : TE} {σ : L2.St} {H : Hp} {Q : VK} (h : ta σ H fun x H1 => tb σ H1 fun y H2 => r x y H2 Q) : tOp r ta tb σ H Q := h
end Lg

/-! A def with a starred parameter, a starred call of a local, a written dict's copy. -/
namespace Lg
open PySem PySem.Spec PyProof.Rows L2
/-- a call of a local that holds a def, with a starred tuple alone -/
def tCallHS (P : Program) (w : World) (K : PySem.W.Frag) (mg : Str → Option Value) (base : Heap) (k i : Nat) (te : TE) : TE := fun σ H Q => ∃ f sp, σ[i]? = some (some (.ref f)) ∧ Held P w K mg base k f sp ∧
  te σ H fun y H1 => ∃ a xs, y = V.ref a ∧ (SqT K H1 a xs ∨ SqL K H1 a xs) ∧ sp xs H1 Q (fun _ _ _ => False)
theorem pe_callHS {X : Cx} {k i : Nat} {x : Str} {p pos sp_ : Pos} {e : Expr} {te : TE} (hr : Room k X.A) (hN : X.N[i]? = some x) (hv : Vis X.env.scope x) (he : PE X e te)
    (hdb : (x == ("__debug__" : Str)) = false := by decide) (hcd : (x == ("__classdict__" : Str)) = false := by decide)
    (hst : starEach [.Starred e sp_] X.env = [(true, eval e X.env)] := by rfl) : PE X (.Call (.Name x p) [.Starred e sp_] [] pos) (tCallHS X.prog X.w X.K X.mg X.base k i te) := by
  refine ⟨fun pins s σ H Q I ⟨f, sp, hs, A, ht⟩ => ?_⟩
  obtain ⟨fd, ps, F, hk, hb⟩ := A.ex
  refine wpAny_Call_Name_kw (thn ((pe_var (pos := p) hN hv hdb hcd).run pins s σ H (fun v H1 => v = .ref f ∧ H1 = H) I ⟨.ref f, hs, rfl, rfl⟩) fun u s1 ⟨v, H1, I1, r1, q1⟩ => ?_)
  obtain ⟨rfl, rfl⟩ := q1
  cases r1
  refine PySem.W.callWith_S (h₀ := X.base) I.ok.mod.kin hk (thn (he.run pins s1 σ _ _ I1 ht) fun v s2 ⟨y, H2, I2, ry, a, xs, ey, hxs, q⟩ => ?_) hst
  subst ey
  obtain rfl : v = Value.ref a := ry
  exact StX.star_any I2 hxs fun us s3 I3 rv => ⟨I3.kIn, wpAny_call (run_fnR (E := fun _ _ _ => False) (F.raw hb .nil) hr (fun _ _ _ _ _ _ _ z => z.elim) I3 rv (by rw [List.append_nil]; exact q))⟩
/-- a def by its name, told by positional values alone -/
structure OwnR (P : Program) (w : World) (K : PySem.W.Frag) (mg : Str → Option Value) (base : Heap) (k : Nat) (x : Str) (sp : Sp) : Prop where
  ex : ∃ f, FnR P w K mg base CX0 k f sp ∧ mg x = some (.ref f) ∧ PySem.W.keepIn K (.ref f) = true
theorem OwnR.up {P : Program} {w : World} {K : PySem.W.Frag} {mg : Str → Option Value} {base : Heap} {x : Str} {sp : Sp} {j k : Nat} (O : OwnR P w K mg base k x sp) (h : k ≤ j) : OwnR P w K mg base j x sp := by
  obtain ⟨f, F, r⟩ := O.ex
  exact ⟨f, F.mono h, r⟩
theorem pe_ownR {X : Cx} {k : Nat} {x : Str} {sp : Sp} {e : Expr} {es : List Expr} {t : TA} {p pos : Pos} (O : OwnR X.prog X.w X.K X.mg X.base k x sp) (hr : Room k X.A) (hg : Gl X x) (ha : PA X (e :: es) t) (hdb : (x == ("__debug__" : Str)) = false := by decide)
    (he : starEach (e :: es) X.env = (false, eval e X.env) :: starEach es X.env := by rfl) (hpl : (backTo pos (starEach es X.env)).any (·.1) = false := by rfl) :
    PE X (.Call (.Name x p) (e :: es) [] pos) (fun σ H Q => t σ H fun vs H1 => sp vs H1 Q E0) := by
  obtain ⟨f, F, gm, kp⟩ := O.ex
  refine ⟨fun pins s σ H Q I h => ?_⟩
  refine wpAny_Call_Name_kw (ld_glob I hg gm ?_ hdb)
  refine PySem.W.callWith_K (h₀ := X.base) I.ok.mod.kin kp (thn (ha.run pos pins s σ H _ I h) fun us s1 ⟨vs, H1, I1, r, q⟩ => ⟨I1.kIn, ?_⟩) he hpl
  exact wpAny_call (run_fnR F hr pass0 I1 r q)
/-- what a caller of def f(.., *v) shows -/
def starSp (n : Nat) (sp : Sp) : Sp := fun vs H Q E => ∃ ws rest, vs = ws ++ rest ∧ ws.length = n ∧ rest.length ≤ sizeLine ∧ ∀ p, H p = Option.none → sp (ws ++ [V.ref p]) (upd H p (.tup rest)) Q E
section
variable {P : Program} {w : World} {K : PySem.W.Frag} {mg : Str → Option Value} {base : Heap}
theorem okStar {x qual pv : Str} {st : Stmt} {f : Addr} {fd : FuncData} {N ps : List Str} {k : Nat} {sp : Sp} (F : Fun K x qual st f fd) (S : FnScope N (ps ++ [pv]) (defScope st))
    (hb : ∀ (kV doc pm : Value) (an : Option Addr) (cdv ct : Value), ∀ us rest : List Value, us.length = ps.length → bindArgs (PySem.W.fnOf x qual (defArgs st) (defBody st) (defScope st) .none kV doc pm an cdv ct) ⟨us ++ rest, []⟩ = (newTuple rest >>= fun t => pure (ps.zip us ++ [(pv, t)])))
    (hbody : ∀ (cdv : Value) (A : Around) (outer : List Env) (s : Shared) (H : Hp) (vs : List V) (Q : VK) (E : XK), Room k (A.deeper (envOfC qual (defScope st) s.heap.objs.size f cdv)) → sp vs H Q E →
      ∃ t, PSs (cxOf CX0 P w K mg base N qual (defScope st) f cdv A outer s H E).nox (defBody st) t ∧ t { nx := fun _ H' => Q .non H', rt := Q } (start N vs) H) : FnR P w K mg base CX0 (k + 1) f (starSp ps.length sp) := by
  obtain ⟨oc, od, kV, doc, pm, an, cdv, ct, osl, rfl, lk, hcd⟩ := F.ex
  refine StX.fn_star lk hcd S StX.cxUp_none (hb kV doc pm an cdv ct) fun A outer s H vs Q E hr hsp => ?_
  obtain ⟨t, h, q⟩ := hbody cdv A outer s H vs Q E hr hsp
  exact ⟨t, h.nox, q⟩
end
/-! ### dict(d), d a written table with text keys whose values are defs -/
structure KVals (K : PySem.W.Frag) (d : Addr) (as : List Addr) : Prop where
  ex : ∃ es n, K.lookup d = some ⟨.type "dict", none, .dict es n, #[]⟩ ∧ es.toList.map (·.val) = as.map Value.ref
abbrev tabO (ks : List Str) (as : List Addr) : HO := .dK ((ks.zip as).map fun ka => ((.inr ka.1 : Key), V.ref ka.2))
def rDictW (K : PySem.W.Frag) (w : World) : List V → Hp → VK → Prop := fun xs H Q => ∃ d ks as, xs = [.ref d] ∧ KTab K w d ks ∧ KVals K d as ∧ ks.length = as.length ∧ ks.length ≤ 1000 ∧ ∀ p, H p = none → Q (.ref p) (upd H p (tabO ks as))
theorem pairs_mix {P : Program} {w : World} : ∀ {l : List DictEntry} {kvs : List (Str × Value)}, PySem.Pairs (PySem.strKind P w) l kvs → PySem.Pairs (mixKind P w) l (kvs.map fun kv => ((.inr kv.1 : Key), kv.2))
  | _, _, .nil => .nil
  | _, _, .cons h e r => .cons h e (pairs_mix r)
theorem kv_refs : ∀ {ks : List Str} {as : List Addr}, KV ((ks.zip as).map fun ka => ((.inr ka.1 : Key), V.ref ka.2)) ((ks.zip (as.map Value.ref)).map fun ka => ((.inr ka.1 : Key), ka.2))
  | [], _ => .nil
  | _ :: _, [] => .nil
  | _ :: _, _ :: _ => .cons ⟨rfl, rfl⟩ kv_refs
theorem zip_unzip' {α β : Type} : ∀ (l : List (α × β)), (l.map (·.1)).zip (l.map (·.2)) = l
  | [] => rfl
  | (a, b) :: l => by rw [List.map_cons, List.map_cons, List.zip_cons_cons, zip_unzip' l]
theorem cr_dictW {X : Cx} : CallR X (.type "dict") (rDictW X.K X.w) := by
  intro pins s σ H xs us Q I r h
  obtain ⟨d, ks, as, rfl, D, ⟨es0, n0, l0, vals⟩, hl, hz, q⟩ := h
  rw [Vals.ref1 r]
  obtain ⟨o, es, n, kvs, ho, hx, hdt, hsz, hks, hat, hlk⟩ := D.at_ I
  rw [l0] at hlk
  obtain rfl : es0 = es := by injection hlk with q; injection q with _ _ q _; injection q
  obtain ⟨o2, es2, ho2, hx2, hd2, hk2, hp2, hn2⟩ := hat
  obtain rfl : o = o2 := Option.some.inj (ho.symm.trans ho2)
  rw [hdt] at hd2
  obtain rfl : es0 = es2 := by injection hd2
  have ekv : kvs = ks.zip (as.map Value.ref) := by
    have : ∀ {l : List DictEntry} {m : List (Str × Value)}, PySem.Pairs (PySem.strKind X.prog X.w) l m → m.map (·.2) = l.map (·.val) := fun h => by
      induction h with
      | nil => rfl
      | cons _ e _ ih => rw [List.map_cons, List.map_cons, ih, e]
    have h2 := this hp2
    rw [vals] at h2
    rw [← hks, ← h2]
    exact (zip_unzip' kvs).symm
  have dd : s.heap.DictOf (mixKind X.prog X.w) d (kvs.map fun kv => ((.inr kv.1 : Key), kv.2)) := by
    refine ⟨o, es0, n, ho, hx, hdt, fun e he => ?_, pairs_mix hp2, ?_⟩
    · obtain ⟨k, h1, h2⟩ := hk2 e he
      exact ⟨.inr k, h1, h2⟩
    · rw [List.map_map]
      have : (kvs.map ((fun x : Key × Value => x.1) ∘ fun kv => ((.inr kv.1 : Key), kv.2))) = (kvs.map (·.1)).map Sum.inr := by rw [List.map_map]; rfl
      rw [this]
      exact List.Pairwise.map _ (fun a b h e => h (Sum.inr.inj e)) hn2
  have lk : kvs.length = ks.length := by rw [← hks, List.length_map]
  have sz : (1000 : Nat) ≤ sizeLine := by decide
  refine kt_call_dict D.low dd (by rw [List.length_map]; omega) fun h' d' hs => ?_
  have hm : (s.heap.objs.size == sysModules) = false := beq_eq_false_iff_ne.mpr (Nat.ne_of_gt I.big)
  refine ⟨.ref s.heap.objs.size, upd H s.heap.objs.size (tabO ks as), I.laid (t' := s.toks) (fun b u e => (hs.2 b (Nat.ne_of_lt (Heap.lt_size e))).trans (Heap.get?_push_of_some _ e)) (Nat.le_refl _)
    (show ObjOk X.prog X.w _ _ _ (.dK _) from ⟨by rw [List.length_map, List.length_zip]; omega, hm, _, kv_refs, ?_⟩), rfl, q _ (I.hok.fresh (Nat.le_refl _))⟩
  rw [ekv] at d'
  exact d'
theorem valV_tab {ks : List Str} {as : List Addr} {i : Nat} {k : Str} {a : Addr} (nd : ks.Nodup) (h1 : ks[i]? = some k) (h2 : as[i]? = some a) : valV ((ks.zip as).map fun ka => ((.inr ka.1 : Key), V.ref ka.2)) (.inr k) = some (.ref a) := by
  induction ks generalizing as i with
  | nil => cases h1
  | cons z ks ih =>
    cases as with
    | nil => cases h2
    | cons b as =>
      cases i with
      | zero =>
        cases h1
        cases h2
        unfold valV
        rw [List.zip_cons_cons, List.map_cons, List.find?_cons_of_pos (by simp)]
        rfl
      | succ i =>
        have h1 : ks[i]? = some k := h1
        have hne : z ≠ k := fun e => (List.nodup_cons.mp nd).1 (e ▸ List.mem_of_getElem? h1)
        have := ih (List.nodup_cons.mp nd).2 h1 h2
        unfold valV at this ⊢
        rw [List.zip_cons_cons, List.map_cons, List.find?_cons_of_neg (by simpa using hne)]
        exact this
theorem refsB_vals : ∀ {l : List DictEntry} {as : List Addr}, l.length = as.length → ((l.zip as).all fun p => match p.1.val with | .ref b => b == p.2 | _ => false) = true → l.map (·.val) = as.map Value.ref
  | [], [], _, _ => rfl
  | e :: l, a :: as, hl, h => by
    rw [List.zip_cons_cons, List.all_cons, Bool.and_eq_true] at h
    rw [List.map_cons, List.map_cons, refsB_vals (Nat.succ.inj hl) h.2]
    have h1 := h.1
    split at h1
    · rename_i b e1
      have : b = a := by simpa using h1
      rw [show e.val = Value.ref b from e1, this]
    · cases h1
theorem refsB_ok {K : PySem.W.Frag} {d : Addr} {as : List Addr} (h : refsB K d as = true) : KVals K d as := by
  unfold refsB at h
  split at h
  · rename_i es n sl e
    rw [Bool.and_eq_true, Bool.and_eq_true] at h
    obtain ⟨⟨h1, h2⟩, h3⟩ := h
    have : sl = #[] := Array.isEmpty_iff.mp h1
    rw [this] at e
    exact ⟨es, n, e, refsB_vals (by rw [Array.length_toList]; simpa using h2) h3⟩
  · cases h
theorem firstF_map {ls : List (Str × List Nat)} (h : firstF ls = none) : firstF (ls.map fun p => (p.1, p.2.map fun n : Nat => (n : Int))) = none := by
  unfold firstF at *
  rw [List.findSome?_eq_none_iff] at h ⊢
  intro p hp
  obtain ⟨r, hr, rfl⟩ := List.mem_map.mp hp
  have := h r hr
  cases e : r.2 with
  | nil => rfl
  | cons a l => rw [e] at this; cases this
end Lg

/-! The downward order: at each step the least place that is left and whose mothers are all told. -/
namespace Lg
open PySem PySem.Spec PyProof.Rows L2
abbrev dIs (P : List Int) (m : Int → Int) : HO := .dK (P.map fun p => ((.inl p : Key), V.int (m p)))
inductive Greedy (up : Int → List Int) : List Int → List Int → Prop
  | nil : Greedy up [] []
  | cons {p : Int} {left L : List Int} (hp : p ∈ left) (hu : ∀ q ∈ up p, q ∉ left) (hm : ∀ r ∈ left, (∀ q ∈ up r, q ∉ left) → p ≤ r) (r : Greedy up (left.erase p) L) : Greedy up left (p :: L)
theorem Greedy.len {up : Int → List Int} {left L : List Int} (h : Greedy up left L) : L.length = left.length := by
  induction h with
  | nil => rfl
  | cons hp _ _ _ ih =>
    rw [List.length_cons, ih, List.length_erase_of_mem hp]
    have := List.length_pos_of_mem hp
    omega
/-- mothers of q that are left -/
def miss (Bs : List (Int × Int)) (left : List Int) (q : Int) : Int := (Bs.countP fun b => b.2 == q && decide (b.1 ∈ left) : Nat)
theorem mem_ups {Bs : List (Int × Int)} {p q : Int} : p ∈ upsOf Bs q ↔ (p, q) ∈ Bs := by
  unfold upsOf
  rw [List.mem_map]
  constructor
  · rintro ⟨b, hb, rfl⟩
    obtain ⟨h1, h2⟩ := List.mem_filter.mp hb
    rw [beq_iff_eq] at h2
    subst h2
    exact h1
  · exact fun h => ⟨(p, q), List.mem_filter.mpr ⟨h, by simp⟩, rfl⟩
theorem mem_downs {Bs : List (Int × Int)} {p q : Int} : q ∈ downsOf Bs p ↔ (p, q) ∈ Bs := by
  unfold downsOf
  rw [List.mem_map]
  constructor
  · rintro ⟨b, hb, rfl⟩
    obtain ⟨h1, h2⟩ := List.mem_filter.mp hb
    rw [beq_iff_eq] at h2
    subst h2
    exact h1
  · exact fun h => ⟨(p, q), List.mem_filter.mpr ⟨h, by simp⟩, rfl⟩
/-- who is told next -/
def rdy (Bs : List (Int × Int)) (left : List Int) (q : Int) : Prop := q ∈ left ∧ ∀ u ∈ upsOf Bs q, u ∉ left
end Lg

/-! Lists that give a net: no fault is found, and what stays of it when it is numbered anew. -/
namespace Lg
open PySem PySem.Spec PyProof.Rows L2
def upN (As : List (Int × Int)) (p : Int) : Nat := As.countP fun a => a.2 == p
def dnN (As : List (Int × Int)) (p : Int) : Nat := As.countP fun a => a.1 == p
structure Good (As : List (Int × Int)) (Ls : List (Int × Str)) (P : List Int) : Prop where
  asc : Asc P (endsOf As ++ Ls.map (·.1))
  p64 : P.length < 64
  rng : ∀ p ∈ P, 0 ≤ p ∧ p ≤ 9999
  a46 : As.length ≤ 46
  nd : As.Nodup
  l12 : 1 ≤ Ls.length ∧ Ls.length ≤ 12
  lp : (Ls.map (·.1)).Nodup
  ln : (Ls.map (·.2)).Nodup
  nm : ∀ l ∈ Ls, nameL l.2.cps.toList = true ∧ l.2.length ≤ 8
  rank : ∃ rank : Int → Nat, ∀ a ∈ As, rank a.1 < rank a.2
  deg : ∀ p ∈ P, (p ∈ Ls.map (·.1) ∧ dnN As p = 0 ∧ upN As p ≤ 1) ∨ (p ∉ Ls.map (·.1) ∧ ((dnN As p = 1 ∧ upN As p = 2) ∨ (dnN As p = 2 ∧ upN As p ≤ 1)))
  root : ∃ r ∈ P, ∀ p ∈ P, upN As p = 0 ↔ p = r
  mix : (P.filter fun p => upN As p == 2).length ≤ 8
theorem srt_exists {α : Type} {lt : α → α → Bool} (O : SrtO.Swo lt) : ∀ l : List α, ∃ b, b.Perm l ∧ SrtO.Srtd lt b
  | [] => ⟨[], .nil, .nil⟩
  | y :: l => by
    obtain ⟨b, hp, hs⟩ := srt_exists O l
    have key : ∀ b : List α, SrtO.Srtd lt b → ∃ M N, b = M ++ N ∧ (∀ x ∈ M, lt y x = false) ∧ ∀ x ∈ N, lt y x = true := by
      intro b
      induction b with
      | nil => exact fun _ => ⟨[], [], rfl, by simp, by simp⟩
      | cons a b ih =>
        intro h
        cases c : lt y a with
        | true => exact ⟨[], a :: b, rfl, by simp, O.lt_all h c⟩
        | false =>
          obtain ⟨M, N, e, h1, h2⟩ := ih (List.pairwise_cons.mp h).2
          refine ⟨a :: M, N, by rw [e]; rfl, fun x hx => ?_, h2⟩
          rcases List.mem_cons.mp hx with rfl | hx
          · exact c
          · exact h1 x hx
    obtain ⟨M, N, rfl, h1, h2⟩ := key b hs
    exact ⟨M ++ y :: N, List.perm_middle.trans (.cons _ hp), SrtO.ins_srtd O hs h1 h2⟩
theorem srtA_exists (As : List (Int × Int)) : ∃ Bs, SrtA As Bs := srt_exists swo_lexP As
theorem asc_exists : ∀ l : List Int, ∃ P, Asc P l
  | [] => ⟨[], .nil, fun _ => Iff.rfl⟩
  | x :: l => by
    obtain ⟨P, h1, h2⟩ := asc_exists l
    by_cases hx : x ∈ P
    · refine ⟨P, h1, fun k => ?_⟩
      rw [h2, List.mem_cons]
      exact ⟨.inr, fun h => h.elim (fun e => e ▸ (h2 x).mp hx) id⟩
    · refine ⟨P.filter (fun y => decide (y < x)) ++ x :: P.filter (fun y => decide (x < y)), ?_, fun k => ?_⟩
      · refine List.pairwise_append.mpr ⟨h1.filter _, List.pairwise_cons.mpr ⟨fun y hy => ?_, h1.filter _⟩, fun a ha b hb => ?_⟩
        · simpa using (List.mem_filter.mp hy).2
        · have h3 : a < x := by simpa using (List.mem_filter.mp ha).2
          rcases List.mem_cons.mp hb with rfl | hb
          · exact h3
          · have h4 : x < b := by simpa using (List.mem_filter.mp hb).2
            omega
      · rw [List.mem_append, List.mem_cons, List.mem_filter, List.mem_filter, List.mem_cons, ← h2, decide_eq_true_eq, decide_eq_true_eq]
        constructor
        · rintro (h | rfl | h)
          · exact .inr h.1
          · exact .inl rfl
          · exact .inr h.1
        · rintro (rfl | h)
          · exact .inr (.inl rfl)
          · have : k ≠ x := fun e => hx (e ▸ h)
            by_cases h3 : k < x
            · exact .inl ⟨h, h3⟩
            · exact .inr (.inr ⟨h, by omega⟩)
theorem notin_take {α : Type} {l : List α} (h : l.Nodup) {i : Nat} {x : α} (e : l[i]? = some x) : x ∉ l.take i := fun hm => by
  obtain ⟨j, hj⟩ := List.mem_iff_getElem?.mp hm
  have hji : j < i := by
    have := (List.getElem?_eq_some_iff.mp hj).1
    rw [List.length_take] at this
    omega
  rw [List.getElem?_take_of_lt hji] at hj
  have g1 := List.getElem?_eq_some_iff.mp hj
  have g2 := List.getElem?_eq_some_iff.mp e
  exact absurd ((List.getElem_inj h).mp (g1.2.trans g2.2.symm)) (Nat.ne_of_lt hji)
theorem asOf_pd (As : List (Int × Int)) : asOf (As.map pd) = As := by
  unfold asOf
  rw [List.map_map]
  exact List.map_id As
theorem lsOf_ld (Ls : List (Int × Str)) : lsOf (Ls.map ld) = Ls := by
  unfold lsOf
  rw [List.map_map]
  exact List.map_id Ls
theorem atB_none {α : Type} {p : α → Bool} {l : List α} (h : ∀ d ∈ l, p d = false) : atB p l = [] := by
  unfold atB
  refine List.filter_eq_nil_iff.mpr fun i _ => ?_
  cases e : l[i]? with
  | none => simp
  | some d => simpa using h d (List.mem_of_getElem? e)
section
variable {As : List (Int × Int)} {Ls : List (Int × Str)} {P : List Int} (g : Good As Ls P)
include g
theorem Good.ends : ∀ a ∈ As, a.1 ∈ P ∧ a.2 ∈ P := fun a ha => by
  have h1 : ∀ k, k ∈ [a.1, a.2] → k ∈ P := fun k hk => (g.asc.2 k).mpr (List.mem_append_left _ (List.mem_flatMap.mpr ⟨a, ha, hk⟩))
  exact ⟨h1 _ (by simp), h1 _ (by simp)⟩
theorem Good.lab : ∀ l ∈ Ls, l.1 ∈ P := fun l hl => (g.asc.2 _).mpr (List.mem_append_right _ (List.mem_map_of_mem hl))
theorem Good.lf : firstF (lfinds (As.map pd) (Ls.map ld)) = none := by
  have pl : ∀ p ∈ P, placeD (.int p) = true := fun p hp => by
    have := g.rng p hp
    show (decide (0 ≤ p) && decide (p ≤ 9999)) = true
    simp [this]
  refine firstF_none fun j hj z hz => ?_
  unfold lfinds at hz hj
  rw [asOf_pd, lsOf_ld] at hz
  rcases j with _ | _ | _ | _ | _ | _ | _ | j
  · cases hz
    have h1 := g.a46
    have h2 := g.l12.2
    show (List.range 2).filter (fun i => if i = 0 then decide (46 < (As.map pd).length) else decide (12 < (Ls.map ld).length)) = []
    rw [List.length_map, List.length_map, decide_eq_false (by omega), decide_eq_false (by omega)]
    simp
  · cases hz
    refine atB_none fun d hd => ?_
    obtain ⟨a, ha, rfl⟩ := List.mem_map.mp hd
    have := g.ends a ha
    show (!(placeD (.int a.1) && placeD (.int a.2))) = false
    rw [pl _ this.1, pl _ this.2]
    rfl
  · cases hz
    refine atB_none fun d hd => ?_
    obtain ⟨a, ha, rfl⟩ := List.mem_map.mp hd
    show (!(placeD (.int a.1) && isStrD (.str a.2))) = false
    rw [pl _ (g.lab a ha)]
    rfl
  · cases hz
    refine atB_none fun d hd => ?_
    rw [(g.nm d hd).1]
    rfl
  · cases hz
    refine List.filter_eq_nil_iff.mpr fun i _ => ?_
    cases e : Ls[i]? with
    | none => simp
    | some d =>
      have h1 := notin_take g.lp (i := i) (x := d.1) (by rw [List.getElem?_map, e]; rfl)
      have h2 := notin_take g.ln (i := i) (x := d.2) (by rw [List.getElem?_map, e]; rfl)
      rw [Option.any_some, decide_eq_false h1, decide_eq_false h2]
      decide
  · cases hz
    refine List.filter_eq_nil_iff.mpr fun i _ => ?_
    cases e : As[i]? with
    | none => simp
    | some d =>
      rw [Option.any_some, decide_eq_false (notin_take g.nd e)]
      decide
  · cases hz
    have h1 := g.l12.1
    have : Ls.map ld ≠ [] := fun e => by
      have := congrArg List.length e
      rw [List.length_map] at this
      simp only [List.length_nil] at this
      omega
    show (if Ls.map ld = [] then [0] else []) = []
    rw [if_neg this]
  · cases hz
theorem ups_len {Bs : List (Int × Int)} (hB : SrtA As Bs) (p : Int) : (upsOf Bs p).length = upN As p := by
  unfold upsOf upN
  rw [List.length_map, ← List.countP_eq_length_filter]
  exact hB.1.countP_eq _
theorem downs_len {Bs : List (Int × Int)} (hB : SrtA As Bs) (p : Int) : (downsOf Bs p).length = dnN As p := by
  unfold downsOf dnN
  rw [List.length_map, ← List.countP_eq_length_filter]
  exact hB.1.countP_eq _
omit g in
theorem isEmpty_len {α : Type} (l : List α) : l.isEmpty = (l.length == 0) := by cases l <;> rfl
theorem Good.noring {Bs : List (Int × Int)} (hB : SrtA As Bs) : ∀ p ∈ P, (fun _ : Int => false) p = true ↔ Und (downsOf Bs) p p := by
  intro p _
  refine ⟨fun h => (by cases h), fun h => ?_⟩
  obtain ⟨rank, hr⟩ := g.rank
  have hr' : ∀ u q, q ∈ downsOf Bs u → rank u < rank q := fun u q h => hr (u, q) (hB.1.mem_iff.mp (mem_downs.mp h))
  have : ∀ q, Und (downsOf Bs) p q → rank p < rank q := fun q h => by
    induction h with
    | base h => exact hr' _ _ h
    | step _ h ih => exact Nat.lt_trans ih (hr' _ _ h)
  exact absurd (this p h) (Nat.lt_irrefl _)
theorem Good.roots {Bs : List (Int × Int)} (hB : SrtA As Bs) : ∃ r ∈ P, (P.filter fun p => (upsOf Bs p).isEmpty) = [r] ∧ ∀ p ∈ P, upsOf Bs p = [] ↔ p = r := by
  obtain ⟨r, hr, h⟩ := g.root
  have h2 : ∀ p ∈ P, upsOf Bs p = [] ↔ p = r := fun p hp => by
    rw [← h p hp, ← ups_len g hB, List.length_eq_zero_iff]
  refine ⟨r, hr, ?_, h2⟩
  have e : (P.filter fun p => (upsOf Bs p).isEmpty) = P.filter fun p => p == r := List.filter_congr fun p hp => by
    rw [Bool.eq_iff_iff, List.isEmpty_iff, beq_iff_eq]
    exact h2 p hp
  rw [e, List.filter_beq, g.asc.nodup.count, if_pos hr]
  rfl
theorem Good.pf {Bs : List (Int × Int)} (hB : SrtA As Bs) : firstF (pfinds P (upsOf Bs) (downsOf Bs) (fun _ => false) (Ls.map (·.1))) = none := by
  obtain ⟨r, hr, hf, _⟩ := g.roots hB
  refine firstF_none fun j hj z hz => ?_
  unfold pfinds at hz hj
  rcases j with _ | _ | _ | _ | _ | j
  · cases hz
    refine List.filter_eq_nil_iff.mpr fun p hp => ?_
    unfold badDeg
    rw [ups_len g hB, downs_len g hB]
    rcases g.deg p hp with ⟨_, h1, h2⟩ | ⟨_, ⟨h1, h2⟩ | ⟨h1, h2⟩⟩
    · rw [h1]
      rcases Nat.le_one_iff_eq_zero_or_eq_one.mp h2 with e | e <;> rw [e] <;> decide
    · rw [h1, h2]
      decide
    · rw [h1]
      rcases Nat.le_one_iff_eq_zero_or_eq_one.mp h2 with e | e <;> rw [e] <;> decide
  · cases hz
    show (if _ then _ else _) = _
    rw [hf, if_neg (by simp)]
    rfl
  · cases hz
    simp
  · cases hz
    refine List.filter_eq_nil_iff.mpr fun p hp => ?_
    rw [isEmpty_len, downs_len g hB]
    rcases g.deg p hp with ⟨h0, h1, _⟩ | ⟨h0, ⟨h1, _⟩ | ⟨h1, _⟩⟩ <;> rw [h1] <;> simp only [h0, decide_true, decide_false] <;> decide
  · cases hz
    have : ¬ 8 < (P.filter fun p => (upsOf Bs p).length == 2).length := by
      have e : (P.filter fun p => (upsOf Bs p).length == 2) = P.filter fun p => upN As p == 2 := List.filter_congr fun p _ => by rw [ups_len g hB]
      rw [e]
      have := g.mix
      omega
    show (if _ then _ else _) = _
    rw [if_neg this]
  · cases hz
/-- numbered anew, in any order -/
theorem Good.renamed {f : Int → Int} (hf : ∀ p ∈ P, ∀ q ∈ P, f p = f q → p = q) (hr : ∀ p ∈ P, 0 ≤ f p ∧ f p ≤ 9999) {As' : List (Int × Int)} {Ls' : List (Int × Str)} (h1 : As'.Perm (As.map fun a => (f a.1, f a.2))) (h2 : Ls'.Perm (Ls.map fun l => (f l.1, l.2))) :
    ∃ P', Good As' Ls' P' := by
  obtain ⟨P', hP'⟩ := asc_exists (P.map f)
  have hm : ∀ y, y ∈ P' ↔ ∃ p ∈ P, f p = y := fun y => by rw [hP'.2, List.mem_map]
  have hup : ∀ p ∈ P, upN As' (f p) = upN As p := fun p hp => by
    unfold upN
    rw [h1.countP_eq, List.countP_map]
    refine List.countP_congr fun a ha => ?_
    show ((f a.2 == f p) = true) ↔ ((a.2 == p) = true)
    rw [beq_iff_eq, beq_iff_eq]
    exact ⟨hf _ (g.ends a ha).2 _ hp, fun e => by rw [e]⟩
  have hdn : ∀ p ∈ P, dnN As' (f p) = dnN As p := fun p hp => by
    unfold dnN
    rw [h1.countP_eq, List.countP_map]
    refine List.countP_congr fun a ha => ?_
    show ((f a.1 == f p) = true) ↔ ((a.1 == p) = true)
    rw [beq_iff_eq, beq_iff_eq]
    exact ⟨hf _ (g.ends a ha).1 _ hp, fun e => by rw [e]⟩
  have hlm : ∀ p ∈ P, f p ∈ Ls'.map (·.1) ↔ p ∈ Ls.map (·.1) := fun p hp => by
    rw [(h2.map _).mem_iff, List.map_map]
    constructor
    · intro h
      obtain ⟨l, hl, e⟩ := List.mem_map.mp h
      have : l.1 = p := hf _ (g.lab l hl) _ hp e
      exact List.mem_map.mpr ⟨l, hl, this⟩
    · intro h
      obtain ⟨l, hl, rfl⟩ := List.mem_map.mp h
      exact List.mem_map.mpr ⟨l, hl, rfl⟩
  have pp : P'.Perm (P.map f) := by
    have nd : (P.map f).Nodup := by
      refine List.pairwise_map.mpr (List.Pairwise.imp_of_mem (fun ha hb h e => h (hf _ ha _ hb e)) g.asc.nodup)
    exact (List.perm_ext_iff_of_nodup hP'.nodup nd).mpr hP'.2
  obtain ⟨rank, hrk⟩ := g.rank
  obtain ⟨r, hrP, hroot⟩ := g.root
  refine ⟨P', ⟨hP'.1, fun k => ?_⟩, ?_, fun y hy => ?_, ?_, ?_, ?_, ?_, ?_, fun l hl => ?_, ?_, fun y hy => ?_, ⟨f r, (hm _).mpr ⟨r, hrP, rfl⟩, fun y hy => ?_⟩, ?_⟩
  · rw [hm, List.mem_append, (h2.map _).mem_iff, List.mem_flatMap]
    constructor
    · rintro ⟨p, hp, rfl⟩
      rcases List.mem_append.mp ((g.asc.2 p).mp hp) with h | h
      · obtain ⟨a, ha, hk⟩ := List.mem_flatMap.mp h
        refine .inl ⟨(f a.1, f a.2), h1.mem_iff.mpr (List.mem_map_of_mem ha), ?_⟩
        simp only [List.mem_cons, List.not_mem_nil, or_false] at hk
        rcases hk with rfl | rfl <;> simp
      · obtain ⟨l, hl, rfl⟩ := List.mem_map.mp h
        exact .inr (List.mem_map.mpr ⟨(f l.1, l.2), List.mem_map_of_mem hl, rfl⟩)
    · rintro (⟨b, hb, hk⟩ | h)
      · obtain ⟨a, ha, rfl⟩ := List.mem_map.mp (h1.mem_iff.mp hb)
        simp only [List.mem_cons, List.not_mem_nil, or_false] at hk
        rcases hk with rfl | rfl
        · exact ⟨_, (g.ends a ha).1, rfl⟩
        · exact ⟨_, (g.ends a ha).2, rfl⟩
      · obtain ⟨b, hb, rfl⟩ := List.mem_map.mp h
        obtain ⟨l, hl, rfl⟩ := List.mem_map.mp hb
        exact ⟨_, g.lab l hl, rfl⟩
  · rw [pp.length_eq, List.length_map]
    exact g.p64
  · obtain ⟨p, hp, rfl⟩ := (hm y).mp hy
    exact hr p hp
  · rw [h1.length_eq, List.length_map]
    exact g.a46
  · refine h1.nodup_iff.mpr (List.pairwise_map.mpr (List.Pairwise.imp_of_mem (fun {a b} ha hb h e => h ?_) g.nd))
    injection e with e1 e2
    exact Prod.ext (hf _ (g.ends a ha).1 _ (g.ends b hb).1 e1) (hf _ (g.ends a ha).2 _ (g.ends b hb).2 e2)
  · rw [h2.length_eq, List.length_map]
    exact g.l12
  · refine (h2.map _).nodup_iff.mpr ?_
    rw [List.map_map]
    refine List.pairwise_map.mpr ?_
    exact List.Pairwise.imp_of_mem (fun {a b} ha hb h e => h (hf _ (g.lab a ha) _ (g.lab b hb) e)) (List.pairwise_map.mp g.lp)
  · refine (h2.map _).nodup_iff.mpr ?_
    rw [List.map_map]
    exact g.ln
  · obtain ⟨m, hm2, rfl⟩ := List.mem_map.mp (h2.mem_iff.mp hl)
    exact g.nm m hm2
  · refine ⟨fun y => match P.find? (fun p => f p == y) with | some p => rank p | none => 0, fun b hb => ?_⟩
    obtain ⟨a, ha, rfl⟩ := List.mem_map.mp (h1.mem_iff.mp hb)
    have look : ∀ p ∈ P, P.find? (fun q => f q == f p) = some p := fun p hp => by
      cases e : P.find? (fun q => f q == f p) with
      | none => exact absurd (by simp) (List.find?_eq_none.mp e p hp)
      | some q =>
        have h3 : f q = f p := by simpa using List.find?_some e
        rw [hf _ (List.mem_of_find?_eq_some e) _ hp h3]
    show (match P.find? (fun p => f p == f a.1) with | some p => rank p | none => 0) < (match P.find? (fun p => f p == f a.2) with | some p => rank p | none => 0)
    rw [look _ (g.ends a ha).1, look _ (g.ends a ha).2]
    exact hrk a ha
  · obtain ⟨p, hp, rfl⟩ := (hm y).mp hy
    rw [hup p hp, hdn p hp, hlm p hp]
    exact g.deg p hp
  · obtain ⟨p, hp, rfl⟩ := (hm y).mp hy
    rw [hup p hp, hroot p hp]
    exact ⟨fun e => by rw [e], fun e => hf _ hp _ hrP e⟩
  · have e : (P'.filter fun p => upN As' p == 2).length = (P.filter fun p => upN As p == 2).length := by
      rw [(pp.filter _).length_eq, List.filter_map, List.length_map]
      congr 1
      refine List.filter_congr fun p hp => ?_
      show (upN As' (f p) == 2) = _
      rw [hup p hp]
    rw [e]
    exact g.mix
end
end Lg

/-! The law's own nets: lines that are joined or mixed, from the leaves up. -/
namespace Lg
open PySem PySem.Spec PyProof.Rows L2
structure GenI (n m0 t : Nat) (lines : List Int) (As : List (Int × Int)) (mx : Int) : Prop where
  n1 : 1 ≤ n
  n12 : n ≤ 12
  m8 : m0 ≤ 8
  mx0 : 0 ≤ mx
  mxm : mx ≤ m0
  ne : lines ≠ []
  lr : ∀ l ∈ lines, 0 ≤ l ∧ l < n + t
  arr : ∀ a ∈ As, (n : Int) ≤ a.1 ∧ a.1 < n + t ∧ 0 ≤ a.2 ∧ a.2 < a.1
  leaf : ∀ p : Int, 0 ≤ p → p < n → upN As p + lines.count p = 1
  inner : ∀ p : Int, n ≤ p → p < n + t → (dnN As p = 1 ∧ upN As p + lines.count p = 2) ∨ (dnN As p = 2 ∧ upN As p + lines.count p = 1)
  nd : As.Nodup
  cnt : (As.length : Int) + 2 * lines.length = 3 * (m0 - mx) + 2 * n
  mixc : (((List.range (n + t)).countP fun k : Nat => dnN As k == 1 : Nat) : Int) = m0 - mx
  phi : (t : Int) + 2 * mx + lines.length = 2 * m0 + n
  one : lines.length = 1 → ∀ l ∈ lines, dnN As l ≠ 1
  two : ∀ a, lines = [a, a] → 1 ≤ mx
theorem upN_app {As Bs : List (Int × Int)} {p : Int} : upN (As ++ Bs) p = upN As p + upN Bs p := List.countP_append
theorem dnN_app {As Bs : List (Int × Int)} {p : Int} : dnN (As ++ Bs) p = dnN As p + dnN Bs p := List.countP_append
theorem upN_one {a b p : Int} : upN [(a, b)] p = if b = p then 1 else 0 := by
  unfold upN
  rw [List.countP_singleton]
  simp
theorem dnN_one {a b p : Int} : dnN [(a, b)] p = if a = p then 1 else 0 := by
  unfold dnN
  rw [List.countP_singleton]
  simp
theorem upN_two {a b c p : Int} : upN [(a, b), (a, c)] p = (if b = p then 1 else 0) + if c = p then 1 else 0 := by
  rw [← upN_one (a := a), ← upN_one (a := a), ← upN_app]
  rfl
theorem dnN_two {a b c p : Int} : dnN [(a, b), (a, c)] p = if a = p then 2 else 0 := by
  have : dnN [(a, b), (a, c)] p = dnN [(a, b)] p + dnN [(a, c)] p := by rw [← dnN_app]; rfl
  rw [this, dnN_one, dnN_one]
  split <;> rfl
theorem dnN_zero {As : List (Int × Int)} {p : Int} (h : ∀ a ∈ As, a.1 ≠ p) : dnN As p = 0 := List.countP_eq_zero.mpr fun a ha e => h a ha (by simpa using e)
theorem upN_zero {As : List (Int × Int)} {p : Int} (h : ∀ a ∈ As, a.2 ≠ p) : upN As p = 0 := List.countP_eq_zero.mpr fun a ha e => h a ha (by simpa using e)
theorem GenI.start {n m : Nat} (h1 : 1 ≤ n) (h2 : n ≤ 12) (h3 : m ≤ 8) : GenI n m 0 ((List.range n).map fun k : Nat => (k : Int)) [] m := by
  have hnd : ((List.range n).map fun k : Nat => (k : Int)).Nodup := List.pairwise_map.mpr (List.nodup_range.imp fun h e => h (Int.ofNat.inj e))
  have hmem : ∀ p : Int, p ∈ ((List.range n).map fun k : Nat => (k : Int)) ↔ 0 ≤ p ∧ p < n := fun p => by
    rw [List.mem_map]
    constructor
    · rintro ⟨k, hk, rfl⟩
      have := List.mem_range.mp hk
      omega
    · exact fun h => ⟨p.toNat, List.mem_range.mpr (by omega), by omega⟩
  refine ⟨h1, h2, h3, Int.natCast_nonneg m, Int.le_refl _, fun e => ?_, fun l hl => ?_, by simp, fun p hp1 hp2 => ?_, fun p h4 h5 => by omega, .nil, ?_, ?_, ?_, fun _ l _ => by show (0 : Nat) ≠ 1; decide, fun a e => ?_⟩
  · have := congrArg List.length e
    rw [List.length_map, List.length_range] at this
    simp at this
    omega
  · have := (hmem l).mp hl
    omega
  · show 0 + _ = 1
    rw [hnd.count, if_pos ((hmem p).mpr ⟨hp1, hp2⟩)]
  · rw [List.length_map, List.length_range]
    simp
  · have : ((List.range (n + 0)).countP fun k : Nat => dnN [] k == 1) = 0 := List.countP_eq_zero.mpr fun k _ e => by
      have : dnN [] (k : Int) = 0 := rfl
      rw [this] at e
      cases e
    rw [this]
    omega
  · rw [List.length_map, List.length_range]
    omega
  · rw [e] at hnd
    simp at hnd
theorem GenI.tle {n m0 t : Nat} {lines : List Int} {As : List (Int × Int)} {mx : Int} (g : GenI n m0 t lines As mx) : t ≤ 27 := by
  have h1 := g.phi
  have h2 : 1 ≤ lines.length := List.length_pos_iff.mpr g.ne
  have := g.n12
  have := g.m8
  have := g.mx0
  omega
section
variable {n m0 t : Nat} {lines l1 l2 : List Int} {As : List (Int × Int)} {mx child other : Int} (g : GenI n m0 t lines As mx)
include g
theorem GenI.mix (hp : lines.Perm (child :: l1)) (h1 : lines.length = 1 → 2 ≤ mx) (h2 : 1 ≤ mx) : GenI n m0 (t + 1) (l1 ++ [(n + t : Int), (n + t : Int)]) (As ++ [((n + t : Int), child)]) (mx - 1) := by
  have hlen := hp.length_eq
  rw [List.length_cons] at hlen
  have hc : child ∈ lines := hp.mem_iff.mpr (by simp)
  have hcr := g.lr child hc
  have hl1 : ∀ l ∈ l1, 0 ≤ l ∧ l < n + t := fun l hl => g.lr l (hp.mem_iff.mpr (by simp [hl]))
  have hcnt : ∀ p, lines.count p = (if child = p then 1 else 0) + l1.count p := fun p => by
    rw [hp.count_eq, List.count_cons]
    simp only [beq_iff_eq]
    omega
  have hfr : l1.count (n + t : Int) = 0 := List.count_eq_zero.mpr fun h => by have := hl1 _ h; omega
  have hf2 : ∀ p : Int, p ≠ n + t → [(n + t : Int), (n + t : Int)].count p = 0 := fun p h => List.count_eq_zero.mpr fun e => by simp at e; exact h e
  have u0 : upN As (n + t : Int) = 0 := upN_zero fun a ha e => by have := g.arr a ha; omega
  have d0 : dnN As (n + t : Int) = 0 := dnN_zero fun a ha e => by have := g.arr a ha; omega
  refine ⟨g.n1, g.n12, g.m8, by have := h2; omega, by have := g.mxm; omega, by simp, fun l hl => ?_, fun a ha => ?_, fun p hp1 hp2 => ?_, fun p hp1 hp2 => ?_, ?_, ?_, ?_, ?_, fun e => ?_, fun a e => ?_⟩
  · rcases List.mem_append.mp hl with h | h
    · have := hl1 l h
      omega
    · simp at h
      omega
  · rcases List.mem_append.mp ha with h | h
    · have := g.arr a h
      omega
    · rw [List.mem_singleton.mp h]
      dsimp only
      omega
  · rw [upN_app, upN_one, List.count_append, hf2 p (by omega)]
    have h3 := g.leaf p hp1 hp2
    have h4 := hcnt p
    omega
  · by_cases e : p = n + t
    · subst e
      refine .inl ⟨?_, ?_⟩
      · rw [dnN_app, d0, dnN_one, if_pos rfl]
      · rw [upN_app, u0, upN_one, if_neg (by omega), List.count_append, hfr]
        simp
    · have h3 := g.inner p hp1 (by omega)
      have h4 := hcnt p
      rw [dnN_app, dnN_one, if_neg (fun z => e z.symm), upN_app, upN_one, List.count_append, hf2 p e]
      omega
  · refine List.nodup_append.mpr ⟨g.nd, by simp, fun a ha b hb => ?_⟩
    rw [List.mem_singleton.mp hb]
    intro z
    have := g.arr a ha
    rw [z] at this
    dsimp only at this
    omega
  · have := g.cnt
    simp only [List.length_append, List.length_cons, List.length_nil]
    omega
  · rw [show n + (t + 1) = (n + t) + 1 from rfl, List.range_succ, List.countP_append, List.countP_singleton]
    have h3 : ((List.range (n + t)).countP fun k : Nat => dnN (As ++ [((n + t : Int), child)]) k == 1) = (List.range (n + t)).countP fun k : Nat => dnN As k == 1 := List.countP_congr fun k hk => by
      have := List.mem_range.mp hk
      rw [dnN_app, dnN_one, if_neg (by omega)]
      exact Iff.rfl
    rw [h3]
    have h4 : dnN (As ++ [((n + t : Int), child)]) ((n + t : Nat) : Int) = 1 := by
      rw [show ((n + t : Nat) : Int) = (n : Int) + t from by omega, dnN_app, d0, dnN_one, if_pos rfl]
    rw [h4, if_pos (by decide)]
    have := g.mixc
    omega
  · have := g.phi
    simp only [List.length_append, List.length_cons, List.length_nil]
    omega
  · simp only [List.length_append, List.length_cons, List.length_nil] at e
    omega
  · have := congrArg List.length e
    simp only [List.length_append, List.length_cons, List.length_nil] at this
    have := h1 (by omega)
    omega
theorem GenI.others (hp : lines.Perm (child :: l1)) (h1 : 2 ≤ lines.length) (h2 : ∀ a, lines ≠ [a, a]) : ∃ y ∈ l1, y ≠ child := by
  refine Classical.byContradiction fun hno => ?_
  have hall : ∀ y ∈ l1, y = child := fun y hy => Classical.byContradiction fun e => hno ⟨y, hy, e⟩
  have hlen := hp.length_eq
  rw [List.length_cons] at hlen
  have hc : child ∈ lines := hp.mem_iff.mpr (by simp)
  have hcr := g.lr child hc
  have hcnt : lines.count child = lines.length := List.count_eq_length.mpr fun b hb => by
    rcases List.mem_cons.mp (hp.mem_iff.mp hb) with h | h
    · exact h.symm
    · exact (hall b h).symm
  have h3 : lines.count child ≤ 2 := by
    by_cases e : child < n
    · have := g.leaf child hcr.1 e
      omega
    · rcases g.inner child (by omega) hcr.2 with h | h <;> omega
  have h4 : lines.length = 2 := by omega
  have hal : ∀ b ∈ lines, b = child := fun b hb => by
    rcases List.mem_cons.mp (hp.mem_iff.mp hb) with h | h
    · exact h
    · exact hall b h
  match lines, h4, hal with
  | [x, y], _, hal =>
    have e1 := hal x (by simp)
    have e2 := hal y (by simp)
    exact h2 child (by rw [e1, e2])
theorem GenI.split (hp : lines.Perm (child :: l1)) (hq : l1.Perm (other :: l2)) (ho : other ≠ child) : GenI n m0 (t + 1) (l2 ++ [(n + t : Int)]) (As ++ [((n + t : Int), child), ((n + t : Int), other)]) mx := by
  have hlen := hp.length_eq
  have hlen2 := hq.length_eq
  rw [List.length_cons] at hlen hlen2
  have hc : child ∈ lines := hp.mem_iff.mpr (by simp)
  have hcr := g.lr child hc
  have hl1 : ∀ l ∈ l1, 0 ≤ l ∧ l < n + t := fun l hl => g.lr l (hp.mem_iff.mpr (by simp [hl]))
  have hor := hl1 other (hq.mem_iff.mpr (by simp))
  have hl2 : ∀ l ∈ l2, 0 ≤ l ∧ l < n + t := fun l hl => hl1 l (hq.mem_iff.mpr (by simp [hl]))
  have hcnt : ∀ p, lines.count p = (if child = p then 1 else 0) + (if other = p then 1 else 0) + l2.count p := fun p => by
    rw [hp.count_eq, List.count_cons, hq.count_eq, List.count_cons]
    simp only [beq_iff_eq]
    omega
  have hfr : l2.count (n + t : Int) = 0 := List.count_eq_zero.mpr fun h => by have := hl2 _ h; omega
  have hf2 : ∀ p : Int, p ≠ n + t → [(n + t : Int)].count p = 0 := fun p h => List.count_eq_zero.mpr fun e => by simp at e; exact h e
  have u0 : upN As (n + t : Int) = 0 := upN_zero fun a ha e => by have := g.arr a ha; omega
  have d0 : dnN As (n + t : Int) = 0 := dnN_zero fun a ha e => by have := g.arr a ha; omega
  refine ⟨g.n1, g.n12, g.m8, g.mx0, g.mxm, by simp, fun l hl => ?_, fun a ha => ?_, fun p hp1 hp2 => ?_, fun p hp1 hp2 => ?_, ?_, ?_, ?_, ?_, fun e l hl => ?_, fun a e => ?_⟩
  · rcases List.mem_append.mp hl with h | h
    · have := hl2 l h
      omega
    · simp at h
      omega
  · rcases List.mem_append.mp ha with h | h
    · have := g.arr a h
      omega
    · simp only [List.mem_cons, List.not_mem_nil, or_false] at h
      rcases h with rfl | rfl <;> dsimp only <;> omega
  · rw [upN_app, upN_two, List.count_append, hf2 p (by omega)]
    have h3 := g.leaf p hp1 hp2
    have h4 := hcnt p
    omega
  · by_cases e : p = n + t
    · subst e
      refine .inr ⟨?_, ?_⟩
      · rw [dnN_app, d0, dnN_two, if_pos rfl]
      · rw [upN_app, u0, upN_two, if_neg (by omega), if_neg (by omega), List.count_append, hfr]
        simp
    · have h3 := g.inner p hp1 (by omega)
      have h4 := hcnt p
      rw [dnN_app, dnN_two, if_neg (fun z => e z.symm), upN_app, upN_two, List.count_append, hf2 p e]
      omega
  · refine List.nodup_append.mpr ⟨g.nd, ?_, fun a ha b hb => ?_⟩
    · simp
      exact Ne.symm ho
    · simp only [List.mem_cons, List.not_mem_nil, or_false] at hb
      intro z
      have := g.arr a ha
      rcases hb with rfl | rfl <;> rw [z] at this <;> dsimp only at this <;> omega
  · have := g.cnt
    simp only [List.length_append, List.length_cons, List.length_nil]
    omega
  · rw [show n + (t + 1) = (n + t) + 1 from rfl, List.range_succ, List.countP_append, List.countP_singleton]
    have h3 : ((List.range (n + t)).countP fun k : Nat => dnN (As ++ [((n + t : Int), child), ((n + t : Int), other)]) k == 1) = (List.range (n + t)).countP fun k : Nat => dnN As k == 1 := List.countP_congr fun k hk => by
      have := List.mem_range.mp hk
      rw [dnN_app, dnN_two, if_neg (by omega)]
      exact Iff.rfl
    rw [h3]
    have h4 : dnN (As ++ [((n + t : Int), child), ((n + t : Int), other)]) ((n + t : Nat) : Int) = 2 := by
      rw [show ((n + t : Nat) : Int) = (n : Int) + t from by omega, dnN_app, d0, dnN_two, if_pos rfl]
    rw [h4, if_neg (by decide)]
    have := g.mixc
    omega
  · have := g.phi
    simp only [List.length_append, List.length_cons, List.length_nil]
    omega
  · simp only [List.length_append, List.length_cons, List.length_nil] at e
    have : l2 = [] := List.length_eq_zero_iff.mp (by omega)
    subst this
    simp at hl
    subst hl
    rw [dnN_app, d0, dnN_two, if_pos rfl]
    decide
  · have h3 := congrArg List.length e
    simp only [List.length_append, List.length_cons, List.length_nil] at h3
    match l2, h3, hl2, e with
    | [x], _, hl2, e =>
      have h4 : x = a ∧ (n + t : Int) = a := by
        simp at e
        exact e
      have := hl2 x (by simp)
      omega
theorem GenI.good (h1 : lines.length = 1) {ns : List Str} (hn : ns.length = n) (hnd : ns.Nodup) (hw : ∀ z ∈ ns, nameL z.cps.toList = true ∧ z.length ≤ 8) {As' : List (Int × Int)} (hAs : As'.Perm As) {Ls : List (Int × Str)} (hL : Ls = (List.range n).zipWith (fun (k : Nat) z => ((k : Int), z)) ns) :
    Good As' Ls ((List.range (n + t)).map fun k : Nat => (k : Int)) := by
  obtain ⟨r, hr⟩ := List.length_eq_one_iff.mp h1
  subst hr
  have hrr := g.lr r (by simp)
  have hr1 := g.one h1 r (by simp)
  have hup : ∀ p, upN As' p = upN As p := fun p => hAs.countP_eq _
  have hdn : ∀ p, dnN As' p = dnN As p := fun p => hAs.countP_eq _
  have hmem : ∀ (m : Nat) (p : Int), p ∈ ((List.range m).map fun k : Nat => (k : Int)) ↔ 0 ≤ p ∧ p < m := fun m p => by
    rw [List.mem_map]
    constructor
    · rintro ⟨k, hk, rfl⟩
      have := List.mem_range.mp hk
      omega
    · exact fun h => ⟨p.toNat, List.mem_range.mpr (by omega), by omega⟩
  have hl1 : Ls.map (·.1) = (List.range n).map fun k : Nat => (k : Int) := by
    rw [hL, List.map_zipWith]
    refine List.ext_getElem (by simp [hn]) fun i h1 h2 => ?_
    simp
  have hl2 : Ls.map (·.2) = ns := by
    rw [hL, List.map_zipWith]
    refine List.ext_getElem (by simp [hn]) fun i h1 h2 => ?_
    simp
  have hll : Ls.length = n := by rw [← List.length_map (f := (·.1)), hl1, List.length_map, List.length_range]
  have hcr : ∀ p, p ≠ r → [r].count p = 0 := fun p h => List.count_eq_zero.mpr fun e => h (by simpa using e)
  have hd0 : ∀ p : Int, p < n → dnN As p = 0 := fun p hp => dnN_zero fun a ha e => by have := g.arr a ha; omega
  have t27 := g.tle
  have n12 := g.n12
  have n1 := g.n1
  refine ⟨⟨?_, fun k => ?_⟩, ?_, fun p hp => ?_, ?_, hAs.nodup_iff.mpr g.nd, by omega, ?_, ?_, fun l hl => ?_, ⟨fun p => (n + t - p : Int).toNat, fun a ha => ?_⟩, fun p hp => ?_, ⟨r, (hmem _ _).mpr (by omega), fun p hp => ?_⟩, ?_⟩
  · refine List.pairwise_map.mpr (List.pairwise_lt_range.imp fun h => ?_)
    exact Int.ofNat_lt.mpr h
  · rw [hmem, List.mem_append, hl1, hmem, List.mem_flatMap]
    constructor
    · rintro ⟨h2, h3⟩
      by_cases e : k < n
      · exact .inr ⟨h2, e⟩
      · have : 0 < dnN As k := by
          rcases g.inner k (by omega) (by omega) with h | h <;> omega
        obtain ⟨a, ha, hk⟩ := List.countP_pos_iff.mp this
        have hk : a.1 = k := by simpa using hk
        exact .inl ⟨a, hAs.mem_iff.mpr ha, by simp [hk]⟩
    · rintro (⟨a, ha, hk⟩ | h)
      · have := g.arr a (hAs.mem_iff.mp ha)
        simp only [List.mem_cons, List.not_mem_nil, or_false] at hk
        rcases hk with rfl | rfl <;> omega
      · omega
  · rw [List.length_map, List.length_range]
    omega
  · have := (hmem _ _).mp hp
    omega
  · rw [hAs.length_eq]
    have h2 := g.cnt
    have := g.mx0
    have := g.m8
    simp only [List.length_cons, List.length_nil] at h2
    omega
  · rw [hl1]
    exact List.pairwise_map.mpr (List.nodup_range.imp fun h e => h (Int.ofNat.inj e))
  · rw [hl2]
    exact hnd
  · exact hw _ (by rw [← hl2]; exact List.mem_map_of_mem hl)
  · have := g.arr a (hAs.mem_iff.mp ha)
    dsimp only
    omega
  · have hpr := (hmem _ _).mp hp
    rw [hup, hdn, hl1, hmem]
    by_cases e : p < n
    · have := g.leaf p hpr.1 e
      exact .inl ⟨⟨hpr.1, e⟩, hd0 p e, by omega⟩
    · refine .inr ⟨by omega, ?_⟩
      rcases g.inner p (by omega) (by omega) with ⟨h2, h3⟩ | ⟨h2, h3⟩
      · have : p ≠ r := fun z => hr1 (z ▸ h2)
        rw [hcr p this] at h3
        exact .inl ⟨h2, h3⟩
      · exact .inr ⟨h2, by omega⟩
  · have hpr := (hmem _ _).mp hp
    rw [hup]
    constructor
    · intro h2
      refine Classical.byContradiction fun z => ?_
      have h3 := hcr p z
      by_cases e : p < n
      · have := g.leaf p hpr.1 e
        omega
      · rcases g.inner p (by omega) (by omega) with h4 | h4 <;> omega
    · rintro rfl
      have h3 : [p].count p = 1 := by simp
      by_cases e : p < n
      · have := g.leaf p hpr.1 e
        omega
      · rcases g.inner p (by omega) (by omega) with h4 | h4
        · exact absurd h4.1 hr1
        · omega
  · have h2 : (((List.range (n + t)).map fun k : Nat => (k : Int)).filter fun p => upN As' p == 2).length ≤ (List.range (n + t)).countP fun k : Nat => dnN As k == 1 := by
      rw [List.filter_map, List.length_map, ← List.countP_eq_length_filter]
      refine List.countP_mono_left fun k hk h3 => ?_
      have hk := List.mem_range.mp hk
      have h4 : upN As k = 2 := by
        rw [← hup]
        simpa using h3
      have h5 : dnN As k = 1 := by
        by_cases e : (k : Int) < n
        · have := g.leaf k (by omega) e
          omega
        · rcases g.inner k (by omega) (by omega) with h6 | h6 <;> omega
      simpa using h5
    have h3 := g.mixc
    have := g.m8
    have := g.mx0
    omega
end
end Lg

/-! What the law's side of a net law wants: comprehensions by whatever way the list comes, nets as data. -/
namespace Lg
open PySem PySem.Spec PyProof.Rows L2
abbrev netD (As : List (Int × Int)) (Ls : List (Int × Str)) : PyData := .list [.list (As.map pd), .list (Ls.map ld)]
theorem da_net {S : Av} {H : Hp} {x : V} {As : List (Int × Int)} {Ls : List (Int × Str)} (h : Da S H x (netD As Ls)) : ∃ (N A L : Addr) (xs ys : List V), x = .ref N ∧ ¬ S N ∧ H N = some (.lst [.ref A, .ref L]) ∧ ¬ S A ∧ H A = some (.lst xs) ∧ DaAll S H xs (As.map pd) ∧ ¬ S L ∧ H L = some (.lst ys) ∧ DaAll S H ys (Ls.map ld) := by
  obtain ⟨N, zs, rfl, nN, eN, hN⟩ := h.list
  cases hN with
  | cons h1 r =>
  cases r with
  | cons h2 r =>
  cases r
  obtain ⟨A, xs, rfl, nA, eA, hA⟩ := h1.list
  obtain ⟨L, ys, rfl, nL, eL, hL⟩ := h2.list
  exact ⟨N, A, L, xs, ys, rfl, nN, eN, nA, eA, hA, nL, eL, hL⟩
theorem lc_listG {K : PySem.W.Frag} {td : TE} {a : Addr} {xs : List V} {g : TG} {tt : TT} {te : TE} {vs : List Nat} {σ : L2.St} {H : Hp} {Q : VK} (htd : ∀ R : V → Hp → Prop, R (.ref a) H → td σ H R) (ea : H a = some (.lst xs)) (zs : List V) (hz : zs.length = xs.length) (hn : xs.length < sizeLine)
    (hs : ∀ (i : Nat) (x : V) (H1 : Hp) (N : Hp → Prop) (A : VK) (z : V), zs[i]? = some z → Same H H1 → xs[i]? = some x → (∀ H5, Same H1 H5 → A z H5) →
      g x (wipe σ vs) H1 fun σ2 H3 => wipe σ2 vs = wipe σ vs ∧ tt σ2 H3 fun b H4 => if b = true then te σ2 H4 A else N H4)
    (hd : ∀ D H', H D = none → Same H H' → H' D = some (.lst zs) → Q (.ref D) H') : tLc (iList K td) g tt te vs σ H Q :=
  htd _ ⟨a, rfl, ⟨_, .of ea⟩, lc_map (walk_list (K := K) (a := a) (xs := xs)) zs hz hn (fun H' sm => .of (sm _ _ ea)) (fun i x H1 H2 N A z h1 h2 ⟨h3, h4⟩ h5 => by
    subst h3
    exact hs i x _ N A z h1 h2 h4 h5) hd⟩
/-- a comprehension whose items are new data -/
theorem lc_itD {J : It} {n : Nat} {G : Hp → Prop} {Y : Nat → Hp → V → Hp → Prop} (w : Walk J n G Y) {S : Av} {g : TG} {tt : TT} {te : TE} {vs : List Nat} {σ : L2.St} {H : Hp} {Q : VK} (hS : Al S H) (ds : List PyData) (hz : ds.length = n) (hn : n < sizeLine)
    (hG : ∀ H', Same H H' → G H')
    (hs : ∀ (i : Nat) (x : V) (H1 H2 : Hp) (N : Hp → Prop) (A : VK) (d : PyData), ds[i]? = some d → Same H H1 → Al S H1 → Y i H1 x H2 → (∀ v H5, Same H1 H5 → Da S H5 v d → (∀ D, H1 D ≠ none → H D = none → Da (addA S D) H5 v d) → A v H5) →
      g x (wipe σ vs) H2 fun σ2 H3 => wipe σ2 vs = wipe σ vs ∧ tt σ2 H3 fun b H4 => if b = true then te σ2 H4 A else N H4)
    (hd : ∀ D ys H', H D = none → Same H H' → ¬ S D → H' D = some (.lst ys) → DaAll S H' ys ds → Q (.ref D) H') : tLc (fun _ H R => R J H) g tt te vs σ H Q := by
  intro D nD
  have nSD : ¬ S D := hS.free nD
  refine loop_it w (fun i H' => Same H H' ∧ ∃ acc, H' D = some (.lst acc) ∧ DaAll (addA S D) H' acc (ds.take i)) ⟨same_new (Same.refl H) nD, _, upd_same, .nil⟩ (fun i H' _ hp => hG H' hp.1)
    (Step := fun Nx x H' => g x (wipe σ vs) H' fun σ2 H2 => wipe σ2 vs = wipe σ vs ∧ tt σ2 H2 fun b H3 =>
      if b = true then te σ2 H3 fun y H4 => ∃ acc, H4 D = some (.lst acc) ∧ acc.length < sizeLine ∧ Nx (upd H4 D (.lst (acc ++ [y]))) else Nx H3) ?_ ?_
  · rintro i x H1 H2 hi ⟨sm, acc, eD, hacc⟩ hy
    obtain ⟨d, hdi⟩ : ∃ d, ds[i]? = some d := ⟨_, List.getElem?_eq_getElem (by omega)⟩
    refine hs i x H1 H2 _ _ d hdi sm (hS.same sm) hy fun v H5 s5 hv hv2 => ⟨acc, s5 _ _ eD, ?_, fun b o eb => ?_, _, upd_same, ?_⟩
    · rw [hacc.length, List.length_take]
      omega
    · rw [upd_ne (ne_of_none eb nD)]
      exact s5 _ _ (sm _ _ eb)
    · rw [← take_snoc hdi]
      exact ((hacc.same s5).app (.one (hv2 D (by rw [eD]; exact fun z => nomatch z) nD))).at
  · rintro H' ⟨sm, acc, eD, hacc⟩
    rw [← hz, List.take_length] at hacc
    exact hd D acc H' nD sm nSD eD hacc.less
theorem lc_rngD {tA : TA} {n : Nat} {S : Av} {g : TG} {tt : TT} {te : TE} {vs : List Nat} {σ : L2.St} {H : Hp} {Q : VK} (hta : ∀ R : List V → Hp → Prop, R [.int (n : Int)] H → tA σ H R) (hS : Al S H) (ds : List PyData) (hz : ds.length = n) (hn : n < sizeLine)
    (hs : ∀ (i : Nat) (H1 : Hp) (N : Hp → Prop) (A : VK) (d : PyData), ds[i]? = some d → Same H H1 → Al S H1 → (∀ v H5, Same H1 H5 → Da S H5 v d → (∀ D, H1 D ≠ none → H D = none → Da (addA S D) H5 v d) → A v H5) →
      g (.int (i : Int)) (wipe σ vs) H1 fun σ2 H3 => wipe σ2 vs = wipe σ vs ∧ tt σ2 H3 fun b H4 => if b = true then te σ2 H4 A else N H4)
    (hd : ∀ D ys H', H D = none → Same H H' → ¬ S D → H' D = some (.lst ys) → DaAll S H' ys ds → Q (.ref D) H') : tLc (iRng1 tA) g tt te vs σ H Q := by
  have h62 := line62 hn
  refine hta _ ⟨(n : Int), rfl, h62.1, h62.2, ?_⟩
  refine lc_itD (walk_range (lo := 0) (n := (n : Int).toNat)) hS ds (by omega) (by omega) (fun _ _ => trivial) ?_ hd
  rintro i x H1 H2 N A d h1 h2 h6 ⟨rfl, hx⟩ h5
  dsimp only at hx
  rw [Int.zero_add] at hx
  subst hx
  exact hs i _ N A d h1 h2 h6 h5
/-- a comprehension over a list: the items that pass, as they are -/
theorem lc_listF {K : PySem.W.Frag} {td : TE} {a : Addr} {ns : List Int} {j : Nat} {tt : TT} {vs : List Nat} {σ : L2.St} {H : Hp} {Q : VK} (htd : ∀ R : V → Hp → Prop, R (.ref a) H → td σ H R) (ea : H a = some (.lst (ns.map V.int))) (p : Int → Bool) (hn : ns.length < sizeLine)
    (hw : ∀ v, wipe ((wipe σ vs).set j (some v)) vs = wipe σ vs) (hv : ∀ v, ((wipe σ vs).set j (some v))[j]? = some (some v))
    (hs : ∀ x ∈ ns, ∀ (H1 : Hp) (k : Bool → Hp → Prop), Same H H1 → (∀ H4, Same H1 H4 → k (p x) H4) → tt ((wipe σ vs).set j (some (.int x))) H1 k)
    (hd : ∀ R H', H R = none → Same H H' → H' R = some (.lst ((ns.filter p).map V.int)) → Q (.ref R) H') : tLc (iList K td) (gName j) tt (tVar j) vs σ H Q := by
  refine htd _ ⟨a, rfl, ⟨_, .of ea⟩, ?_⟩
  refine lc_fltL (walk_list (K := K) (a := a) (xs := ns.map V.int)) ns (by rw [List.length_map]) p V.int (by rw [List.length_map]; exact hn) (fun H' sm => .of (sm _ _ ea)) ?_ hd
  rintro i z x H1 H2 N A hz sm ⟨rfl, hx⟩ hN hA
  rw [List.getElem?_map, hz] at hx
  cases hx
  refine ⟨hw _, hs z (List.mem_of_getElem? hz) _ _ sm fun H4 s4 => ?_⟩
  cases h : p z with
  | false => exact ite2 (fun e => absurd e (by decide)) fun _ => hN _ s4 h
  | true =>
    exact ite2 (fun _ => ⟨_, hv _, hA _ s4 h⟩) fun e => absurd rfl e
theorem probe_inj {room x0 : Int} (h : 1 ≤ room) {i j : Int} (hi : 0 ≤ i) (hj : j < room) (hij : i < j) : (x0 + i) % room ≠ (x0 + j) % room := fun e => by
  have h1 : (x0 + j - (x0 + i)) % room = 0 := Int.emod_eq_emod_iff_emod_sub_eq_zero.mp e.symm
  have h2 : room ∣ x0 + j - (x0 + i) := Int.dvd_of_emod_eq_zero h1
  have h3 := Int.le_of_dvd (by omega) h2
  omega
theorem probe_end {L : List Int} {room x0 : Int} {m : Nat} (h : 1 ≤ room) (hm : (m : Int) ≤ room) (hL : L.length < m) : ¬ ∀ i : Nat, i < m → (x0 + (i : Int)) % room ∈ L := fun hall => by
  have nd : ((List.range m).map fun i : Nat => (x0 + (i : Int)) % room).Nodup := by
    refine List.pairwise_map.mpr (List.Pairwise.imp_of_mem (fun {a b} ha hb hab => ?_) List.pairwise_lt_range)
    have := List.mem_range.mp hb
    exact probe_inj h (by omega) (by omega) (by omega)
  have := nodup_le nd fun k hk => by
    obtain ⟨i, hi, rfl⟩ := List.mem_map.mp hk
    exact hall i (List.mem_range.mp hi)
  rw [List.length_map, List.length_range] at this
  omega
def knS (k : Nat) : Str := ("k" : Str) ++ (toString (k : Int) : Str)
theorem knS_ok {k : Nat} (h : k < 17) : nameL (knS k).cps.toList = true ∧ (knS k).length ≤ 8 := by
  have : ∀ k ∈ List.range 17, nameL (knS k).cps.toList = true ∧ (knS k).length ≤ 8 := by decide +kernel
  exact this k (List.mem_range.mpr h)
theorem knS_small {k : Nat} (h : k < 17) : (0 + (k : Int)).natAbs.log2 < 1920 ∧ ("k" : Str).length + (toString (0 + (k : Int)) : Str).length ≤ 1000 ∧ ("k" : Str) ++ (toString (0 + (k : Int)) : Str) = knS k := by
  have : ∀ k ∈ List.range 17, (0 + (k : Int)).natAbs.log2 < 1920 ∧ ("k" : Str).length + (toString (0 + (k : Int)) : Str).length ≤ 1000 ∧ ("k" : Str) ++ (toString (0 + (k : Int)) : Str) = knS k := by decide +kernel
  exact this k (List.mem_range.mpr h)
/-- tuples stay where a list is written -/
theorem daAll_pd_put {S : Av} {H : Hp} {l : Addr} {zs : List V} {o : HO} (e : H l = some (.lst zs)) : ∀ {ys : List V} {As : List (Int × Int)}, DaAll S H ys (As.map pd) → DaAll S (upd H l o) ys (As.map pd)
  | [], [], _ => .nil
  | _ :: _, _ :: _, .cons h r => by
    refine .cons ?_ (daAll_pd_put e r)
    obtain ⟨t, rfl, nt, et⟩ := Da.pd h
    exact da_ofpd nt (by rw [upd_ne (fun z => by rw [z, e] at et; cases et)]; exact et)
/-- a new tuple is put behind a list of tuples -/
theorem app_pd {S : Av} {s AR T : Addr} {H H7 : Hp} {ys : List V} {As : List (Int × Int)} (p : Int × Int) (hS : SS S s H) (k : Keep s H H7) (so : SO S s H7) (nA : H AR = none) (eA : H7 AR = some (.lst ys)) (hys : DaAll S H7 ys (As.map pd)) (nT : H7 T = none) :
    ∃ H8, upd (upd H7 T (.tup [.int p.1, .int p.2])) AR (.lst (ys ++ [.ref T])) = H8 ∧ Keep s H H8 ∧ SO S s H8 ∧ H8 AR = some (.lst (ys ++ [.ref T])) ∧ DaAll S H8 (ys ++ [.ref T]) ((As ++ [p]).map pd) ∧ ∀ b o, b ≠ AR → H7 b = some o → H8 b = some o := by
  have nTs : T ≠ s := so.ne nT
  have nTA : T ≠ AR := fun e => by rw [e, eA] at nT; cases nT
  have S7 := hS.keep k so
  have fT : ¬ S T := S7.free nT
  have fA : ¬ S AR := hS.free nA
  have nT0 : H T = none := k.free nTs nT
  refine ⟨_, rfl, (k.new nT0).new nA, (so.put fT).put fA, upd_same, ?_, fun b o hb e => ?_⟩
  · rw [List.map_append]
    have h1 : DaAll S (upd H7 T (.tup [.int p.1, .int p.2])) ys (As.map pd) := hys.new nT
    have e1 : upd H7 T (.tup [.int p.1, .int p.2]) AR = some (.lst ys) := by rw [upd_ne nTA.symm]; exact eA
    exact (daAll_pd_put e1 h1).app (.one (da_ofpd fT (by rw [upd_ne nTA]; exact upd_same)))
  · rw [upd_ne hb, upd_ne (fun z => by rw [z, nT] at e; cases e)]
    exact e
theorem ints_daAll {S : Av} {H : Hp} : ∀ {L : List Int}, DaAll S H (L.map V.int) (L.map PyData.int)
  | [] => .nil
  | _ :: _ => .cons (.int _) ints_daAll
theorem da_ld2 {S : Av} {H1 H5 : Hp} {t : Addr} {p : Int × Str} (hS : Al S H1) (s : Same H1 H5) (n : H5 t = none) : Da S (upd H5 t (.tup [.int p.1, .str p.2])) (.ref t) (ld p) ∧ ∀ D, H1 D ≠ none → Da (addA S D) (upd H5 t (.tup [.int p.1, .str p.2])) (.ref t) (ld p) := by
  have nS : ¬ S t := (hS.same s).free n
  refine ⟨.tup nS upd_same (.cons (.int _) (.one (.str _))), fun D hD => .tup (fun h => ?_) upd_same (.cons (.int _) (.one (.str _)))⟩
  rcases h with h | rfl
  · exact nS h
  · exact hD (s.free n)
/-- one more place with an empty list -/
theorem DiN.grow {H0 H : Hp} {D : Addr} {P : List Int} {am : Int → Addr} (h : DiN H0 H D P am fun _ => []) {q : Int} {a : Addr} (hq : q ∉ P) (na : H a = none) (s : Same H0 H) :
    DiN H0 (upd (upd H a (.lst [])) D (.dK (putK (P.map fun p => ((.inl p : Key), V.ref (am p))) (.inl q) (.ref a)))) D (P ++ [q]) (fun p => if p = q then a else am p) fun _ => [] := by
  have hne : ∀ p ∈ P, p ≠ q := fun p hp e => hq (e ▸ hp)
  have naD : a ≠ D := fun e => by rw [e, h.at_] at na; cases na
  have nap : ∀ p ∈ P, am p ≠ a := fun p hp e => by
    have := h.val p hp
    rw [e, na] at this
    cases this
  have npD : ∀ p ∈ P, am p ≠ D := fun p hp e => by
    have := h.val p hp
    rw [e, h.at_] at this
    cases this
  refine ⟨h.nd, fun p hp => ?_, fun p hp p' hp' e => ?_, ?_, fun p hp => ?_⟩
  · rcases List.mem_append.mp hp with hp | hp
    · try dsimp only
      rw [if_neg (hne p hp)]
      exact h.na p hp
    · rw [List.mem_singleton] at hp
      try dsimp only
      rw [if_pos hp]
      exact s.free na
  · try dsimp only at e
    rcases List.mem_append.mp hp with hp | hp <;> rcases List.mem_append.mp hp' with hp' | hp'
    · rw [if_neg (hne p hp), if_neg (hne p' hp')] at e
      exact h.inj p hp p' hp' e
    · rw [List.mem_singleton] at hp'
      rw [if_neg (hne p hp), if_pos hp'] at e
      exact absurd e (nap p hp)
    · rw [List.mem_singleton] at hp
      rw [if_pos hp, if_neg (hne p' hp')] at e
      exact absurd e.symm (nap p' hp')
    · rw [List.mem_singleton] at hp hp'
      rw [hp, hp']
  · rw [upd_same, putK_new hq]
    show some (HO.dK _) = some (HO.dK ((P ++ [q]).map _))
    rw [List.map_append, List.map_singleton]
    try dsimp only
    rw [if_pos rfl]
    congr 3
    exact List.map_congr_left fun p hp => by rw [if_neg (hne p hp)]
  · rcases List.mem_append.mp hp with hp | hp
    · try dsimp only
      rw [if_neg (hne p hp), upd_ne (npD p hp), upd_ne (nap p hp)]
      exact h.val p hp
    · rw [List.mem_singleton] at hp
      try dsimp only
      rw [if_pos hp, upd_ne naD, upd_same]
      rfl
end Lg

/-! Classes by name: instances made, methods called; nets that stay. -/
namespace Lg
open PySem PySem.Spec PyProof.Rows L2
structure OwnM (P : Program) (w : World) (K : PySem.W.Frag) (mg : Str → Option Value) (base : Heap) (k : Nat) (C : Addr) (m : Str) (ps : List Str) (sp : Sp) : Prop where
  ex : ∃ f fd, FnOk P w K mg base CX0 k f fd ps sp ∧ Meth K C m f ∧ Binds K fd ps []
theorem OwnM.up {P : Program} {w : World} {K : PySem.W.Frag} {mg : Str → Option Value} {base : Heap} {C : Addr} {m : Str} {ps : List Str} {sp : Sp} {j k : Nat} (O : OwnM P w K mg base k C m ps sp) (h : k ≤ j) : OwnM P w K mg base j C m ps sp := by
  obtain ⟨f, fd, F, r⟩ := O.ex
  exact ⟨f, fd, F.mono h, r⟩
structure OwnC (P : Program) (w : World) (K : PySem.W.Frag) (mg : Str → Option Value) (base : Heap) (k : Nat) (x : Str) (C : Addr) (ps : List Str) (sp : Sp) : Prop where
  ex : ∃ i f fd, i + 1 ≤ k ∧ FnOk P w K mg base CX0 i f fd ps sp ∧ Mk K C f ∧ mg x = some (.ref C) ∧ Binds K fd ps []
theorem OwnC.up {P : Program} {w : World} {K : PySem.W.Frag} {mg : Str → Option Value} {base : Heap} {x : Str} {C : Addr} {ps : List Str} {sp : Sp} {j k : Nat} (O : OwnC P w K mg base k x C ps sp) (h : k ≤ j) : OwnC P w K mg base j x C ps sp := by
  obtain ⟨i, f, fd, l, r⟩ := O.ex
  exact ⟨i, f, fd, Nat.le_trans l h, r⟩
section
variable {X : Cx} {k : Nat} {C : Addr} {m x : Str} {ps : List Str} {sp : Sp} {o e : Expr} {es : List Expr} {ta : TE} {t : TA} {p apos pos : Pos}
theorem pe_ownM0 {pl : Sem Bool} (O : OwnM X.prog X.w X.K X.mg X.base k C m ps sp) (hr : Room k X.A) (c : Cls X.K C) (he : PE X o ta)
    (ht : eval (.Call (.Attribute o m apos) [] [] pos) X.env = (do
      let ov ← eval o X.env
      standAt apos.atName
      let (f, first) ← holding [ov] (getMethod ov m pl)
      callWith pos f first (backTo pos (starEach [] X.env)) (backToKw pos (keywordEach [] X.env))) := by rfl) :
    PE X (.Call (.Attribute o m apos) [] [] pos) (tMeth C m sp [] E0 ta tNil) := by
  obtain ⟨f, fd, F, hm, hb⟩ := O.ex
  exact pe_meth0 he c hm F hr hb .nil pass0 ht
theorem pe_ownC (O : OwnC X.prog X.w X.K X.mg X.base k x C ps sp) (hr : Room k X.A) (hg : Gl X x) (ha : PA X (e :: es) t) (hdb : (x == ("__debug__" : Str)) = false := by decide)
    (he : starEach (e :: es) X.env = (false, eval e X.env) :: starEach es X.env := by rfl) (hpl : (backTo pos (starEach es X.env)).any (·.1) = false := by rfl) :
    PE X (.Call (.Name x p) (e :: es) [] pos) (tMake C sp [] E0 t) := by
  obtain ⟨i, f, fd, l, F, M, hm, hb⟩ := O.ex
  exact pe_make M F (hr.mono l) hg hm hb .nil pass0 ha hdb he hpl
end
theorem DiR.go {H H' : Hp} {D : Addr} {P : List Int} {adr : Int → Addr} {val : Int → List Int} (h : DiR H D P adr val) (eD : H' D = some (dKs P adr)) (k : ∀ p ∈ P, ∀ o, H (adr p) = some o → H' (adr p) = some o) : DiR H' D P adr val :=
  ⟨.inl eD, fun p hp => k p hp _ (h.val p hp)⟩
theorem NetAt.go {S S' : Av} {K : PySem.W.Frag} {H H' : Hp} {o : Addr} {Bs : List (Int × Int)} {Ls Ms : List (Int × Str)} {P : List Int} {root : Int} (h : NetAt S K H o Bs Ls Ms P root) (k : ∀ b u, ¬ S b → H b = some u → ¬ S' b ∧ H' b = some u) : NetAt S' K H' o Bs Ls Ms P root := by
  obtain ⟨hs, dx, A, L, M, C, NA, PA, NM, am, ac, ys, zs, ns, eo, ⟨eA, hA⟩, ⟨eL, hL⟩, ⟨eM, hM⟩, ⟨eC, hC⟩, eNA, ePA, ⟨eNM, hn1, hn2⟩, hS, hP⟩ := h
  have go := fun b u hb e => k b u hb e
  have m : ∀ b, b ∈ [o, A, L, M, C, NA, PA, NM] → ∀ u, H b = some u → ¬ S' b ∧ H' b = some u := fun b hb u e => k b u (hS b hb) e
  have eM' := (m M (by simp) _ eM).2
  have eC' := (m C (by simp) _ eC).2
  refine ⟨hs, dx, A, L, M, C, NA, PA, NM, am, ac, ys, zs, ns, (m o (by simp) _ eo).2, ⟨(m A (by simp) _ eA).2, hA.go k⟩, ⟨(m L (by simp) _ eL).2, hL.go k⟩, ⟨eM', hM.go eM' fun p hp u e => (k _ u (hP p hp).1 e).2⟩, ⟨eC', hC.go eC' fun p hp u e => (k _ u (hP p hp).2 e).2⟩,
    (m NA (by simp) _ eNA).2, (m PA (by simp) _ ePA).2, ⟨(m NM (by simp) _ eNM).2, hn1, hn2⟩, fun b hb => ?_, fun p hp => ⟨(k _ _ (hP p hp).1 (hM.val p hp)).1, (k _ _ (hP p hp).2 (hC.val p hp)).1⟩⟩
  simp only [List.mem_cons, List.not_mem_nil, or_false] at hb
  rcases hb with rfl | rfl | rfl | rfl | rfl | rfl | rfl | rfl
  · exact (m _ (by simp) _ eo).1
  · exact (m _ (by simp) _ eA).1
  · exact (m _ (by simp) _ eL).1
  · exact (m _ (by simp) _ eM).1
  · exact (m _ (by simp) _ eC).1
  · exact (m _ (by simp) _ eNA).1
  · exact (m _ (by simp) _ ePA).1
  · exact (m _ (by simp) _ eNM).1
theorem Good.perm {As As' : List (Int × Int)} {Ls Ls' : List (Int × Str)} {P : List Int} (g : Good As Ls P) (h1 : As'.Perm As) (h2 : Ls'.Perm Ls) : Good As' Ls' P := by
  obtain ⟨P', g'⟩ := g.renamed (f := id) (fun _ _ _ _ e => e) g.rng (As' := As') (Ls' := Ls') (by rw [show (As.map fun a => (id a.1, id a.2)) = As from List.map_id As]; exact h1) (by rw [show (Ls.map fun l => (id l.1, l.2)) = Ls from List.map_id Ls]; exact h2)
  have : P' = P := Asc.uniq g'.asc g.asc fun k => by
    rw [List.mem_append, List.mem_append, (h2.map _).mem_iff, List.mem_flatMap, List.mem_flatMap]
    exact or_congr ⟨fun ⟨a, ha, h⟩ => ⟨a, h1.mem_iff.mp ha, h⟩, fun ⟨a, ha, h⟩ => ⟨a, h1.mem_iff.mpr ha, h⟩⟩ Iff.rfl
  exact this ▸ g'
/-- a net of the program beside the law's own lists -/
structure NetF (S : Av) (K : PySem.W.Frag) (H : Hp) (v : V) (o : Addr) (As Bs : List (Int × Int)) (Ls : List (Int × Str)) (P : List Int) : Prop where
  good : Good As Ls P
  srt : SrtA As Bs
  da : Da S H v (netD As Ls)
  net : ∃ Ls' Ms root, NetAt S K H o Bs Ls' Ms P root ∧ root ∈ P ∧ ∀ p ∈ P, upsOf Bs p = [] ↔ p = root
theorem NetF.go {S S' : Av} {K : PySem.W.Frag} {H H' : Hp} {v : V} {o : Addr} {As Bs : List (Int × Int)} {Ls : List (Int × Str)} {P : List Int} (h : NetF S K H v o As Bs Ls P) (k : ∀ b u, ¬ S b → H b = some u → ¬ S' b ∧ H' b = some u) : NetF S' K H' v o As Bs Ls P := by
  obtain ⟨Ls', Ms, root, h1, h2⟩ := h.net
  exact ⟨h.good, h.srt, h.da.go k, Ls', Ms, root, h1.go k, h2⟩
theorem NetF.ins {S : Av} {K : PySem.W.Frag} {H : Hp} {v : V} {o : Addr} {As Bs : List (Int × Int)} {Ls : List (Int × Str)} {P : List Int} (h : NetF S K H v o As Bs Ls P) : ∃ (dx A L M C NA PA NM : Addr) (root : Int), H o = some (.ins (He.ga K "Net") dx [("_arrows", .ref A), ("_leaves", .ref L), ("_mothers", .ref M), ("_children", .ref C), ("_name_at", .ref NA), ("_place_at", .ref PA), ("_names", .ref NM), ("_root", .int root)]) := by
  obtain ⟨_, _, root, h1, _⟩ := h.net
  obtain ⟨dx, A, L, M, C, NA, PA, NM, _, _, _, _, _, eo, _⟩ := h1.ex
  exact ⟨dx, A, L, M, C, NA, PA, NM, root, eo⟩
end Lg

/-! Instances compared by their own ==, isinstance of an own class, the size of a set, lists of pairs compared, keywords in another order. -/
namespace Lg
open PySem PySem.Spec PyProof.Rows L2
/-- x == y, two instances of the class at C whose == is its own -/
def rEqI (C : Addr) (sp : Sp) : R2 := fun x y H Q => ∃ a b dx dy fs gs, x = .ref a ∧ y = .ref b ∧ H a = some (.ins C dx fs) ∧ H b = some (.ins C dy gs) ∧ sp [x, y] H Q E0
theorem insB_ok {K : PySem.W.Frag} {C : Addr} (c : Cls K C) (h : insB K C = true) : C8.InsC K C := by
  unfold insB at h
  simp only [Bool.and_eq_true, decide_eq_true_eq] at h
  obtain ⟨h1, h2, h3, h4, h5⟩ := h
  exact ⟨c, He.eqO_ok h1, He.eqO_ok h2, h3, h4, h5⟩
theorem eqv_pds (As Bs : List (Int × Int)) : PyData.eqv (.list (As.map pd)) (.list (Bs.map pd)) = decide (As = Bs) := by
  show PyData.eqvAll (As.map pd) (Bs.map pd) = _
  induction As generalizing Bs with
  | nil => cases Bs <;> simp [PyData.eqvAll]
  | cons a As ih =>
    cases Bs with
    | nil => simp [PyData.eqvAll]
    | cons b Bs =>
      show (PyData.eqv (pd a) (pd b) && PyData.eqvAll (As.map pd) (Bs.map pd)) = _
      rw [ih, eqv_pd, Bool.eq_iff_iff]
      simp
theorem eqv_ints (As Bs : List Int) : PyData.eqv (.list (As.map PyData.int)) (.list (Bs.map PyData.int)) = decide (As = Bs) := by
  show PyData.eqvAll (As.map PyData.int) (Bs.map PyData.int) = _
  induction As generalizing Bs with
  | nil => cases Bs <;> simp [PyData.eqvAll]
  | cons a As ih =>
    cases Bs with
    | nil => simp [PyData.eqvAll]
    | cons b Bs =>
      show (PyData.eqv (.int a) (.int b) && PyData.eqvAll (As.map PyData.int) (Bs.map PyData.int)) = _
      rw [ih, Bool.eq_iff_iff]
      simp [PyData.eqv]
theorem eqv_lds (As Bs : List (Int × Str)) : PyData.eqv (.list (As.map ld)) (.list (Bs.map ld)) = decide (As = Bs) := by
  show PyData.eqvAll (As.map ld) (Bs.map ld) = _
  induction As generalizing Bs with
  | nil => cases Bs <;> simp [PyData.eqvAll]
  | cons a As ih =>
    cases Bs with
    | nil => simp [PyData.eqvAll]
    | cons b Bs =>
      obtain ⟨a1, a2⟩ := a
      obtain ⟨b1, b2⟩ := b
      show (PyData.eqvAll [.int a1, .str a2] [.int b1, .str b2] && PyData.eqvAll (As.map ld) (Bs.map ld)) = _
      rw [ih, Bool.eq_iff_iff]
      simp [PyData.eqvAll, PyData.eqv]
theorem ld_depth (p : Int × Str) : (ld p).depth = 1 := rfl
theorem strOk_name {z : Str} (h : nameL z.cps.toList = true) : PyData.strOk z = true := by
  have key : ∀ c ∈ z.cps.toList, c < 0x110000 := by
    generalize z.cps.toList = l at h
    cases l with
    | nil => cases h
    | cons c r =>
      unfold nameL at h
      rw [Bool.and_eq_true, Bool.and_eq_true, List.all_eq_true] at h
      have b : ∀ c, (isLet c || isDig c) = true → c < 0x110000 := fun c hc => by
        unfold isLet isDig at hc
        simp only [Bool.or_eq_true, Bool.and_eq_true, decide_eq_true_eq] at hc
        omega
      intro x hx
      rcases List.mem_cons.mp hx with rfl | hx
      · exact b x (by rw [h.1.1]; rfl)
      · exact b x (h.1.2 x hx)
  show z.cps.all (fun c => decide (c < 0x110000)) = true
  rw [← Array.all_toList, List.all_eq_true]
  exact fun c hc => decide_eq_true (key c hc)
theorem shaped_lds {As : List (Int × Str)} (h : ∀ p ∈ As, nameL p.2.cps.toList = true) : SeqAt.shaped (.list (As.map ld)) = true := by
  refine Bool.and_eq_true_iff.mpr ⟨lay_map ld fun p hp => ?_, decide_eq_true ?_⟩
  · have := strOk_name (h p hp)
    simp only [PyData.canLay0, PyData.canLayAll0, Bool.and_true, Bool.true_and]
    exact this
  · exact Nat.le_trans (Nat.succ_le_succ (depth_map ld 1 fun p _ => Nat.le_of_eq (ld_depth p))) (by decide)
theorem shaped_ints (As : List Int) : SeqAt.shaped (.list (As.map PyData.int)) = true := by
  refine Bool.and_eq_true_iff.mpr ⟨lay_map PyData.int fun p _ => rfl, decide_eq_true ?_⟩
  exact Nat.le_trans (Nat.succ_le_succ (depth_map PyData.int 0 fun p _ => Nat.le_of_eq rfl)) (by decide)
end Lg

/-! Keywords in any order; sorted lists of pairs and of leaves are told by their items; what a match of two nets is. -/
namespace Lg
open PySem PySem.Spec PyProof.Rows L2
abbrev pdL (ps : List (Int × Int)) : PyData := .list (ps.map pd)
def permL {α : Type} (is : List Nat) (zs : List α) : List α := is.filterMap fun i => zs[i]?
structure OwnK (P : Program) (w : World) (K : PySem.W.Frag) (mg : Str → Option Value) (base : Heap) (k : Nat) (x : Str) (ps ks : List Str) (is : List Nat) (sp : Sp) : Prop where
  ex : ∃ f fd, FnOk P w K mg base CX0 k f fd ps sp ∧ mg x = some (.ref f) ∧ PySem.W.keepIn K (.ref f) = true ∧ KBn K fd ps 0 ks (fun _ ws => permL is ws) (fun _ zs => permL is zs)
theorem OwnK.up {P : Program} {w : World} {K : PySem.W.Frag} {mg : Str → Option Value} {base : Heap} {x : Str} {ps ks : List Str} {is : List Nat} {sp : Sp} {j k : Nat} (O : OwnK P w K mg base k x ps ks is sp) (h : k ≤ j) : OwnK P w K mg base j x ps ks is sp := by
  obtain ⟨f, fd, F, r⟩ := O.ex
  exact ⟨f, fd, F.mono h, r⟩
section
variable {X : Cx} {k : Nat} {x : Str} {ps ks : List Str} {is : List Nat} {sp : Sp} {t : TA} {p pos : Pos} {kws : List Keyword}
end
/-! a reading opened where what comes behind is no variable -/
section
variable {te : TE} {t : TA} {D : Ends} {σ : L2.St} {H : Hp} {k : Bool → Hp → Prop} {Q : VK} {r : List V → Hp → VK → Prop}
theorem ret_h (h : te σ H D.rt) : tRet te D σ H := h
theorem next_h (h : D.nx σ H) : tNext D σ H := h
theorem cb_h (h : te σ H fun x H1 => r [x] H1 Q) : tCB r (tCons te tNil) σ H Q := h
theorem ifs_h {c : TT} {a b : TS} (h : c σ H fun z H1 => if z = true then a D σ H1 else b D σ H1) : tIfS c a b D σ H := h
theorem seq_ifs_h {c : TT} {a b u : TS} (h : c σ H fun z H1 => if z = true then a { D with nx := u D } σ H1 else b { D with nx := u D } σ H1) : tSeq (tIfS c a b) u D σ H := h
end
/-- a comprehension over what a call returns -/
theorem lc_td {K : PySem.W.Frag} {td te : TE} {g : TG} {tt : TT} {vs : List Nat} {σ : L2.St} {H : Hp} {Q : VK} (h : td σ H fun x H1 => tLc (iList K (fun _ H R => R x H)) g tt te vs σ H1 Q) : tLc (iList K td) g tt te vs σ H Q := h
/-- one list has one order -/
theorem perm_pair_eq {α : Type} {r : α → α → Prop} : ∀ {l m : List α}, l.Perm m → l.Pairwise r → m.Pairwise r → (∀ a ∈ l, ∀ b ∈ l, r a b → r b a → a = b) → l = m
  | [], m, h, _, _, _ => (List.nil_perm.mp h).symm
  | a :: l, [], h, _, _, _ => absurd (List.perm_nil.mp h) (by simp)
  | a :: l, b :: m, h, h1, h2, h3 => by
    have h1 := List.pairwise_cons.mp h1
    have h2 := List.pairwise_cons.mp h2
    have e : a = b := by
      rcases List.mem_cons.mp (h.mem_iff.mp (List.mem_cons_self (a := a) (l := l))) with e | ha
      · exact e
      · have hb : b ∈ a :: l := h.mem_iff.mpr List.mem_cons_self
        rcases List.mem_cons.mp hb with e | hb'
        · exact e.symm
        · exact h3 a List.mem_cons_self b hb (h1.1 b hb') (h2.1 a ha)
    subst e
    rw [perm_pair_eq ((List.perm_cons a).mp h) h1.2 h2.2 fun x hx y hy => h3 x (List.mem_cons_of_mem _ hx) y (List.mem_cons_of_mem _ hy)]
theorem SrtL.uniq {Ls Ms Ns : List (Int × Str)} (h1 : SrtL Ls Ms) (h2 : SrtL Ls Ns) (nd : (Ls.map (·.1)).Nodup) : Ms = Ns := by
  refine perm_pair_eq (h1.1.trans h2.1.symm) h1.2 h2.2 fun a ha b hb e1 e2 => ?_
  have h3 := lexPS_no.mp e1
  have h4 := lexPS_no.mp e2
  have e : a.1 = b.1 := by omega
  have ha := h1.1.mem_iff.mp ha
  have hb := h1.1.mem_iff.mp hb
  obtain ⟨i, hi⟩ := List.mem_iff_getElem?.mp ha
  obtain ⟨j, hj⟩ := List.mem_iff_getElem?.mp hb
  have g1 : (Ls.map (·.1))[i]? = some a.1 := by rw [List.getElem?_map, hi]; rfl
  have g2 : (Ls.map (·.1))[j]? = some a.1 := by rw [List.getElem?_map, hj, e]; rfl
  have g1 := List.getElem?_eq_some_iff.mp g1
  have g2 := List.getElem?_eq_some_iff.mp g2
  have : i = j := (List.getElem_inj nd).mp (g1.2.trans g2.2.symm)
  subst this
  exact Option.some.inj (hi.symm.trans hj)
/-! the depth of a list of pairs -/
theorem dd_pd {p : Int × Int} : Dd 1000 1 (pd p) := .tup (by show 2 ≤ 1000; decide) fun d hd => by
  simp only [List.mem_cons, List.not_mem_nil, or_false] at hd
  rcases hd with rfl | rfl <;> exact .int _ _
theorem dd_pdL {ps : List (Int × Int)} (h : ps.length ≤ 1000) : Dd 1000 2 (pdL ps) := .lst (by rw [List.length_map]; exact h) fun d hd => by
  obtain ⟨p, _, rfl⟩ := List.mem_map.mp hd
  exact dd_pd
/-- what was new may change -/
theorem same_upd {H H' : Hp} {p : Addr} {o : HO} (s : Same H H') (n : H p = none) : Same H (upd H' p o) := fun b u e => by
  rw [upd_ne (ne_of_none e n)]
  exact s b u e
/-! two numberings of one net -/
abbrev mapA (f : Int → Int) (As : List (Int × Int)) : List (Int × Int) := As.map fun a => (f a.1, f a.2)
abbrev mapL (f : Int → Int) (Ls : List (Int × Str)) : List (Int × Str) := Ls.map fun l => (f l.1, l.2)
abbrev papD (P : List Int) (f : Int → Int) : List (Int × Int) := P.map fun p => (p, f p)
abbrev swapD (ps : List (Int × Int)) : List (Int × Int) := ps.map fun p => (p.2, p.1)
structure Bij (P P' : List Int) (f g : Int → Int) : Prop where
  a : P.Pairwise (· < ·)
  b : P'.Pairwise (· < ·)
  to : ∀ p ∈ P, f p ∈ P'
  fro : ∀ y ∈ P', g y ∈ P
  gf : ∀ p ∈ P, g (f p) = p
  fg : ∀ y ∈ P', f (g y) = y
section
variable {P P' R : List Int} {f g h i : Int → Int}
theorem Bij.symm (b : Bij P P' f g) : Bij P' P g f := ⟨b.b, b.a, b.fro, b.to, b.fg, b.gf⟩
theorem Bij.comp (b : Bij P P' f g) (c : Bij P' R h i) : Bij P R (fun p => h (f p)) fun y => g (i y) :=
  ⟨b.a, c.b, fun p hp => c.to _ (b.to p hp), fun y hy => b.fro _ (c.fro y hy), fun p hp => by rw [c.gf _ (b.to p hp), b.gf p hp], fun y hy => by rw [b.fg _ (c.fro y hy), c.fg y hy]⟩
theorem Bij.inj (b : Bij P P' f g) : ∀ p ∈ P, ∀ q ∈ P, f p = f q → p = q := fun p hp q hq e => by rw [← b.gf p hp, e, b.gf q hq]
theorem Bij.perm (b : Bij P P' f g) : (P.map f).Perm P' := by
  have nd : (P.map f).Nodup := List.pairwise_map.mpr (List.Pairwise.imp_of_mem (fun ha hb h e => h (b.inj _ ha _ hb e)) (b.a.imp Int.ne_of_lt))
  refine (List.perm_ext_iff_of_nodup nd (b.b.imp Int.ne_of_lt)).mpr fun y => ?_
  rw [List.mem_map]
  exact ⟨fun ⟨p, hp, e⟩ => e ▸ b.to p hp, fun hy => ⟨g y, b.fro y hy, b.fg y hy⟩⟩
end
end Lg

/-! Methods with arguments, by position and by keyword; instances made by keyword; properties. -/
namespace Lg
open PySem PySem.Spec PyProof.Rows L2
structure OwnMK (P : Program) (w : World) (K : PySem.W.Frag) (mg : Str → Option Value) (base : Heap) (k : Nat) (C : Addr) (m : Str) (ps ks : List Str) (is : List Nat) (sp : Sp) : Prop where
  ex : ∃ f fd, FnOk P w K mg base CX0 k f fd ps sp ∧ Meth K C m f ∧ KBn K fd ps 1 ks (fun us ws => us ++ permL is ws) (fun us zs => us ++ permL is zs)
theorem OwnMK.up {P : Program} {w : World} {K : PySem.W.Frag} {mg : Str → Option Value} {base : Heap} {C : Addr} {m : Str} {ps ks : List Str} {is : List Nat} {sp : Sp} {j k : Nat} (O : OwnMK P w K mg base k C m ps ks is sp) (h : k ≤ j) : OwnMK P w K mg base j C m ps ks is sp := by
  obtain ⟨f, fd, F, r⟩ := O.ex
  exact ⟨f, fd, F.mono h, r⟩
structure OwnCK (P : Program) (w : World) (K : PySem.W.Frag) (mg : Str → Option Value) (base : Heap) (k : Nat) (x : Str) (C : Addr) (ps ks : List Str) (is : List Nat) (sp : Sp) : Prop where
  ex : ∃ i f fd, i + 1 ≤ k ∧ FnOk P w K mg base CX0 i f fd ps sp ∧ Mk K C f ∧ mg x = some (.ref C) ∧ KBn K fd ps 1 ks (fun us ws => us ++ permL is ws) (fun us zs => us ++ permL is zs)
theorem OwnCK.up {P : Program} {w : World} {K : PySem.W.Frag} {mg : Str → Option Value} {base : Heap} {x : Str} {C : Addr} {ps ks : List Str} {is : List Nat} {sp : Sp} {j k : Nat} (O : OwnCK P w K mg base k x C ps ks is sp) (h : k ≤ j) : OwnCK P w K mg base j x C ps ks is sp := by
  obtain ⟨i, f, fd, l, r⟩ := O.ex
  exact ⟨i, f, fd, Nat.le_trans l h, r⟩
section
variable {X : Cx} {k : Nat} {C : Addr} {m x : Str} {ps ks : List Str} {is : List Nat} {sp : Sp} {o e : Expr} {es : List Expr} {kws : List Keyword} {ta : TE} {t : TA} {p apos pos : Pos}
/-- o.m(e, ..) -/
theorem pe_ownM {pl : Sem Bool} (O : OwnM X.prog X.w X.K X.mg X.base k C m ps sp) (hr : Room k X.A) (c : Cls X.K C) (he : PE X o ta) (ha : PA X (e :: es) t)
    (hst : starEach (e :: es) X.env = (false, eval e X.env) :: starEach es X.env := by rfl) (hpl : (backTo pos (starEach es X.env)).any (·.1) = false := by rfl)
    (ht : eval (.Call (.Attribute o m apos) (e :: es) [] pos) X.env = (do
      let ov ← eval o X.env
      standAt apos.atName
      let (f, first) ← holding [ov] (getMethod ov m pl)
      callWith pos f first (backTo pos (starEach (e :: es) X.env)) (backToKw pos (keywordEach [] X.env))) := by rfl) :
    PE X (.Call (.Attribute o m apos) (e :: es) [] pos) (tMeth C m sp [] E0 ta t) := by
  obtain ⟨f, fd, F, hm, hb⟩ := O.ex
  exact pe_meth he c hm F hr hb .nil pass0 ha hst hpl ht
/-- o.m(k = e, ..): what it wants -/
def tMethK (C : Addr) (m : Str) (is : List Nat) (n : Nat) (sp : Sp) (ta : TE) (t : TA) : TE := fun σ H Q => ta σ H fun x H1 => ∃ a dx fs, x = .ref a ∧ H1 a = some (.ins C dx fs) ∧ fs.lookup m = none ∧ t σ H1 fun zs H2 => zs.length = n ∧ sp (x :: permL is zs) H2 Q E0
/-- C(k = e, ..): what it wants -/
def tMakeK (C : Addr) (is : List Nat) (n : Nat) (sp : Sp) (t : TA) : TE := fun σ H Q => t σ H fun zs H1 => zs.length = n ∧ ∀ x dx, H1 x = none → H1 dx = none → dx ≠ x →
  sp (.ref x :: permL is zs) (upd (upd H1 dx (.own x)) x (.ins C dx [])) (fun v H2 => v = .non ∧ Q (.ref x) H2) E0
end
/-- [p for p in (what gives the dict) if ..] -/
theorem lc_dictT {td : TE} {ip : Nat} {D : Addr} {P : List Int} {adr : Int → Addr} {tt : TT} {vs : List Nat} {σ : L2.St} {H : Hp} {Q : VK} (hD : H D = some (dKs P adr)) (p : Int → Bool) (hn : P.length < sizeLine)
    (htd : ∀ (od : Obj) (R : V → Hp → Prop), R (.ref D) (upd H D (.frz od (dKs P adr))) → td σ (upd H D (.frz od (dKs P adr))) R)
    (hw : ∀ v, wipe ((wipe σ vs).set ip (some v)) vs = wipe σ vs) (hv : ∀ v, ((wipe σ vs).set ip (some v))[ip]? = some (some v))
    (hs : ∀ x ∈ P, ∀ (od : Obj) (H1 : Hp) (k : Bool → Hp → Prop), Same (upd H D (.frz od (dKs P adr))) H1 → (∀ H4, Same H1 H4 → k (p x) H4) → tt ((wipe σ vs).set ip (some (.int x))) H1 k)
    (hd : ∀ R H', H R = none → Same H H' → H' R = some (.lst ((P.filter p).map V.int)) → Q (.ref R) H') : tLockE (tLc (iKeys td) (gName ip) tt (tVar ip) vs) σ H Q := by
  refine ⟨D, _, hD, trivial, fun od => htd od _ ⟨D, od, rfl, .inl ⟨_, upd_same, ?_⟩⟩⟩
  show tLc (fun _ H R => R (Itk D od (P.map fun p => ((.inl p : Key), V.ref (adr p)))) H) (gName ip) tt (tVar ip) vs σ (upd H D (.frz od (dKs P adr))) (fun v H' => H' D = some (.frz od (dKs P adr)) ∧ Q v (upd H' D (dKs P adr)))
  refine lc_fltL (walk_keys (d := D) (o := od) (kvs := P.map fun p => ((.inl p : Key), V.ref (adr p)))) P (by rw [List.length_map]) p V.int (by rw [List.length_map]; exact hn) (fun H' sm => sm _ _ upd_same) ?_ ?_
  · rintro i z x H1 H2 N A hz sm ⟨rfl, k, v, hk, rfl⟩ hN hA
    rw [List.getElem?_map, hz] at hk
    cases hk
    refine ⟨hw _, hs z (List.mem_of_getElem? hz) od _ _ sm fun H4 s4 => ?_⟩
    cases h : p z with
    | false => exact ite2 (fun e => absurd e (by decide)) fun _ => hN _ s4 h
    | true => exact ite2 (fun _ => ⟨_, hv _, hA _ s4 h⟩) fun e => absurd rfl e
  · intro R H' nR sm e
    have nRD : R ≠ D := fun z => by rw [z, upd_same] at nR; cases nR
    refine ⟨sm _ _ upd_same, hd R _ (by rw [upd_ne nRD] at nR; exact nR) (fun b o eb => ?_) (by rw [upd_ne nRD]; exact e)⟩
    by_cases hb : b = D
    · subst hb
      rw [hD] at eb
      rw [upd_same]
      exact eb
    · rw [upd_ne hb]
      exact sm _ _ (by rw [upd_ne hb]; exact eb)
theorem valV_at {α : Type} {k : α → Key} {v : α → V} : ∀ {l : List α}, (l.map k).Nodup → ∀ {x : α}, x ∈ l → valV (l.map fun y => (k y, v y)) (k x) = some (v x)
  | [], _, _, h => absurd h (by simp)
  | a :: l, nd, x, h => by
    have nd := List.nodup_cons.mp nd
    unfold valV
    rw [List.map_cons, List.find?_cons]
    by_cases e : k a = k x
    · rw [decide_eq_true e]
      rcases List.mem_cons.mp h with rfl | hx
      · rfl
      · exact absurd (e ▸ List.mem_map_of_mem hx) nd.1
    · rw [decide_eq_false e]
      rcases List.mem_cons.mp h with rfl | hx
      · exact absurd rfl e
      · exact valV_at nd.2 hx
theorem valV_not {α : Type} {k : α → Key} {v : α → V} {l : List α} {q : Key} (h : q ∉ l.map k) : valV (l.map fun y => (k y, v y)) q = none := by
  unfold valV
  rw [List.find?_eq_none.mpr]
  · rfl
  · intro r hr e
    obtain ⟨y, hy, rfl⟩ := List.mem_map.mp hr
    exact h (of_decide_eq_true e ▸ List.mem_map_of_mem hy)
end Lg

/-! Own == and != beside anything, isinstance of an own class for anything, properties. -/
namespace Lg
open PySem PySem.Spec PyProof.Rows L2
theorem call_isX {X : Cx} {C : Addr} : CallR X (.builtin "isinstance") (fun xs H Q => ∃ (x : V) (t : Value) (b : Bool), xs = [x, .ref C] ∧ TyX X.K H x t ∧ PySem.W.kitOne X.K t (.ref C) = some b ∧ Q (.bl b) H) :=
  CallR.imp call_isi fun _ _ _ ⟨x, t, b, e, ty, k, q⟩ => ⟨x, .ref C, t, .ref C, b, e, .own C, ty, k, q⟩
/-- what == and != and isinstance ask of a class of one's own -/
structure InsX (K : PySem.W.Frag) (C : Addr) : Prop where
  ins : C8.InsC K C
  kit : ∀ n ∈ sixT, PySem.W.kitOne K (.type n) (.ref C) = some false
  sub : ∀ n ∈ sixT, PySem.W.notFirst K C (.type n) = true
  ne : PySem.W.findIn K (.ref C) "__ne__" = some (some (.builtin "object.__ne__"))
theorem insXB_ok {K : PySem.W.Frag} {C : Addr} (c : Cls K C) (h : insXB K C = true) : InsX K C := by
  unfold insXB at h
  simp only [Bool.and_eq_true, List.all_eq_true, decide_eq_true_eq] at h
  obtain ⟨h1, h2, h3, h4⟩ := h
  exact ⟨insB_ok c h1, h2, h3, He.eqO_ok h4⟩
theorem InsX.ty {K : PySem.W.Frag} {C a dx : Addr} {H : Hp} {fs : List (Str × V)} (c : InsX K C) (e : H a = some (.ins C dx fs)) : TyX K H (.ref a) (.ref C) := .base (.ins e c.ins.cl c.ins.ha c.ins.hn c.ins.htk c.ins.hm)
theorem InsX.self {K : PySem.W.Frag} {C : Addr} : PySem.W.notFirst K C (.ref C) = true := by
  unfold PySem.W.notFirst
  rw [beq_self_eq_true]
  rfl
theorem six_of {S : Av} {H : Hp} {x : V} {d : PyData} (h : Da S H x d) : tyN d ∈ sixT := by
  cases h <;> simp [tyN, sixT]
/-- x == y, y anything -/
def rEqA (K : PySem.W.Frag) (C : Addr) (sp : Sp) : R2 := fun x y H Q => ∃ (a dx : Addr) (fs : List (Str × V)) (t : Value), x = .ref a ∧ H a = some (.ins C dx fs) ∧ TyX K H y t ∧ PySem.W.notFirst K C t = true ∧ sp [x, y] H Q E0
section
open PySem.W
variable {prog : Program} {w : World} {A : Around} {E : Value → Shared → Prop} {s : Shared} {K : Frag} {x C L f : Addr} {h₀ : Heap} {m : Str → Option Value} {ox : Obj} {od : Option Obj} {b tb : Value}
theorem ifBound_ne {M : Model} {args : List Value} {Q : Option Value → Shared → Prop} (X : K.In s.heap) (I : InstAt s.heap x ox C od) (hs : findIn K (.ref C) "__ne__" = some (some (.builtin "object.__ne__")))
    (h : wpAny M A (call (.builtin "object.__ne__") (.ref x :: args)) (fun v => Q (some v)) E s) : wpAny M A (callSpecialIfBound? (.ref x) "__ne__" args) Q E s := by
  simp only [callSpecialIfBound?, bindSpecialIfBound?]
  refine wpAny_holding (wpAny_bind (wpAny_bind (wpAny_bind (I.type.here ((looks_findIn X hs).here ?_)))))
  refine wpAny_bind (wpAny_askSetting (wpAny_ite ?_))
  have fin : wpAny M A (call (.builtin "object.__ne__") ([.ref x] ++ args) >>= fun v => pure (some v)) Q E s := wpAny_bind (wpAny_mono h (fun v s' h' => wpAny_pure h') fun _ _ h' => h')
  split
  · exact wpAny_bind (wpAny_of_eq (F.cmp_object.ne.bind _) (wpAny_pure (by exact fin)))
  · exact wpAny_tryCatch (wpAny_bind (wpAny_of_eq (F.cmp_object.ne.bind _) (wpAny_pure (by exact fin))))
theorem objNe_entry {Q : Fin → Shared → Prop} (hu : A.units < cLine) (X : K.In s.heap) (I : InstAt s.heap x ox C od) (he : findIn K (.ref C) "__eq__" = some (some (.ref f))) (hf : isFn K (.ref f) = true)
    (h : wpAny (model prog w) A (call (.ref f) [.ref x, b]) (fun v s' => ∃ c, v = .bool c ∧ Q (.done (.ret (.bool (!c)))) s') E s) : wpAny (model prog w) A (Builtin.«object.__ne__» ⟨[.ref x, b], []⟩) Q E s := by
  unfold Builtin.«object.__ne__»
  repeat (first
    | with_reducible refine wpAny_cRoomFor hu ?_
    | (refine wpAny_bind (m := callSpecialIfBound? (.ref x) (Str.ofString "__eq__") [b])
        (ifBound_K X I he hf (wpAny_mono h (fun r s' hr => by
          obtain ⟨c, rfl, hq⟩ := hr
          repeat (first | exact hq | exact wpAny_pure hq | exact wpAny_truthy_bool hq | (refine wpAny_bind (m := truthy (.bool _)) (wpAny_truthy_bool ?_)) | wp_step)) fun _ _ e => e)))
    | wp_step)
theorem cmp_ne_K {Q : Value → Shared → Prop} (hu : A.units + 1 < cLine) (Fz : Fr h₀ L s.heap m) (X₀ : K.In h₀) (I : InstAt s.heap x ox C od) (hb : Looks (model prog w) s.heap (typeOf b) tb) (hn : notFirst K C tb = true)
    (hs : findIn K (.ref C) "__ne__" = some (some (.builtin "object.__ne__"))) (hm : mroIn K C (.type "object") = some true) (he : findIn K (.ref C) "__eq__" = some (some (.ref f))) (hf : isFn K (.ref f) = true)
    (h : wpAny (model prog w) A.in1 (call (.ref f) [.ref x, b]) (fun v s' => ∃ c, v = .bool c ∧ Q (.bool (!c)) s') E s) : wpAny (model prog w) A (richCompare .NotEq (.ref x) b) Q E s := by
  have X := X₀.keeps Fz.keep
  have one : wpAny (model prog w) A (tryCompare (.ref x) "__ne__" b) (fun r s' => ∃ v, r = some v ∧ Q v s') E s := by
    unfold tryCompare
    refine wpAny_bind (ifBound_ne X I hs (wpAny_call (codeAny_call_builtin F.cmp_object.ne.plain F.cmpEntry_ne (check_slot F.cmpKind_ne F.cmpSplit_ne (I.type.andThen (looks_mroIn X hm)) (F.cmpArgs_ne _ _)
      (objNe_entry (A := A.in1) hu X I he hf (wpAny_mono h (fun v s' hv => ?_) fun _ _ e => e))))))
    obtain ⟨c, rfl, hq⟩ := hv
    first | exact ⟨c, rfl, wpAny_pure ⟨_, rfl, hq⟩⟩ | exact ⟨c, rfl, wpAny_pure (wpAny_pure ⟨_, rfl, hq⟩)⟩ | exact ⟨c, rfl, ⟨_, rfl, hq⟩⟩
  unfold richCompare
  simp only [oneThing_ref]
  refine wpAny_holding (wpAny_bind (wpAny_cRoomFor (by omega) ?_))
  refine wpAny_bind (I.type.here (wpAny_bind (hb.here ?_)))
  split
  · rename_i q
    have e : subIn K tb (.ref C) = some false := by
      rcases Bool.or_eq_true_iff.mp hn with e | e
      · rw [beq_iff_eq.mp e] at q; simp at q
      · exact beq_iff_eq.mp e
    refine wpAny_bind ((looks_subIn X e).here ?_)
    simp only [Bool.false_eq_true, if_false]
    refine wpAny_bind (wpAny_mono one (fun r s' z => ?_) fun _ _ e => e)
    obtain ⟨v, rfl, hq⟩ := z
    exact wpAny_pure hq
  · refine wpAny_bind (wpAny_pure ?_)
    simp only [Bool.false_eq_true, if_false]
    refine wpAny_bind (wpAny_mono one (fun r s' z => ?_) fun _ _ e => e)
    obtain ⟨v, rfl, hq⟩ := z
    exact wpAny_pure hq
end
/-- x != y, y anything; the class has no __ne__ of its own -/
def rNeA (K : PySem.W.Frag) (C : Addr) (sp : Sp) : R2 := fun x y H Q => ∃ (a dx : Addr) (fs : List (Str × V)) (t : Value), x = .ref a ∧ H a = some (.ins C dx fs) ∧ TyX K H y t ∧ PySem.W.notFirst K C t = true ∧ sp [x, y] H (fun v H' => ∃ c, v = .bl c ∧ Q (.bl (!c)) H') E0
theorem op_neA {X : Cx} {k : Nat} {C : Addr} {ps : List Str} {sp : Sp} (c : InsX X.K C) (O : OwnM X.prog X.w X.K X.mg X.base k C "__eq__" ps sp) (hr : Room (k + 1) X.A) : OpR X (compareOp .NotEq) (rNeA X.K C sp) := by
  intro pins s σ H x y v u Q I rx ry h
  obtain ⟨a, dx, fs, t, rfl, ha, ty, nf, q⟩ := h
  cases (show v = Value.ref a from rx)
  obtain ⟨f, fd, F, hm, bi⟩ := O.ex
  obtain ⟨mA, J, _⟩ := ins_get I.hok ha
  obtain ⟨od, J, _⟩ := J.look
  obtain ⟨m, hF⟩ := I.fr
  obtain ⟨PZ, Z, pz, _⟩ := kit_of I ry ty
  refine cmp_ne_K (tb := t) (by have := hr.un; omega) hF I.ok.mod.kin J (Z.ty _ _ I.kIn pz) nf c.ne c.ins.hm hm.at_ hm.fn ?_
  have R := F.raw bi .nil
  refine wpAny_call (codeAny_mono (R X.A.in1 X.stack s H [.ref a, u] [.ref a, y] _ E0 hr.in1 I.env0.in1 (.cons rfl (.cons ry .nil)) q) fun r s' hq => ?_)
  cases r with
  | error e => exact pass0 pins σ H s e s' I hq
  | ok fl =>
    cases fl with
    | ret u2 =>
      obtain ⟨v2, H', I3, rv, c2, rfl, q3⟩ := I.after hq
      cases (show u2 = Value.bool c2 from rv)
      exact ⟨c2, rfl, .bl (!c2), H', I3, rfl, q3⟩
    | next => exact False.elim hq
    | brk => exact False.elim hq
    | cont => exact False.elim hq
theorem op_neD {X : Cx} {k : Nat} {C : Addr} {ps : List Str} {sp : Sp} (c : InsX X.K C) (O : ∃ j, j + 1 ≤ k ∧ OwnM X.prog X.w X.K X.mg X.base j C "__eq__" ps sp) (hr : Room k X.A) : OpR X (compareOp .NotEq) (rNeA X.K C sp) :=
  let ⟨_, h, O⟩ := O
  op_neA c O (hr.mono h)
structure OwnP (P : Program) (w : World) (K : PySem.W.Frag) (mg : Str → Option Value) (base : Heap) (k : Nat) (C : Addr) (m : Str) (ps : List Str) (sp : Sp) : Prop where
  ex : ∃ i p f fd, i + 1 ≤ k ∧ FnOk P w K mg base CX0 i f fd ps sp ∧ PropOf K C m p f ∧ Binds K fd ps []
theorem OwnP.up {P : Program} {w : World} {K : PySem.W.Frag} {mg : Str → Option Value} {base : Heap} {C : Addr} {m : Str} {ps : List Str} {sp : Sp} {j k : Nat} (O : OwnP P w K mg base k C m ps sp) (h : k ≤ j) : OwnP P w K mg base j C m ps sp := by
  obtain ⟨i, p, f, fd, l, r⟩ := O.ex
  exact ⟨i, p, f, fd, Nat.le_trans l h, r⟩
end Lg

/-! What k03 wants: names in one order, lists apart, kinds of places. -/
namespace Lg
open PySem PySem.Spec PyProof.Rows L2
theorem Keep.but {s A : Addr} {H H1 H2 : Hp} (k : Keep s H H1) (hn : H A = none) (b : But A H1 H2) : Keep s H H2 := by
  refine ⟨fun c o hc e => b c o (fun z => ?_) (k.fn c o hc e), fun S so => ?_⟩
  · rw [z, hn] at e
    cases e
  · obtain ⟨hs, c, ns, p, r, sd, t, e1, hcs, e2, hp, hr, hSc⟩ := so
    have so0 : SO (fun b => b = s ∨ b = c) s H := ⟨.inl rfl, c, ns, p, r, sd, t, e1, hcs, e2, hp, hr, .inr rfl⟩
    obtain ⟨_, c', ns', p', r', sd', t', e1', hcs', e2', hp', hr', hSc'⟩ := k.so _ so0
    obtain rfl : c' = c := hSc'.resolve_left hcs'
    exact ⟨hs, c', ns', p', r', sd', t', b _ _ (fun z => by rw [z, hn] at e1; cases e1) e1', hcs', b _ _ (fun z => by rw [z, hn] at e2; cases e2) e2', hp', hr', hSc⟩
theorem dd_ints {L : List Int} (h : L.length ≤ 1000) : Dd 1000 1 (.list (L.map PyData.int)) := .lst (by rw [List.length_map]; exact h) fun d hd => by
  obtain ⟨i, _, rfl⟩ := List.mem_map.mp hd
  exact .int _ _
theorem dd_ld {p : Int × Str} (hz : p.2.length ≤ 1000) : Dd 1000 1 (ld p) := .tup (by show 2 ≤ 1000; decide) fun d hd => by
  simp only [List.mem_cons, List.not_mem_nil, or_false] at hd
  rcases hd with rfl | rfl
  · exact .int _ _
  · exact .str _ hz
theorem dd_lds {L : List (Int × Str)} (h : L.length ≤ 1000) (hz : ∀ p ∈ L, p.2.length ≤ 1000) : Dd 1000 2 (.list (L.map ld)) := .lst (by rw [List.length_map]; exact h) fun d hd => by
  obtain ⟨i, hi, rfl⟩ := List.mem_map.mp hd
  exact dd_ld (hz i hi)
section
variable {As Bs : List (Int × Int)} {Ls : List (Int × Str)} {P : List Int} (g : Good As Ls P)
include g
theorem Good.kind (hB : SrtA As Bs) {p : Int} (hp : p ∈ P) : ∃ z, (["leaf", "mixing", "split"] : List Str)[(downsOf Bs p).length]? = some z := by
  rw [downs_len g hB]
  rcases g.deg p hp with ⟨_, h1, h2⟩ | ⟨_, ⟨h1, h2⟩ | ⟨h1, h2⟩⟩ <;> rw [h1] <;> exact ⟨_, rfl⟩
theorem Good.leafy (hB : SrtA As Bs) {p : Int} (hp : p ∈ P) : p ∈ Ls.map (·.1) ↔ downsOf Bs p = [] := by
  rw [← List.length_eq_zero_iff, downs_len g hB]
  rcases g.deg p hp with ⟨h, h1, h2⟩ | ⟨h, ⟨h1, h2⟩ | ⟨h1, h2⟩⟩
  · exact ⟨fun _ => h1, fun _ => h⟩
  · exact ⟨fun z => absurd z h, fun z => by omega⟩
  · exact ⟨fun z => absurd z h, fun z => by omega⟩
end
abbrev tI (p : Int × Int) : HO := .tup [.int p.1, .int p.2]
abbrev tS (p : Int × Str) : HO := .tup [.int p.1, .str p.2]
/-- a net of the program beside the law's own lists, both in order -/
structure NetG (S : Av) (K : PySem.W.Frag) (H : Hp) (v : V) (o : Addr) (As : List (Int × Int)) (Ls : List (Int × Str)) (P : List Int) : Prop where
  good : Good As Ls P
  oA : SrtA As As
  oL : SrtL Ls Ls
  da : Da S H v (netD As Ls)
  net : ∃ (Ls' : List (Int × Str)) (root : Int), Ls'.Perm Ls ∧ (P.filter fun p => (upsOf As p).isEmpty) = [root] ∧ NetAt S K H o As Ls' Ls P root
theorem NetG.go {S S' : Av} {K : PySem.W.Frag} {H H' : Hp} {v : V} {o : Addr} {As : List (Int × Int)} {Ls : List (Int × Str)} {P : List Int} (h : NetG S K H v o As Ls P) (k : ∀ b u, ¬ S b → H b = some u → ¬ S' b ∧ H' b = some u) : NetG S' K H' v o As Ls P := by
  obtain ⟨Ls', root, h1, h2, h3⟩ := h.net
  exact ⟨h.good, h.oA, h.oL, h.da.go k, Ls', root, h1, h2, h3.go k⟩
theorem NetG.keep {S : Av} {s : Addr} {K : PySem.W.Frag} {H H' : Hp} {v : V} {o : Addr} {As : List (Int × Int)} {Ls : List (Int × Str)} {P : List Int} (h : NetG S K H v o As Ls P) (k : Keep s H H') (hs : S s) : NetG S K H' v o As Ls P := h.go (kgo k hs)
theorem NetG.same {S : Av} {K : PySem.W.Frag} {H H' : Hp} {v : V} {o : Addr} {As : List (Int × Int)} {Ls : List (Int × Str)} {P : List Int} (h : NetG S K H v o As Ls P) (k : Same H H') : NetG S K H' v o As Ls P := h.go fun b u n e => ⟨n, k b u e⟩
theorem NetG.names {S : Av} {K : PySem.W.Frag} {H : Hp} {v : V} {o : Addr} {As : List (Int × Int)} {Ls : List (Int × Str)} {P : List Int} (h : NetG S K H v o As Ls P) : ∀ p ∈ Ls, nameL p.2.cps.toList = true := fun p hp => (h.good.nm p hp).1
/-- the names of the first leaf and of the last one exchanged -/
def swapL (Ls : List (Int × Str)) (l0 ll : Int × Str) : List (Int × Str) := (Ls.set 0 (l0.1, ll.2)).set (Ls.length - 1) (ll.1, l0.2)
section
variable {As : List (Int × Int)} {Ls : List (Int × Str)} {P : List Int} {l0 ll : Int × Str}
theorem Good.names {Ms : List (Int × Str)} (g : Good As Ls P) (h1 : Ms.map (·.1) = Ls.map (·.1)) (h2 : (Ms.map (·.2)).Perm (Ls.map (·.2))) : Good As Ms P :=
  ⟨h1 ▸ g.asc, g.p64, g.rng, g.a46, g.nd, by
    have := congrArg List.length h1
    rw [List.length_map, List.length_map] at this
    rw [this]
    exact g.l12, h1 ▸ g.lp, h2.nodup_iff.mpr g.ln, fun l hl => by
    obtain ⟨m, hm, e⟩ := List.mem_map.mp (h2.mem_iff.mp (List.mem_map_of_mem hl))
    rw [← e]
    exact g.nm m hm, g.rank, h1 ▸ g.deg, g.root, g.mix⟩
end
section
variable {S : Av} {H : Hp} {LC T0 T1 : Addr} {ys : List V} {Ls : List (Int × Str)} {l0 ll : Int × Str}
end
end Lg

/-! Moments: list.count of ints; which moments fit. -/
namespace Lg
open PySem PySem.Spec PyProof.Rows L2
def rCountI (K : PySem.W.Frag) : V → List V → Hp → VK → Prop := fun x xs H Q => ∃ (a : Addr) (ns : List Int) (k : Int), x = V.ref a ∧ xs = [.int k] ∧ SqL K H a (ns.map V.int) ∧ Q (.int (ns.count k : Nat)) H
mutual
theorem Da.off {S : Av} {H : Hp} {D : Addr} {o : Obj} {u : HO} (e : H D = some (.frz o u)) : ∀ {v : V} {d : PyData}, Da S H v d → Da (addA S D) H v d
  | _, _, .non => .non
  | _, _, .bl b => .bl b
  | _, _, .int i => .int i
  | _, _, .str x => .str x
  | _, _, .lst n e2 r => .lst (fun z => z.elim n fun z => by rw [z, e] at e2; cases e2) e2 (DaAll.off e r)
  | _, _, .tup n e2 r => .tup (fun z => z.elim n fun z => by rw [z, e] at e2; cases e2) e2 (DaAll.off e r)
theorem DaAll.off {S : Av} {H : Hp} {D : Addr} {o : Obj} {u : HO} (e : H D = some (.frz o u)) : ∀ {vs : List V} {ds : List PyData}, DaAll S H vs ds → DaAll (addA S D) H vs ds
  | _, _, .nil => .nil
  | _, _, .cons h r => .cons (Da.off e h) (DaAll.off e r)
end
def wholeD' : PyData → Bool
  | .int _ => true
  | _ => false
def timedD : PyData → Bool
  | .tuple [a, b] => wholeD' a && wholeD' b
  | _ => false
def backB (Bs : List (Int × Int)) (f : Int → Int) (b : Int × Int) : Bool := decide (f b.2 < f b.1) || (decide (f b.1 = f b.2) && !((upsOf Bs b.2).length == 2))
def giftB (Bs : List (Int × Int)) (f : Int → Int) (p : Int) : Bool := (upsOf Bs p).length == 2 && !((((upsOf Bs p).map f).count (f p)) == 1)
def lateB (Bs : List (Int × Int)) (f : Int → Int) (p : Int) : Bool := !(downsOf Bs p).isEmpty && (downsOf Bs p).all fun c => decide (f c ≤ f p)
def mfinds (P : List Int) (Bs : List (Int × Int)) (f : Int → Int) : List (Str × List PyData) :=
  [("back", (Bs.filter (backB Bs f)).map pd), ("gift", (P.filter (giftB Bs f)).map PyData.int), ("late", (P.filter (lateB Bs f)).map PyData.int)]
/-- the first fault of the moments, as a value -/
def mfD (P : List Int) (Bs : List (Int × Int)) (f : Int → Int) : PyData := match firstF (mfinds P Bs f) with
  | none => .none
  | some (w, d) => .tuple [.str w, d]
structure Fits (P : List Int) (Bs : List (Int × Int)) (f : Int → Int) : Prop where
  back : ∀ b ∈ Bs, backB Bs f b = false
  gift : ∀ p ∈ P, giftB Bs f p = false
  late : ∀ p ∈ P, lateB Bs f p = false
section
variable {P : List Int} {Bs : List (Int × Int)} {f : Int → Int}
end
end Lg

/-! The names and the times that are drawn for the laws of moments. -/
namespace Lg
open PySem PySem.Spec PyProof.Rows L2
def alphaS : Str := "abcdefghijklmnopqrstuvwxyz"
def cnS (st : Str) (sh k : Int) : Str := st ++ (⟨#[alphaS.cps.toList.getD ((5 * k + sh) % 26).toNat 0]⟩ : Str) ++ cutS ("0z9a1" : Str) none (some ((3 * k + sh) % 6))
def cnOk (st : Str) (sh : Int) : Bool := decide (((List.range 12).map fun k : Nat => (cnS st sh k).cps.toList).Nodup) && (List.range 12).all fun k : Nat => nameL (cnS st sh k).cps.toList && decide ((cnS st sh k).length ≤ 8) && decide (0 < (cnS st sh k).length)
theorem gn_h {i : Nat} {x : V} {u : L2.St → Hp → Prop} {σ σ' : L2.St} {H : Hp} (e : σ.set i (some x) = σ') (h : u σ' H) : gName i x σ H u := by
  subst e
  exact h
def intF : PyData → Int
  | .int i => i
  | _ => 0
theorem Greedy.perm {up : Int → List Int} {left L : List Int} (h : Greedy up left L) : L.Perm left := by
  induction h with
  | nil => exact .nil
  | cons hp _ _ _ ih => exact (ih.cons _).trans (List.perm_cons_erase hp).symm
end Lg

/-! The nets with times that the law of moments draws, grown from the root. -/
namespace Lg
open PySem PySem.Spec PyProof.Rows L2
def ind (a b : Int) : Nat := if a = b then 1 else 0
theorem ind_or (a b : Int) : (a = b ∧ ind a b = 1) ∨ (a ≠ b ∧ ind a b = 0) := by
  unfold ind
  by_cases h : a = b
  · exact .inl ⟨h, if_pos h⟩
  · exact .inr ⟨h, if_neg h⟩
theorem ind_ne {a b : Int} (h : a ≠ b) : ind a b = 0 := if_neg h
theorem ind_self (a : Int) : ind a a = 1 := if_pos rfl
theorem upN_snoc (As : List (Int × Int)) (u v p : Int) : upN (As ++ [(u, v)]) p = upN As p + ind v p := by
  unfold upN ind
  by_cases h : v = p <;> simp [List.countP_append, List.countP_cons, h]
theorem dnN_snoc (As : List (Int × Int)) (u v p : Int) : dnN (As ++ [(u, v)]) p = dnN As p + ind u p := by
  unfold dnN ind
  by_cases h : u = p <;> simp [List.countP_append, List.countP_cons, h]
def rgI (N : Nat) : List Int := (List.range N).map fun k : Nat => (k : Int)
theorem mem_rgI {N : Nat} {p : Int} : p ∈ rgI N ↔ 0 ≤ p ∧ p < N := by
  unfold rgI
  rw [List.mem_map]
  constructor
  · rintro ⟨k, hk, rfl⟩
    have := List.mem_range.mp hk
    omega
  · rintro ⟨h0, h1⟩
    exact ⟨p.toNat, List.mem_range.mpr (by omega), by omega⟩
theorem rgI_succ (N : Nat) : rgI (N + 1) = rgI N ++ [(N : Int)] := by
  unfold rgI
  rw [List.range_succ, List.map_append]
  rfl
theorem rgI_len (N : Nat) : (rgI N).length = N := by
  unfold rgI
  rw [List.length_map, List.length_range]
theorem rgI_pw (N : Nat) : (rgI N).Pairwise (· < ·) := List.pairwise_map.mpr (List.pairwise_lt_range.imp fun h => Int.ofNat_lt.mpr h)
theorem rgI_nd (N : Nat) : (rgI N).Nodup := (rgI_pw N).imp Int.ne_of_lt
def gfN (As : List (Int × Int)) (f : Int → Int) (p : Int) : Nat := As.countP fun a => a.2 == p && f a.1 == f p
theorem gfN_snoc (As : List (Int × Int)) (f : Int → Int) (u v p : Int) : gfN (As ++ [(u, v)]) f p = gfN As f p + if v = p ∧ f u = f p then 1 else 0 := by
  unfold gfN
  by_cases h : v = p <;> by_cases h2 : f u = f p <;> simp [List.countP_append, List.countP_cons, h, h2]
theorem gfN_congr {As : List (Int × Int)} {f f' : Int → Int} {p : Int} (h : ∀ a ∈ As, f' a.1 = f a.1) (hp : f' p = f p) : gfN As f' p = gfN As f p := by
  refine List.countP_congr fun a ha => ?_
  show (a.2 == p && f' a.1 == f' p) = true ↔ (a.2 == p && f a.1 == f p) = true
  rw [h a ha, hp]
structure Grow (c : Int → Nat) (As : List (Int × Int)) (Ls : List (Int × Str)) (N : Nat) (f : Int → Int) (k : Nat) : Prop where
  pos : 1 ≤ N
  rng : ∀ x : Int, 0 < c x → 0 ≤ x ∧ x < (N : Int)
  arr : ∀ a ∈ As, 0 ≤ a.1 ∧ a.1 < a.2 ∧ a.2 < (N : Int)
  nd : As.Nodup
  leaf : ∀ l ∈ Ls, 0 ≤ l.1 ∧ l.1 < (N : Int)
  lnd : (Ls.map (·.1)).Nodup
  deg : ∀ p : Int, 0 ≤ p → p < (N : Int) → (p ∈ Ls.map (·.1) ∧ upN As p ≤ 1 ∧ dnN As p + c p = 0) ∨ (p ∉ Ls.map (·.1) ∧ ((upN As p ≤ 1 ∧ dnN As p + c p = 2) ∨ (upN As p = 2 ∧ dnN As p + c p = 1)))
  root : ∀ p : Int, 0 ≤ p → p < (N : Int) → (upN As p = 0 ↔ p = 0)
  back : ∀ a ∈ As, f a.1 < f a.2 ∨ (f a.1 = f a.2 ∧ upN As a.2 = 2)
  gift : ∀ p, upN As p = 2 → gfN As f p = 1
  late : ∀ p : Int, 0 ≤ p → p < (N : Int) → p ∈ Ls.map (·.1) ∨ 0 < c p ∨ ∃ a ∈ As, a.1 = p ∧ f p < f a.2
  mix : ((rgI N).filter fun p => upN As p == 2).length = k
section
variable {c c' : Int → Nat} {As : List (Int × Int)} {Ls Ls' : List (Int × Str)} {N : Nat} {f f' : Int → Int} {k : Nat}
theorem Grow.up0 (g : Grow c As Ls N f k) {p : Int} (h : (N : Int) ≤ p) : upN As p = 0 := List.countP_eq_zero.mpr fun a ha e => by
  have h1 := (g.arr a ha).2.2
  have h2 : a.2 = p := by simpa using e
  omega
theorem Grow.dn0 (g : Grow c As Ls N f k) {p : Int} (h : (N : Int) ≤ p) : dnN As p = 0 := List.countP_eq_zero.mpr fun a ha e => by
  have h1 := g.arr a ha
  have h2 : a.1 = p := by simpa using e
  omega
theorem Grow.c0 (g : Grow c As Ls N f k) {p : Int} (h : (N : Int) ≤ p) : c p = 0 := Nat.eq_zero_of_not_pos fun z => by
  have := g.rng p z
  omega
theorem Grow.start : Grow (fun p => 2 * ind 0 p) [] [] 1 f 0 where
  pos := Nat.le_refl _
  rng x hx := by
    have hx : 0 < 2 * ind 0 x := hx
    rcases ind_or 0 x with ⟨h, e⟩ | ⟨h, e⟩
    · omega
    · rw [e] at hx
      omega
  arr a h := by cases h
  nd := .nil
  leaf a h := by cases h
  lnd := .nil
  deg p h0 h1 := by
    have : p = 0 := by omega
    subst this
    exact .inr ⟨by simp, .inl ⟨Nat.zero_le _, by show 0 + 2 * ind 0 0 = 2; rw [ind_self]⟩⟩
  root p h0 h1 := ⟨fun _ => by omega, fun _ => rfl⟩
  back a h := by cases h
  gift p h := by
    have h : (0 : Nat) = 2 := h
    omega
  late p h0 h1 := by
    have : p = 0 := by omega
    subst this
    exact .inr (.inl (by show 0 < 2 * ind 0 0; rw [ind_self]; omega))
  mix := rfl
theorem Grow.one {z : Str} : Grow (fun _ => 0) [] [(0, z)] 1 f 0 where
  pos := Nat.le_refl _
  rng x hx := absurd hx (Nat.lt_irrefl _)
  arr a h := by cases h
  nd := .nil
  leaf a h := by
    obtain rfl := List.mem_singleton.mp h
    exact ⟨Int.le_refl _, by show (0 : Int) < 1; decide⟩
  lnd := by simp
  deg p h0 h1 := by
    have : p = 0 := by omega
    subst this
    exact .inl ⟨by simp, Nat.zero_le _, rfl⟩
  root p h0 h1 := ⟨fun _ => by omega, fun _ => rfl⟩
  back a h := by cases h
  gift p h := by
    have h : (0 : Nat) = 2 := h
    omega
  late p h0 h1 := by
    have : p = 0 := by omega
    subst this
    exact .inl (by simp)
  mix := rfl
theorem Grow.add {cc : Nat} {u : Int} (g : Grow c As Ls N f k) (hu : 0 < c u) (hc : ∀ p, c' p + ind u p = c p + cc * ind N p)
    (hL : (cc = 2 ∧ Ls' = Ls) ∨ (cc = 0 ∧ ∃ z, Ls' = Ls ++ [((N : Int), z)])) (hf : ∀ p : Int, p < (N : Int) → f' p = f p) (hs : f u < f' N) :
    Grow c' (As ++ [(u, (N : Int))]) Ls' (N + 1) f' k := by
  have uN := g.rng u hu
  have hcN : c' N = cc := by
    have := hc N
    rw [g.c0 (Int.le_refl _), ind_self, ind_ne (show u ≠ (N : Int) by omega)] at this
    omega
  have hcp : ∀ p : Int, p ≠ N → c' p + ind u p = c p := fun p hp => by
    have := hc p
    rw [ind_ne (show (N : Int) ≠ p from fun e => hp e.symm)] at this
    omega
  have hup := upN_snoc As u N
  have hdn := dnN_snoc As u N
  have up0 := g.up0 (p := N) (Int.le_refl _)
  have dn0 := g.dn0 (p := N) (Int.le_refl _)
  have eN : upN (As ++ [(u, (N : Int))]) N = 1 := by rw [hup, up0, ind_self]
  have eP : ∀ p : Int, p ≠ N → upN (As ++ [(u, (N : Int))]) p = upN As p := fun p hp => by rw [hup, ind_ne fun z => hp z.symm, Nat.add_zero]
  have ha : ∀ a ∈ As, f' a.1 = f a.1 ∧ f' a.2 = f a.2 := fun a h => by
    have := g.arr a h
    exact ⟨hf _ (by omega), hf _ (by omega)⟩
  have mL : ∀ p : Int, p ≠ N → (p ∈ Ls'.map (·.1) ↔ p ∈ Ls.map (·.1)) := fun p hp => by
    rcases hL with ⟨_, rfl⟩ | ⟨_, z, rfl⟩
    · exact Iff.rfl
    · rw [List.map_append, List.mem_append]
      exact ⟨fun h => h.resolve_right fun e => hp (by simpa using e), .inl⟩
  have nL : (N : Int) ∉ Ls.map (·.1) := fun h => by
    obtain ⟨l, hl, e⟩ := List.mem_map.mp h
    have := (g.leaf l hl).2
    omega
  refine ⟨by have := g.pos; omega, fun x hx => ?_, fun a h => ?_, ?_, fun l hl => ?_, ?_, fun p h0 h1 => ?_, fun p h0 h1 => ?_, fun a h => ?_, fun p h => ?_, fun p h0 h1 => ?_, ?_⟩
  · by_cases e : x = N
    · omega
    · have h1 := hcp x e
      have h2 := g.rng x (by omega)
      omega
  · rcases List.mem_append.mp h with h | h
    · have := g.arr a h
      omega
    · obtain rfl := List.mem_singleton.mp h
      show 0 ≤ u ∧ u < (N : Int) ∧ (N : Int) < ((N + 1 : Nat) : Int)
      omega
  · refine List.nodup_append.mpr ⟨g.nd, by simp, fun a h b hb e => ?_⟩
    have h2 := (g.arr a h).2.2
    rw [e, List.mem_singleton.mp hb] at h2
    exact absurd h2 (Int.lt_irrefl _)
  · rcases hL with ⟨_, rfl⟩ | ⟨_, z, rfl⟩
    · have := g.leaf l hl
      omega
    · rcases List.mem_append.mp hl with h | h
      · have := g.leaf l h
        omega
      · obtain rfl := List.mem_singleton.mp h
        show 0 ≤ (N : Int) ∧ (N : Int) < ((N + 1 : Nat) : Int)
        omega
  · rcases hL with ⟨_, rfl⟩ | ⟨_, z, rfl⟩
    · exact g.lnd
    · rw [List.map_append]
      refine List.nodup_append.mpr ⟨g.lnd, by simp, fun a h b hb e => ?_⟩
      have hb' : b = (N : Int) := by simpa using hb
      exact nL (by rw [← hb', ← e]; exact h)
  · by_cases e : p = N
    · have e2 := hdn N
      rw [dn0, ind_ne (show u ≠ (N : Int) by omega)] at e2
      rw [e, eN, e2, hcN]
      rcases hL with ⟨h, rfl⟩ | ⟨h, z, rfl⟩
      · exact .inr ⟨nL, .inl ⟨by omega, by omega⟩⟩
      · exact .inl ⟨by simp, by omega, by omega⟩
    · have e2 := hdn p
      have e3 := hcp p e
      rw [eP p e, e2]
      rcases g.deg p h0 (by omega) with ⟨h, d⟩ | ⟨h, d⟩
      · exact .inl ⟨(mL p e).mpr h, by omega, by omega⟩
      · exact .inr ⟨fun z => h ((mL p e).mp z), by omega⟩
  · by_cases e : p = N
    · rw [e, eN]
      have := g.pos
      omega
    · rw [eP p e]
      exact g.root p h0 (by omega)
  · rcases List.mem_append.mp h with h | h
    · have h1 := g.arr a h
      rw [(ha a h).1, (ha a h).2, eP a.2 (by omega)]
      exact g.back a h
    · obtain rfl := List.mem_singleton.mp h
      refine .inl ?_
      show f' u < f' N
      rw [hf u uN.2]
      exact hs
  · have e : p ≠ N := fun e => by
      rw [e, eN] at h
      omega
    rw [eP p e] at h
    have hp : p < N := Int.not_le.mp fun z => by
      rw [g.up0 z] at h
      omega
    rw [gfN_snoc, gfN_congr (fun a h => (ha a h).1) (hf p hp), g.gift p h, if_neg (fun z => e z.1.symm)]
  · by_cases e : p = N
    · rcases hL with ⟨h, rfl⟩ | ⟨h, z, rfl⟩
      · exact .inr (.inl (by rw [e, hcN]; omega))
      · exact .inl (by rw [e]; simp)
    · have e3 := hcp p e
      by_cases eu : p = u
      · refine .inr (.inr ⟨(u, (N : Int)), List.mem_append_right _ List.mem_cons_self, eu.symm, ?_⟩)
        rw [eu, hf u uN.2]
        exact hs
      · rw [ind_ne (fun z => eu z.symm)] at e3
        rcases g.late p h0 (by omega) with h | h | ⟨a, h, h2, h3⟩
        · exact .inl ((mL p e).mpr h)
        · exact .inr (.inl (by omega))
        · exact .inr (.inr ⟨a, List.mem_append_left _ h, h2, by rw [hf p (by omega), (ha a h).2]; exact h3⟩)
  · have h2 : (rgI N).filter (fun p => upN (As ++ [(u, (N : Int))]) p == 2) = (rgI N).filter fun p => upN As p == 2 := List.filter_congr fun p hp => by
      have := mem_rgI.mp hp
      rw [eP p (by omega)]
    have h3 : [(N : Int)].filter (fun p => upN (As ++ [(u, (N : Int))]) p == 2) = [] := by
      rw [List.filter_cons_of_neg (by rw [eN]; decide)]
      rfl
    rw [rgI_succ, List.filter_append, h2, h3, List.append_nil]
    exact g.mix
/-- times that fit, told of arrows in any order -/
structure FitsC (P : List Int) (As : List (Int × Int)) (f : Int → Int) : Prop where
  back : ∀ a ∈ As, f a.1 < f a.2 ∨ (f a.1 = f a.2 ∧ upN As a.2 = 2)
  gift : ∀ p ∈ P, upN As p = 2 → gfN As f p = 1
  late : ∀ p ∈ P, dnN As p = 0 ∨ ∃ a ∈ As, a.1 = p ∧ f p < f a.2
theorem Grow.good (g : Grow c As Ls N f k) (c0 : ∀ p, c p = 0) (hk : k ≤ 8) (ha : As.length ≤ 46) (hl : 1 ≤ Ls.length ∧ Ls.length ≤ 12) (hN : N < 64) (hln : (Ls.map (·.2)).Nodup) (hnm : ∀ l ∈ Ls, nameL l.2.cps.toList = true ∧ l.2.length ≤ 8) : Good As Ls (rgI N) where
  asc := ⟨rgI_pw N, fun p => ⟨fun h => by
    obtain ⟨h0, h1⟩ := mem_rgI.mp h
    rcases g.deg p h0 h1 with ⟨h, _⟩ | ⟨_, d⟩
    · exact List.mem_append_right _ h
    · have h2 := c0 p
      have h3 : 0 < dnN As p := by omega
      obtain ⟨a, ha, e⟩ := List.countP_pos_iff.mp h3
      refine List.mem_append_left _ (List.mem_flatMap.mpr ⟨a, ha, ?_⟩)
      have e : a.1 = p := by simpa using e
      rw [← e]
      simp, fun h => by
    rcases List.mem_append.mp h with h | h
    · obtain ⟨a, ha, hk⟩ := List.mem_flatMap.mp h
      have := g.arr a ha
      simp only [List.mem_cons, List.not_mem_nil, or_false] at hk
      rcases hk with rfl | rfl <;> exact mem_rgI.mpr (by omega)
    · obtain ⟨l, hl, rfl⟩ := List.mem_map.mp h
      exact mem_rgI.mpr (g.leaf l hl)⟩⟩
  p64 := by rw [rgI_len]; exact hN
  rng p h := by
    have := mem_rgI.mp h
    omega
  a46 := ha
  nd := g.nd
  l12 := hl
  lp := g.lnd
  ln := hln
  nm := hnm
  rank := ⟨Int.toNat, fun a h => by
    have := g.arr a h
    omega⟩
  deg p h := by
    obtain ⟨h0, h1⟩ := mem_rgI.mp h
    have c1 := c0 p
    rcases g.deg p h0 h1 with ⟨h, d1, d2⟩ | ⟨h, d⟩
    · exact .inl ⟨h, by omega, d1⟩
    · exact .inr ⟨h, by omega⟩
  root := ⟨0, mem_rgI.mpr (by have := g.pos; omega), fun p h => by
    obtain ⟨h0, h1⟩ := mem_rgI.mp h
    exact g.root p h0 h1⟩
  mix := by rw [g.mix]; exact hk
end
theorem upsOf_up {Bs As : List (Int × Int)} (hB : Bs.Perm As) (p : Int) : (upsOf Bs p).length = upN As p := by
  unfold upsOf upN
  rw [List.length_map, ← List.countP_eq_length_filter]
  exact hB.countP_eq _
theorem downsOf_dn {Bs As : List (Int × Int)} (hB : Bs.Perm As) (p : Int) : (downsOf Bs p).length = dnN As p := by
  unfold downsOf dnN
  rw [List.length_map, ← List.countP_eq_length_filter]
  exact hB.countP_eq _
theorem cnt_ups {Bs As : List (Int × Int)} (hB : Bs.Perm As) (f : Int → Int) (p : Int) : ((upsOf Bs p).map f).count (f p) = gfN As f p := by
  unfold upsOf gfN
  rw [List.map_map, List.count, List.countP_map, List.countP_filter, ← hB.countP_eq]
  refine List.countP_congr fun a _ => ?_
  simp [and_comm]
theorem FitsC.fits {P : List Int} {As Bs : List (Int × Int)} {f : Int → Int} (h : FitsC P As f) (hB : Bs.Perm As) : Fits P Bs f where
  back b hb := by
    unfold backB
    rw [upsOf_up hB]
    rcases h.back b (hB.mem_iff.mp hb) with h | ⟨h, e⟩
    · rw [decide_eq_false (by omega), decide_eq_false (by omega)]
      rfl
    · rw [decide_eq_false (by omega), e]
      simp
  gift p hp := by
    unfold giftB
    rw [upsOf_up hB, cnt_ups hB]
    by_cases e : upN As p = 2
    · rw [h.gift p hp e, e]
      rfl
    · rw [beq_eq_false_iff_ne.mpr e]
      rfl
  late p hp := by
    unfold lateB
    rcases h.late p hp with h | ⟨a, ha, e, h2⟩
    · have : downsOf Bs p = [] := List.length_eq_zero_iff.mp ((downsOf_dn hB p).trans h)
      rw [this]
      rfl
    · rw [Bool.and_eq_false_iff]
      refine .inr (List.all_eq_false.mpr ⟨a.2, mem_downs.mpr (hB.mem_iff.mpr (by rw [← e]; exact ha)), ?_⟩)
      rw [decide_eq_true_iff]
      omega
theorem FitsC.renamed {P P' : List Int} {As As' : List (Int × Int)} {f f' g : Int → Int} (h : FitsC P As f) (he : ∀ a ∈ As, a.1 ∈ P ∧ a.2 ∈ P) (inj : ∀ p ∈ P, ∀ q ∈ P, g p = g q → p = q) (hf : ∀ p ∈ P, f' (g p) = f p)
    (hp : As'.Perm (As.map fun a => (g a.1, g a.2))) (hP : ∀ k, k ∈ P' ↔ ∃ p ∈ P, g p = k) : FitsC P' As' f' := by
  have hm : ∀ a, a ∈ As' ↔ ∃ b ∈ As, (g b.1, g b.2) = a := fun a => by rw [hp.mem_iff, List.mem_map]
  have up : ∀ p ∈ P, upN As' (g p) = upN As p := fun p hpP => by
    unfold upN
    rw [hp.countP_eq, List.countP_map]
    refine List.countP_congr fun a ha => ?_
    show (g a.2 == g p) = true ↔ (a.2 == p) = true
    rw [beq_iff_eq, beq_iff_eq]
    exact ⟨fun e => inj _ (he a ha).2 _ hpP e, fun e => by rw [e]⟩
  have dn : ∀ p ∈ P, dnN As' (g p) = dnN As p := fun p hpP => by
    unfold dnN
    rw [hp.countP_eq, List.countP_map]
    refine List.countP_congr fun a ha => ?_
    show (g a.1 == g p) = true ↔ (a.1 == p) = true
    rw [beq_iff_eq, beq_iff_eq]
    exact ⟨fun e => inj _ (he a ha).1 _ hpP e, fun e => by rw [e]⟩
  have gf : ∀ p ∈ P, gfN As' f' (g p) = gfN As f p := fun p hpP => by
    unfold gfN
    rw [hp.countP_eq, List.countP_map]
    refine List.countP_congr fun a ha => ?_
    show (g a.2 == g p && f' (g a.1) == f' (g p)) = true ↔ (a.2 == p && f a.1 == f p) = true
    rw [hf _ (he a ha).1, hf p hpP, Bool.and_eq_true, Bool.and_eq_true, beq_iff_eq (a := g a.2), beq_iff_eq (a := a.2)]
    exact and_congr_left fun _ => ⟨fun e => inj _ (he a ha).2 _ hpP e, fun e => by rw [e]⟩
  refine ⟨fun a ha => ?_, fun q hq e => ?_, fun q hq => ?_⟩
  · obtain ⟨b, hb, rfl⟩ := (hm a).mp ha
    show f' (g b.1) < f' (g b.2) ∨ (f' (g b.1) = f' (g b.2) ∧ upN As' (g b.2) = 2)
    rw [hf _ (he b hb).1, hf _ (he b hb).2, up _ (he b hb).2]
    exact h.back b hb
  · obtain ⟨p, hpP, rfl⟩ := (hP q).mp hq
    rw [up p hpP] at e
    rw [gf p hpP]
    exact h.gift p hpP e
  · obtain ⟨p, hpP, rfl⟩ := (hP q).mp hq
    rcases h.late p hpP with e | ⟨a, ha, e, e2⟩
    · exact .inl (by rw [dn p hpP]; exact e)
    · refine .inr ⟨(g a.1, g a.2), (hm _).mpr ⟨a, ha, rfl⟩, by show g a.1 = g p; rw [e], ?_⟩
      show f' (g p) < f' (g a.2)
      rw [hf p hpP, hf _ (he a ha).2]
      exact e2
theorem pd_ne {S : Av} {H : Hp} {l : Addr} {o : HO} (hl : ∀ xs, H l ≠ some (.tup xs)) : ∀ {ys : List V} {As : List (Int × Int)}, DaAll S H ys (As.map pd) → DaAll S (upd H l o) ys (As.map pd)
  | [], [], _ => .nil
  | _ :: _, _ :: _, .cons h r => by
    refine .cons ?_ (pd_ne hl r)
    obtain ⟨t, rfl, nt, et⟩ := Da.pd h
    exact da_ofpd nt (by rw [upd_ne (fun z => hl _ (z ▸ et))]; exact et)
theorem ld_ne {S : Av} {H : Hp} {l : Addr} {o : HO} (hl : ∀ xs, H l ≠ some (.tup xs)) : ∀ {ys : List V} {As : List (Int × Str)}, DaAll S H ys (As.map ld) → DaAll S (upd H l o) ys (As.map ld)
  | [], [], _ => .nil
  | _ :: _, _ :: _, .cons h r => by
    refine .cons ?_ (ld_ne hl r)
    obtain ⟨t, rfl, nt, et⟩ := Da.ld h
    exact da_ofld nt (by rw [upd_ne (fun z => hl _ (z ▸ et))]; exact et)
theorem FitsC.perm {P : List Int} {As Bs : List (Int × Int)} {f : Int → Int} (h : FitsC P As f) (hB : Bs.Perm As) : FitsC P Bs f where
  back a ha := by
    have := h.back a (hB.mem_iff.mp ha)
    unfold upN at this ⊢
    rw [hB.countP_eq]
    exact this
  gift p hp e := by
    have := h.gift p hp (by unfold upN at e ⊢; rw [← hB.countP_eq]; exact e)
    unfold gfN at this ⊢
    rw [hB.countP_eq]
    exact this
  late p hp := by
    rcases h.late p hp with e | ⟨a, ha, e⟩
    · exact .inl (by unfold dnN at e ⊢; rw [hB.countP_eq]; exact e)
    · exact .inr ⟨a, hB.mem_iff.mpr ha, e⟩
end Lg

/-! Papers of moments of any form. -/
namespace Lg
open PySem PySem.Spec PyProof.Rows L2
/-- whether a value is a paper of moments of the places -/
def hfB (P : List Int) : PyData → Bool
  | .list ds => ds.all timedD && decide ((asOf ds).map (·.1) = P)
  | _ => false
abbrev formD : PyData := .tuple [.str "form", .none]
end Lg

/-! Own errors with fields: made, raised, caught, looked at, passed on. -/
namespace Lg
open PySem PySem.Spec PyProof.Rows L2

/-! ### the class -/
/-- what the head says of an own error's class -/
structure ExF (K : PySem.W.Frag) (C : Addr) (fs : List Str) : Prop where
  oex : OexC K C
  xf : XfC K C
  cl : (PySem.W.clsIn K C).isSome = true
  ha : PySem.W.findIn K (.ref C) "__class__" = some (some (.builtin "object.__class__"))
  hn : PySem.W.specialIn K (.builtin "object.__class__") "__get__" = some (some (.builtin "getset_descriptor.__get__"))
  ht : PySem.W.takesIn K (.builtin "object.__class__") = some true
  hm : PySem.W.mroIn K C (.type "object") = some true
  ini : PySem.W.findIn K (.ref C) "__init__" = some (some (.ref (He.ma K C "__init__")))
  tyI : PySem.W.typeIn K (.ref (He.ma K C "__init__")) = some (.type "function")
  no : ∀ f ∈ fs, PySem.W.findIn K (.ref C) f = some none
/-! ### a caught error, tracked -/
abbrev exE (a : Addr) (cls : Value) (d : Option Addr) : HO := .ext fun h => ∃ oe, h.get? a = some oe ∧ Zc cls d oe ∧ ∃ vs, oe.data = .fields vs
section
variable {X : Cx} {pins : List (Addr × Obj)} {σ : L2.St} {H : Hp} {s : Shared}
end
/-- e.f, e an own error that was caught -/
def tXfT (K : PySem.W.Frag) (f : Str) (te : TE) : TE := fun σ H Q => te σ H fun x H1 => ∃ (a C dd : Addr) (fs : List (Str × V)) (v : V) (ns : List Str), x = .ref a ∧ H1 a = some (exE a (.ref C) (some dd)) ∧ H1 dd = some (.xd fs) ∧ ExF K C ns ∧ f ∈ ns ∧ fs.lookup f = some v ∧ Q v H1
/-- isinstance(e, c), isinstance(e, (c, ..)), e an own error that was caught -/
def rIsX (K : PySem.W.Frag) : List V → Hp → VK → Prop := fun xs H Q => ∃ (a D dd : Addr) (fs : List (Str × V)) (ns : List Str) (c : V) (b : Bool), xs = [.ref a, c] ∧ H a = some (exE a (.ref D) (some dd)) ∧ H dd = some (.xd fs) ∧ ExF K D ns ∧
  ((∃ cv, ClsV c cv ∧ PySem.W.kitOne K (.ref D) cv = some b) ∨ ∃ tp cs us, c = .ref tp ∧ H tp = some (.tup cs) ∧ Paired ClsV cs us ∧ PySem.W.kitAny K (.ref D) us = some b) ∧ Q (.bl b) H
/-! ### an own error made -/
def spExc (K : PySem.W.Frag) (fs : List Str) : Sp := fun vs H Q _ => ∃ (a C : Addr) (us : List V), vs = .ref a :: us ∧ us.length = fs.length ∧ OexC K C ∧ (∀ f ∈ fs, PySem.W.findIn K (.ref C) f = some none) ∧ H a = some (exo a C none) ∧
  ∀ (d : Addr) (H' : Hp), H d = none → d ≠ a → (∀ b, b ≠ a → b ≠ d → H' b = H b) → H' a = some (exo a C (some d)) → H' d = some (exd d (fs.zip us).reverse) → Q .non H'
structure OwnE (P : Program) (w : World) (K : PySem.W.Frag) (mg : Str → Option Value) (base : Heap) (k : Nat) (x : Str) (C : Addr) (ps fs : List Str) : Prop where
  ex : ∃ i fd, i + 1 ≤ k ∧ FnOk P w K mg base CX0 i (He.ma K C "__init__") fd ps (spExc K fs) ∧ mg x = some (.ref C) ∧ ExF K C fs ∧ Binds K fd ps []
theorem OwnE.up {P : Program} {w : World} {K : PySem.W.Frag} {mg : Str → Option Value} {base : Heap} {x : Str} {C : Addr} {ps fs : List Str} {j k : Nat} (O : OwnE P w K mg base k x C ps fs) (h : k ≤ j) : OwnE P w K mg base j x C ps fs := by
  obtain ⟨i, fd, l, r⟩ := O.ex
  exact ⟨i, fd, Nat.le_trans l h, r⟩
section
variable {X : Cx} {k : Nat} {C : Addr} {x : Str} {ps fs : List Str} {e : Expr} {es : List Expr} {t : TA} {p pos pos' : Pos} {W : WX}
/-- raise C(..) -/
def tRaise (C : Addr) (K : PySem.W.Frag) (fs : List Str) (W : WX) (t : TA) : TS := fun _ σ H => tMkO C (spExc K fs) [] t σ H fun cls d H' => W cls d σ H'
end
/-! ### defs that may raise -/
/-- as one that raises nothing: nothing that it raises is let out -/
abbrev noE (sp : Sp) : Sp := fun vs H Q _ => sp vs H Q E0
theorem fnok_calm {P : Program} {w : World} {K : PySem.W.Frag} {mg : Str → Option Value} {base : Heap} {k : Nat} {f : Addr} {fd : FuncData} {ps : List Str} {sp : Sp} (F : FnOk P w K mg base (L2.CX P w) k f fd ps sp) : FnOk P w K mg base CX0 k f fd ps (noE sp) := by
  refine ⟨fun vs H Q E h => F.len vs H Q E0 h, fun A outer s H args us vs Q E hr e0 hb hv hs => codeAny_mono (F.run A outer s H args us vs Q E0 hr e0 hb hv hs) fun r s' hq => ?_⟩
  cases r with
  | error e =>
    obtain ⟨_, _, _, _, _, _, _, _, _, _, _, _, z⟩ := hq
    exact z.elim
  | ok fl => cases fl <;> exact hq
structure OwnX (P : Program) (w : World) (K : PySem.W.Frag) (mg : Str → Option Value) (base : Heap) (k : Nat) (x : Str) (ps : List Str) (sp : Sp) : Prop where
  ex : ∃ f fd, FnOk P w K mg base (L2.CX P w) k f fd ps sp ∧ mg x = some (.ref f) ∧ PySem.W.keepIn K (.ref f) = true ∧ Binds K fd ps [] ∧ KBn K fd ps 0 ps (fun _ ws => ws) (fun _ zs => zs)
section
variable {P : Program} {w : World} {K : PySem.W.Frag} {mg : Str → Option Value} {base : Heap} {k j : Nat} {x qual : Str} {st : Stmt} {f : Addr} {fd : FuncData} {ps : List Str} {sp : Sp}
theorem OwnX.up (O : OwnX P w K mg base k x ps sp) (h : k ≤ j) : OwnX P w K mg base j x ps sp := by
  obtain ⟨f, fd, F, r⟩ := O.ex
  exact ⟨f, fd, F.mono h, r⟩
theorem OwnX.calm (O : OwnX P w K mg base k x ps sp) : Own P w K mg base k x ps (noE sp) := by
  obtain ⟨f, fd, F, r⟩ := O.ex
  exact ⟨f, fd, fnok_calm F, r⟩
theorem OwnX.mk' (F : Fun K x qual st f fd) (ok : FnOk P w K mg base (L2.CX P w) k f fd ps sp) (g : mg x = some (.ref f)) (b : Binds K fd ps []) (kb : KBn K fd ps 0 ps (fun _ ws => ws) (fun _ zs => zs)) : OwnX P w K mg base k x ps sp := ⟨f, fd, ok, g, F.kp, b, kb⟩
end
section
variable {X : Cx} {k : Nat} {x : Str} {ps : List Str} {sp : Sp} {e : Expr} {es : List Expr} {t : TA} {p pos : Pos} {W : WX}
end

/-! ### try: .. except C: .. except D as n: .. -/
def endI (i : Nat) (D : Ends) : Ends := { nx := fun σ' H' => D.nx (σ'.set i none) H', rt := D.rt, bk := fun σ' H' => D.bk (σ'.set i none) H', ct := fun σ' H' => D.ct (σ'.set i none) H' }
def wMix (K : PySem.W.Frag) (Wout : WX) (D : Ends) : List (Value × Option Nat × TS) → WX
  | [] => Wout
  | (c, none, ts) :: r => fun cls d σ H => ∃ b, PySem.W.exmOne K cls c = some b ∧ (b = true → ∀ a, H a = none → ts D σ (upd H a (exE a cls d))) ∧ (b = false → wMix K Wout D r cls d σ H)
  | (c, some i, ts) :: r => fun cls d σ H => ∃ b, PySem.W.exmOne K cls c = some b ∧ (b = true → ∀ a, H a = none → ts (endI i D) (σ.set i (some (.ref a))) (upd H a (exE a cls d))) ∧ (b = false → wMix K Wout D r cls d σ H)
inductive HdsM (X : Cx) : List ExceptHandler → List (Value × Option Nat × TS) → Prop
  | nil : HdsM X [] []
  | one {x : Str} {c : Value} {ts : TS} {b₀ : Stmt} {suite : List Stmt} {np pos' : Pos} {hds : List ExceptHandler} {l : List (Value × Option Nat × TS)} (hc : Names X x c) (hsu : ∀ (a : Addr) (pn : List (Addr × Obj)), PSs (X.suite a pn) (b₀ :: suite) ts) (r : HdsM X hds l) :
      HdsM X (.ExceptHandler (some (.Name x np)) none (b₀ :: suite) pos' :: hds) ((c, none, ts) :: l)
  | as_ {x n : Str} {c : Value} {i : Nat} {ts : TS} {b₀ : Stmt} {suite : List Stmt} {np pos' : Pos} {hds : List ExceptHandler} {l : List (Value × Option Nat × TS)} (hi : X.N[i]? = some n) (hln : X.env.kindOf n = some .local) (hc : Names X x c) (hsu : ∀ (a : Addr) (pn : List (Addr × Obj)), PSs (X.suite a pn) (b₀ :: suite) ts) (r : HdsM X hds l) :
      HdsM X (.ExceptHandler (some (.Name x np)) (some n) (b₀ :: suite) pos' :: hds) ((c, some i, ts) :: l)
section
variable {X : Cx} {body : List Stmt} {h₀ : ExceptHandler} {hds : List ExceptHandler} {l : List (Value × Option Nat × TS)} {pos : Pos} {tb : WX → TS} {Wout : WX}
/-- the body a call alone -/
def tTryC (K : PySem.W.Frag) (sp : Sp) (Wout : WX) (l : List (Value × Option Nat × TS)) (t : TA) : TS := fun D σ H => t σ H fun vs H1 => sp vs H1 (fun _ H2 => D.nx σ H2) fun cls d H2 => wMix K Wout D l cls d σ H2
/-- the body a returned call alone -/
def tTryR (K : PySem.W.Frag) (sp : Sp) (Wout : WX) (l : List (Value × Option Nat × TS)) (t : TA) : TS := fun D σ H => t σ H fun vs H1 => sp vs H1 D.rt fun cls d H2 => wMix K Wout D l cls d σ H2
end
end Lg

/-! sorted of triples of ints; ranks; what a walk over a dict's keys lists. -/
namespace Lg
open PySem PySem.Spec PyProof.Rows L2
abbrev I3 := Int × Int × Int
def lexT (p q : I3) : Bool := if p.1 = q.1 then (if p.2.1 = q.2.1 then decide (p.2.2 < q.2.2) else decide (p.2.1 < q.2.1)) else decide (p.1 < q.1)
/-- v is a triple of ints -/
def IsT3 (h : Heap) (v : Value) (x : I3) : Prop := ∃ a o t u r n, v = .ref a ∧ h.get? a = some o ∧ o.cls = .type "tuple" ∧ o.data = .seq #[.int x.1 t, .int x.2.1 u, .int x.2.2 r] n
theorem IsT3.keeps {h h' : Heap} {v : Value} {x : I3} (p : IsT3 h v x) (k : ∀ b o, h.get? b = some o → o.cls = .type "tuple" → h'.get? b = some o) : IsT3 h' v x :=
  let ⟨a, o, t, u, r, n, e, ho, hc, hd⟩ := p
  ⟨a, o, t, u, r, n, e, k _ _ ho hc, hc, hd⟩
section
variable {prog : Program} {w : World} {A : Around} {s : Shared}
end
section
variable {X : Cx}
abbrev ltT (k : V → I3) (x y : V) : Bool := lexT (k x) (k y)
/-- sorted(xs) of triples of ints: a new list, sorted -/
def rSortedT3 (K : PySem.W.Frag) : List V → Hp → VK → Prop := fun vs H Q => ∃ (a : Addr) (xs : List V) (k : V → I3), vs = [V.ref a] ∧ SqL K H a xs ∧
  (∀ x ∈ xs, ∃ t, x = V.ref t ∧ H t = some (.tup [.int (k x).1, .int (k x).2.1, .int (k x).2.2])) ∧
  ∀ ys p, SrtO.Srtd (ltT k) ys → ys.Perm xs → H p = none → Q (.ref p) (upd H p (.lst ys))
end

/-! ### ranks -/
/-- the places, the last one of each value -/
def ddf (f : Int → Int) : List Int → List Int
  | [] => []
  | a :: l => if l.any (fun b => f b == f a) = true then ddf f l else a :: ddf f l
theorem ddf_sub {f : Int → Int} : ∀ {l : List Int} {q : Int}, q ∈ ddf f l → q ∈ l
  | a :: l, q, h => by
    unfold ddf at h
    split at h
    · exact List.mem_cons_of_mem _ (ddf_sub h)
    · rcases List.mem_cons.mp h with rfl | h
      · exact List.mem_cons_self
      · exact List.mem_cons_of_mem _ (ddf_sub h)
theorem ddf_mem {f : Int → Int} : ∀ {l : List Int} {q : Int}, q ∈ l → ∃ b ∈ ddf f l, f b = f q
  | a :: l, q, h => by
    unfold ddf
    by_cases c : l.any (fun b => f b == f a) = true
    · rw [if_pos c]
      rcases List.mem_cons.mp h with rfl | h
      · obtain ⟨b, hb, e⟩ := List.any_eq_true.mp c
        obtain ⟨d, hd, e2⟩ := ddf_mem (f := f) hb
        exact ⟨d, hd, e2.trans (by simpa using e)⟩
      · exact ddf_mem h
    · rw [if_neg c]
      rcases List.mem_cons.mp h with rfl | h
      · exact ⟨_, List.mem_cons_self, rfl⟩
      · obtain ⟨d, hd, e⟩ := ddf_mem (f := f) h
        exact ⟨d, List.mem_cons_of_mem _ hd, e⟩
theorem ddf_nd {f : Int → Int} : ∀ {l : List Int}, ((ddf f l).map f).Nodup
  | [] => List.nodup_nil
  | a :: l => by
    unfold ddf
    by_cases c : l.any (fun b => f b == f a) = true
    · rw [if_pos c]
      exact ddf_nd
    · rw [if_neg c, List.map_cons]
      refine List.nodup_cons.mpr ⟨fun h => c ?_, ddf_nd⟩
      obtain ⟨b, hb, e⟩ := List.mem_map.mp h
      exact List.any_eq_true.mpr ⟨b, ddf_sub hb, by simpa using e⟩
/-- how many unlike values stand below that of p -/
def rnk (P : List Int) (f : Int → Int) (p : Int) : Nat := ((ddf f P).filter fun q => decide (f q < f p)).length
theorem rnk_lt {P : List Int} {f : Int → Int} {p q : Int} (hp : p ∈ P) (h : f p < f q) : rnk P f p < rnk P f q := by
  obtain ⟨b, hb, e⟩ := ddf_mem (f := f) hp
  have nd : (ddf f P).Nodup := (List.pairwise_map.mp ddf_nd).imp fun h e => h (congrArg f e)
  have := nodup_le (L := b :: (ddf f P).filter fun z => decide (f z < f p)) (M := (ddf f P).filter fun z => decide (f z < f q)) (List.nodup_cons.mpr ⟨fun hm => by
    have h2 := of_decide_eq_true (List.mem_filter.mp hm).2
    omega, nd.filter _⟩) fun k hk => by
    rcases List.mem_cons.mp hk with rfl | hk
    · exact List.mem_filter.mpr ⟨hb, decide_eq_true (by omega)⟩
    · obtain ⟨h1, h2⟩ := List.mem_filter.mp hk
      have h2 := of_decide_eq_true h2
      exact List.mem_filter.mpr ⟨h1, decide_eq_true (by omega)⟩
  rw [List.length_cons] at this
  exact this
/-- two numberings of one order -/
def Pat (P : List Int) (f g : Int → Int) : Prop := ∀ p ∈ P, ∀ q ∈ P, f p < f q ↔ g p < g q
theorem Pat.eq {P : List Int} {f g : Int → Int} (h : Pat P f g) {p q : Int} (hp : p ∈ P) (hq : q ∈ P) : f p = f q ↔ g p = g q := by
  have h1 := h p hp q hq
  have h2 := h q hq p hp
  omega
theorem Pat.symm {P : List Int} {f g : Int → Int} (h : Pat P f g) : Pat P g f := fun p hp q hq => (h p hp q hq).symm
theorem Pat.rank {P : List Int} {f : Int → Int} : Pat P f fun p => (rnk P f p : Int) := fun p hp q hq => by
  constructor
  · intro h
    have := rnk_lt hp h
    show (rnk P f p : Int) < (rnk P f q : Int)
    omega
  · intro h
    have h : (rnk P f p : Int) < (rnk P f q : Int) := h
    rcases Int.lt_trichotomy (f p) (f q) with c | c | c
    · exact c
    · exfalso
      unfold rnk at h
      rw [c] at h
      omega
    · have := rnk_lt hq c
      omega
theorem mem_downsP {P : List Int} {Bs : List (Int × Int)} (he : ∀ b ∈ Bs, b.1 ∈ P ∧ b.2 ∈ P) {p u : Int} (h : u ∈ downsOf Bs p) : u ∈ P := (he (p, u) (mem_downs.mp h)).2
/-! ### [.. for p in d], {.. for i, m in enumerate(l)} -/
/-! ### by time, then by mothers, then by place -/
end Lg

/-! New data of a dict's keys; triples in order; papers near good ones. -/
namespace Lg
open PySem PySem.Spec PyProof.Rows L2
mutual
/-- what is neither a list nor a tuple may change -/
theorem Da.ne {S : Av} {H : Hp} {l : Addr} {o : HO} (h1 : ∀ xs, H l ≠ some (.lst xs)) (h2 : ∀ xs, H l ≠ some (.tup xs)) : ∀ {v : V} {d : PyData}, Da S H v d → Da S (upd H l o) v d
  | _, _, .non => .non
  | _, _, .bl b => .bl b
  | _, _, .int i => .int i
  | _, _, .str x => .str x
  | _, _, .lst n e r => .lst n (by rw [upd_ne (fun z => by rw [z] at e; exact h1 _ e)]; exact e) (DaAll.ne h1 h2 r)
  | _, _, .tup n e r => .tup n (by rw [upd_ne (fun z => by rw [z] at e; exact h2 _ e)]; exact e) (DaAll.ne h1 h2 r)
theorem DaAll.ne {S : Av} {H : Hp} {l : Addr} {o : HO} (h1 : ∀ xs, H l ≠ some (.lst xs)) (h2 : ∀ xs, H l ≠ some (.tup xs)) : ∀ {vs : List V} {ds : List PyData}, DaAll S H vs ds → DaAll S (upd H l o) vs ds
  | _, _, .nil => .nil
  | _, _, .cons a r => .cons (Da.ne h1 h2 a) (DaAll.ne h1 h2 r)
end
/-! ### triples as data -/
abbrev td3 (t : I3) : PyData := .tuple [.int t.1, .int t.2.1, .int t.2.2]
def tripAt (H : Hp) : V → I3
  | .ref t => match H t with
    | some (.tup [.int a, .int b, .int c]) => (a, b, c)
    | _ => (0, 0, 0)
  | _ => (0, 0, 0)
theorem Da.td3 {S : Av} {H : Hp} {v : V} {p : I3} (h : Da S H v (td3 p)) : ∃ t, v = .ref t ∧ ¬ S t ∧ H t = some (.tup [.int p.1, .int p.2.1, .int p.2.2]) := by
  cases h with
  | tup n e r =>
    cases r with
    | cons h1 r =>
    cases r with
    | cons h2 r =>
    cases r with
    | cons h3 r =>
    cases r
    rw [h1.intV, h2.intV, h3.intV] at e
    exact ⟨_, rfl, n, e⟩
theorem DaAll.td3 {S : Av} {H : Hp} {ys : List V} {M : List I3} (h : DaAll S H ys (M.map Lg.td3)) {i : Nat} {v : V} (e : ys[i]? = some v) : ∃ p t, M[i]? = some p ∧ v = .ref t ∧ ¬ S t ∧ H t = some (.tup [.int p.1, .int p.2.1, .int p.2.2]) := by
  obtain ⟨d, hd, hdy⟩ := h.get e
  rw [List.getElem?_map] at hd
  obtain ⟨p, hp, rfl⟩ := Option.map_eq_some_iff.mp hd
  obtain ⟨t, e1, e2, e3⟩ := hdy.td3
  exact ⟨p, t, hp, e1, e2, e3⟩
/-! ### a for over what an expression gives -/
end Lg

/-! Tree arrows: those whose ends have unlike moments; the one above each place; what they reach. -/
namespace Lg
open PySem PySem.Spec PyProof.Rows L2
section
variable {P : List Int} {As Bs : List (Int × Int)} {Ls Ms : List (Int × Str)} {f : Int → Int}
/-- the tree arrows -/
def TA (Bs : List (Int × Int)) (f : Int → Int) : List (Int × Int) := Bs.filter fun b => !decide (f b.1 = f b.2)
/-- the mother by the tree arrow -/
def tp (Bs : List (Int × Int)) (f : Int → Int) (p : Int) : Int := ((upsOf Bs p).filter fun u => !decide (f u = f p)).headD 0
/-- the first of the least -/
def bst (f : Int → Int) (l : List Int) : Option Int := l.foldl (fun o m => some (match o with | none => m | some b => if f m < f b then m else b)) none
structure Tops (P : List Int) (Bs : List (Int × Int)) (f : Int → Int) : Prop where
  one : ∀ p ∈ P, upsOf Bs p ≠ [] → (upsOf Bs p).filter (fun u => !decide (f u = f p)) = [tp Bs f p]
  lt : ∀ p ∈ P, upsOf Bs p ≠ [] → f (tp Bs f p) < f p
  bst : ∀ p ∈ P, upsOf Bs p ≠ [] → bst f (upsOf Bs p) = some (tp Bs f p)
  mem : ∀ p ∈ P, upsOf Bs p ≠ [] → tp Bs f p ∈ upsOf Bs p
theorem mem_TA {b : Int × Int} : b ∈ TA Bs f ↔ b ∈ Bs ∧ f b.1 ≠ f b.2 := by
  unfold TA
  rw [List.mem_filter]
  simp
theorem Tops.arrow (T : Tops P Bs f) {u p : Int} (hp : p ∈ P) : (u, p) ∈ TA Bs f ↔ upsOf Bs p ≠ [] ∧ u = tp Bs f p := by
  rw [mem_TA, ← mem_ups]
  constructor
  · rintro ⟨h1, h2⟩
    have hne : upsOf Bs p ≠ [] := fun e => by rw [e] at h1; cases h1
    refine ⟨hne, ?_⟩
    have : u ∈ (upsOf Bs p).filter (fun u => !decide (f u = f p)) := List.mem_filter.mpr ⟨h1, by simpa using h2⟩
    rw [T.one p hp hne] at this
    exact List.mem_singleton.mp this
  · rintro ⟨hne, rfl⟩
    have : tp Bs f p ∈ (upsOf Bs p).filter (fun u => !decide (f u = f p)) := by rw [T.one p hp hne]; exact List.mem_singleton.mpr rfl
    obtain ⟨h1, h2⟩ := List.mem_filter.mp this
    exact ⟨h1, by simpa using h2⟩
/-- the places below another one -/
abbrev lowP (P : List Int) (Bs : List (Int × Int)) : List Int := P.filter fun p => !(upsOf Bs p).isEmpty
theorem mem_low {p : Int} : p ∈ lowP P Bs ↔ p ∈ P ∧ upsOf Bs p ≠ [] := by
  rw [List.mem_filter]
  cases h : upsOf Bs p <;> simp
theorem srtA_sub {Cs : List (Int × Int)} (hB : SrtA As Bs) (p : Int × Int → Bool) (e : (Bs.filter p).Perm Cs) : SrtA Cs (Bs.filter p) := ⟨e, hB.2.sublist (List.filter_sublist ..)⟩
theorem Tops.srt (T : Tops P Bs f) (g : Good As Ls P) (hB : SrtA As Bs) : SrtA ((lowP P Bs).map fun p => (tp Bs f p, p)) (TA Bs f) := by
  refine srtA_sub hB _ ?_
  have nB : Bs.Nodup := hB.1.nodup_iff.mpr g.nd
  have nd2 : ((lowP P Bs).map fun p => (tp Bs f p, p)).Nodup := List.pairwise_map.mpr ((g.asc.nodup.filter _).imp fun h e => h (congrArg (·.2) e))
  refine (List.perm_ext_iff_of_nodup (nB.filter _) nd2).mpr fun b => ?_
  rw [List.mem_map]
  constructor
  · intro hb
    have hP := (g.ends b (hB.1.mem_iff.mp (List.mem_filter.mp hb).1)).2
    obtain ⟨h1, h2⟩ := (T.arrow (u := b.1) (p := b.2) hP).mp hb
    exact ⟨b.2, mem_low.mpr ⟨hP, h1⟩, by rw [← h2]⟩
  · rintro ⟨p, hp, rfl⟩
    obtain ⟨h1, h2⟩ := mem_low.mp hp
    exact (T.arrow h1).mpr ⟨h2, rfl⟩
/-! ### upwards -/
def cur (Bs : List (Int × Int)) (f : Int → Int) : Nat → Int → Int
  | 0, q => q
  | n + 1, q => tp Bs f (cur Bs f n q)
theorem cur_succ : ∀ (n : Nat) (q : Int), cur Bs f (n + 1) q = cur Bs f n (tp Bs f q)
  | 0, _ => rfl
  | n + 1, q => by
    show tp Bs f (cur Bs f (n + 1) q) = tp Bs f (cur Bs f n (tp Bs f q))
    rw [cur_succ n q]
def upc (Bs : List (Int × Int)) (f : Int → Int) : Nat → Int → List Int
  | 0, _ => []
  | n + 1, q => q :: if (upsOf Bs q).isEmpty = true then [] else upc Bs f n (tp Bs f q)
/-- no root among the first n -/
abbrev Live (Bs : List (Int × Int)) (f : Int → Int) (n : Nat) (q : Int) : Prop := ∀ j, j < n → upsOf Bs (cur Bs f j q) ≠ []
theorem upc_snoc : ∀ {n : Nat} {q : Int}, Live Bs f n q → upc Bs f (n + 1) q = upc Bs f n q ++ [cur Bs f n q]
  | 0, q, _ => by
    show (q :: if (upsOf Bs q).isEmpty = true then [] else []) = [q]
    split <;> rfl
  | n + 1, q, h => by
    have h0 : ¬ (upsOf Bs q).isEmpty = true := fun e => h 0 (Nat.succ_pos _) (List.isEmpty_iff.mp e)
    have ih := upc_snoc (n := n) (q := tp Bs f q) fun j hj => by
      rw [← cur_succ]
      exact h (j + 1) (by omega)
    show (q :: if (upsOf Bs q).isEmpty = true then [] else upc Bs f (n + 1) (tp Bs f q)) = (q :: if (upsOf Bs q).isEmpty = true then [] else upc Bs f n (tp Bs f q)) ++ [cur Bs f (n + 1) q]
    rw [if_neg h0, if_neg h0, ih, cur_succ]
    rfl
theorem Tops.inP (T : Tops P Bs f) (he : ∀ b ∈ Bs, b.1 ∈ P ∧ b.2 ∈ P) {p : Int} (hp : p ∈ P) (hne : upsOf Bs p ≠ []) : tp Bs f p ∈ P := (he (tp Bs f p, p) (mem_ups.mp (T.mem p hp hne))).1
theorem Tops.curP (T : Tops P Bs f) (he : ∀ b ∈ Bs, b.1 ∈ P ∧ b.2 ∈ P) {q : Int} (hq : q ∈ P) : ∀ {n : Nat}, Live Bs f n q → cur Bs f n q ∈ P
  | 0, _ => hq
  | n + 1, h => T.inP he (T.curP he hq fun j hj => h j (by omega)) (h n (Nat.lt_succ_self n))
theorem Tops.fresh (T : Tops P Bs f) (he : ∀ b ∈ Bs, b.1 ∈ P ∧ b.2 ∈ P) {q : Int} (hq : q ∈ P) : ∀ {n : Nat}, Live Bs f n q → ∀ x ∈ upc Bs f n q, f (cur Bs f n q) < f x
  | 0, _, x, hx => by cases hx
  | n + 1, h, x, hx => by
    have hn : Live Bs f n q := fun j hj => h j (by omega)
    have h1 : f (cur Bs f (n + 1) q) < f (cur Bs f n q) := T.lt _ (T.curP he hq hn) (h n (Nat.lt_succ_self n))
    rw [upc_snoc hn] at hx
    rcases List.mem_append.mp hx with hx | hx
    · have := T.fresh he hq hn x hx
      omega
    · rw [List.mem_singleton.mp hx]
      exact h1
theorem rnk_ltP {p : Int} (hp : p ∈ P) : rnk P f p < P.length := by
  obtain ⟨b, hb, e⟩ := ddf_mem (f := f) hp
  have nd : (ddf f P).Nodup := (List.pairwise_map.mp ddf_nd).imp fun h e => h (congrArg f e)
  have := nodup_le (L := b :: (ddf f P).filter fun z => decide (f z < f p)) (M := P) (List.nodup_cons.mpr ⟨fun hm => by
    have h2 := of_decide_eq_true (List.mem_filter.mp hm).2
    omega, nd.filter _⟩) fun k hk => by
    rcases List.mem_cons.mp hk with rfl | hk
    · exact ddf_sub hb
    · exact ddf_sub (List.mem_filter.mp hk).1
  rw [List.length_cons] at this
  exact this
theorem Tops.und (T : Tops P Bs f) (he : ∀ b ∈ Bs, b.1 ∈ P ∧ b.2 ∈ P) {p q : Int} (hq : q ∈ P) : Und (downsOf (TA Bs f)) p q ↔ upsOf Bs q ≠ [] ∧ (p = tp Bs f q ∨ Und (downsOf (TA Bs f)) p (tp Bs f q)) := by
  constructor
  · intro h
    cases h with
    | base h =>
      obtain ⟨h1, h2⟩ := (T.arrow hq).mp (mem_downs.mp h)
      exact ⟨h1, .inl h2⟩
    | step h1 h =>
      obtain ⟨h2, h3⟩ := (T.arrow hq).mp (mem_downs.mp h)
      exact ⟨h2, .inr (h3 ▸ h1)⟩
  · rintro ⟨h1, h | h⟩
    · exact .base (mem_downs.mpr ((T.arrow hq).mpr ⟨h1, h⟩))
    · exact .step h (mem_downs.mpr ((T.arrow hq).mpr ⟨h1, rfl⟩))
theorem Tops.mem_upc (T : Tops P Bs f) (he : ∀ b ∈ Bs, b.1 ∈ P ∧ b.2 ∈ P) {p : Int} : ∀ {n : Nat} {q : Int}, q ∈ P → rnk P f q < n → (p ∈ upc Bs f n q ↔ p = q ∨ Und (downsOf (TA Bs f)) p q)
  | 0, q, _, h => absurd h (Nat.not_lt_zero _)
  | n + 1, q, hq, h => by
    show p ∈ (q :: if (upsOf Bs q).isEmpty = true then [] else upc Bs f n (tp Bs f q)) ↔ _
    rw [List.mem_cons, T.und he hq]
    refine or_congr Iff.rfl ?_
    by_cases c : upsOf Bs q = []
    · rw [if_pos (List.isEmpty_iff.mpr c)]
      simp [c]
    · rw [if_neg fun e => c (List.isEmpty_iff.mp e)]
      have hr : rnk P f (tp Bs f q) < rnk P f q := rnk_lt (T.inP he hq c) (T.lt q hq c)
      rw [T.mem_upc he (T.inP he hq c) (by omega)]
      simp [c]
theorem und_lt (h : Fits P Bs f) {p q : Int} (hu : Und (downsOf (TA Bs f)) p q) : f p < f q := by
  have key : ∀ {u v : Int}, v ∈ downsOf (TA Bs f) u → f u < f v := fun {u v} hv => by
    obtain ⟨h1, h2⟩ := mem_TA.mp (mem_downs.mp hv)
    have h3 := h.back _ h1
    unfold backB at h3
    rw [Bool.or_eq_false_iff] at h3
    have h4 : ¬ f v < f u := of_decide_eq_false h3.1
    have h2 : f u ≠ f v := h2
    omega
  induction hu with
  | base h => exact key h
  | step _ hq ih =>
    have := key hq
    omega
theorem TA_ends (he : ∀ b ∈ Bs, b.1 ∈ P ∧ b.2 ∈ P) : ∀ b ∈ TA Bs f, b.1 ∈ P ∧ b.2 ∈ P := fun b hb => he b (mem_TA.mp hb).1
theorem und_P (he : ∀ b ∈ Bs, b.1 ∈ P ∧ b.2 ∈ P) {p q : Int} (hu : Und (downsOf (TA Bs f)) p q) : q ∈ P := by
  cases hu with
  | base h => exact mem_downsP (TA_ends he) h
  | step _ h => exact mem_downsP (TA_ends he) h
/-! ### the names below a place -/
theorem nodup_map_inj {α β : Type} {f : α → β} : ∀ {L : List α}, (L.map f).Nodup → ∀ {l m : α}, l ∈ L → m ∈ L → f l = f m → l = m
  | [], _, _, _, h, _, _ => (by cases h)
  | a :: L, nd, l, m, hl, hm, e => by
    obtain ⟨n1, n2⟩ := List.nodup_cons.mp nd
    rcases List.mem_cons.mp hl with h1 | h1 <;> rcases List.mem_cons.mp hm with h2 | h2
    · rw [h1, h2]
    · exact absurd (List.mem_map.mpr ⟨m, h2, by rw [← e, h1]⟩) n1
    · exact absurd (List.mem_map.mpr ⟨l, h1, by rw [e, h2]⟩) n1
    · exact nodup_map_inj n2 h1 h2 e
/-- the names of the leaves whose way up comes by p -/
def nmU (P : List Int) (Bs : List (Int × Int)) (f : Int → Int) (Ms : List (Int × Str)) (p : Int) : List Str := (Ms.filter fun l => decide (p ∈ upc Bs f P.length l.1)).map (·.2)
theorem Tops.names (T : Tops P Bs f) (F : Fits P Bs f) (g : Good As Ls P) (hB : SrtA As Bs) (hM : Ms.Perm Ls) {p : Int} (hp : p ∈ P) {R : List Int} (hR : R.Pairwise (· < ·)) (hm : ∀ q, q ∈ R ↔ Und (downsOf (TA Bs f)) p q) (nm : Int → Str) (hn : ∀ l ∈ Ls, nm l.1 = l.2) :
    (((p :: R).filter fun q => (downsOf Bs q).isEmpty).map nm).Perm (nmU P Bs f Ms p) := by
  have he : ∀ b ∈ Bs, b.1 ∈ P ∧ b.2 ∈ P := fun b hb => g.ends b (hB.1.mem_iff.mp hb)
  have hin : ∀ q ∈ p :: R, q ∈ P := fun q hq => by
    rcases List.mem_cons.mp hq with rfl | hq
    · exact hp
    · exact und_P he ((hm q).mp hq)
  have leaf : ∀ q ∈ p :: R, (downsOf Bs q).isEmpty = true → ∃ l ∈ Ls, l.1 = q := fun q hq e => by
    obtain ⟨l, hl, e⟩ := List.mem_map.mp ((Good.leafy g hB (hin q hq)).mpr (List.isEmpty_iff.mp e))
    exact ⟨l, hl, e⟩
  have ndn : (Ms.map (·.2)).Nodup := (hM.map _).nodup_iff.mpr g.ln
  have uniq : ∀ l ∈ Ls, ∀ m ∈ Ls, l.2 = m.2 → l = m := fun l hl m hm e => by
    exact nodup_map_inj g.ln hl hm e
  have nd1 : (((p :: R).filter fun q => (downsOf Bs q).isEmpty).map nm).Nodup := by
    have n0 : (p :: R).Nodup := List.nodup_cons.mpr ⟨fun h => by
      have := und_lt F ((hm p).mp h)
      omega, hR.imp Int.ne_of_lt⟩
    refine List.pairwise_map.mpr ((n0.filter _).imp_of_mem fun {a b} ha hb hab e => hab ?_)
    obtain ⟨a1, a2⟩ := List.mem_filter.mp ha
    obtain ⟨b1, b2⟩ := List.mem_filter.mp hb
    obtain ⟨l, hl, rfl⟩ := leaf a a1 a2
    obtain ⟨m, hm2, rfl⟩ := leaf b b1 b2
    rw [hn l hl, hn m hm2] at e
    rw [uniq l hl m hm2 e]
  refine (List.perm_ext_iff_of_nodup nd1 (ndn.sublist ((List.filter_sublist ..).map _))).mpr fun z => ?_
  rw [List.mem_map, List.mem_map]
  have key : ∀ l ∈ Ls, p ∈ upc Bs f P.length l.1 ↔ l.1 ∈ p :: R := fun l hl => by
    have hlP := g.lab l hl
    rw [T.mem_upc he hlP (rnk_ltP hlP), List.mem_cons, hm]
    exact or_congr eq_comm Iff.rfl
  constructor
  · rintro ⟨q, hq, rfl⟩
    obtain ⟨q1, q2⟩ := List.mem_filter.mp hq
    obtain ⟨l, hl, rfl⟩ := leaf q q1 q2
    exact ⟨l, List.mem_filter.mpr ⟨hM.mem_iff.mpr hl, decide_eq_true ((key l hl).mpr q1)⟩, (hn l hl).symm⟩
  · rintro ⟨l, hl, rfl⟩
    obtain ⟨l1, l2⟩ := List.mem_filter.mp hl
    have hl1 := hM.mem_iff.mp l1
    refine ⟨l.1, List.mem_filter.mpr ⟨(key l hl1).mp (of_decide_eq_true l2), ?_⟩, hn l hl1⟩
    exact List.isEmpty_iff.mpr ((Good.leafy g hB (g.lab l hl1)).mp (List.mem_map_of_mem hl1))
end
/-! ### a dict of the places with a list of its own for each -/
structure DiV (H0 H : Hp) (D : Addr) (P : List Int) (adr : Int → Addr) (val : Int → List V) : Prop where
  nd : H0 D = none
  na : ∀ p ∈ P, H0 (adr p) = none
  inj : ∀ p ∈ P, ∀ q ∈ P, adr p = adr q → p = q
  at_ : H D = some (dKs P adr)
  val : ∀ p ∈ P, H (adr p) = some (.lst (val p))
section
variable {H0 H H' : Hp} {D : Addr} {P : List Int} {adr : Int → Addr} {val : Int → List V}
theorem DiV.get (h : DiV H0 H D P adr val) {p : Int} (hp : p ∈ P) : DGet H D (.int p) (some (.ref (adr p))) := .inl ⟨_, .inl p, .inl h.at_, rfl, (valV_dKs hp).symm⟩
theorem DiV.same (h : DiV H0 H D P adr val) (s : Same H H') : DiV H0 H' D P adr val := ⟨h.nd, h.na, h.inj, s _ _ h.at_, fun p hp => s _ _ (h.val p hp)⟩
theorem DiV.other (h : DiV H0 H D P adr val) {b : Addr} {o : HO} (h1 : b ≠ D) (h2 : ∀ p ∈ P, b ≠ adr p) : DiV H0 (upd H b o) D P adr val :=
  ⟨h.nd, h.na, h.inj, by rw [upd_ne h1.symm]; exact h.at_, fun p hp => by rw [upd_ne (h2 p hp).symm]; exact h.val p hp⟩
theorem DiV.new (h : DiV H0 H D P adr val) {b : Addr} {o : HO} (n : H b = none) : DiV H0 (upd H b o) D P adr val :=
  h.other (fun e => by rw [e, h.at_] at n; cases n) (fun p hp e => by rw [e, h.val p hp] at n; cases n)
theorem DiV.congr (h : DiV H0 H D P adr val) {val' : Int → List V} (e : ∀ p ∈ P, val p = val' p) : DiV H0 H D P adr val' := ⟨h.nd, h.na, h.inj, h.at_, fun p hp => e p hp ▸ h.val p hp⟩
theorem DiV.app (h : DiV H0 H D P adr val) {p : Int} {x : V} (hp : p ∈ P) : DiV H0 (upd H (adr p) (.lst (val p ++ [x]))) D P adr (fun q => if q = p then val q ++ [x] else val q) := by
  have nD : D ≠ adr p := fun e => by
    have := h.val p hp
    rw [← e, h.at_] at this
    cases this
  refine ⟨h.nd, h.na, h.inj, by rw [upd_ne nD]; exact h.at_, fun q hq => ?_⟩
  by_cases e : q = p
  · subst e
    rw [upd_same, if_pos rfl]
  · rw [upd_ne (fun z => e (h.inj q hq p hp z)), if_neg e]
    exact h.val q hq
theorem DiV.start (n0 : H0 D = none) (e : H D = some (.dK [])) : DiV H0 H D [] adr val := ⟨n0, fun _ h => (by cases h), fun _ h => (by cases h), e, fun _ h => (by cases h)⟩
theorem DiV.grow (h : DiV H0 H D P adr fun _ => []) {q : Int} {a : Addr} (hq : q ∉ P) (na : H a = none) (s : H0 a = none) :
    DiV H0 (upd (upd H a (.lst [])) D (.dK (putK (P.map fun p => ((.inl p : Key), V.ref (adr p))) (.inl q) (.ref a)))) D (P ++ [q]) (fun p => if p = q then a else adr p) fun _ => [] := by
  have hne : ∀ p ∈ P, p ≠ q := fun p hp e => hq (e ▸ hp)
  have naD : a ≠ D := fun e => by rw [e, h.at_] at na; cases na
  have nap : ∀ p ∈ P, adr p ≠ a := fun p hp e => by
    have := h.val p hp
    rw [e, na] at this
    cases this
  have npD : ∀ p ∈ P, adr p ≠ D := fun p hp e => by
    have := h.val p hp
    rw [e, h.at_] at this
    cases this
  refine ⟨h.nd, fun p hp => ?_, fun p hp p' hp' e => ?_, ?_, fun p hp => ?_⟩
  · rcases List.mem_append.mp hp with hp | hp
    · rw [if_neg (hne p hp)]
      exact h.na p hp
    · rw [if_pos (List.mem_singleton.mp hp)]
      exact s
  · rcases List.mem_append.mp hp with hp | hp <;> rcases List.mem_append.mp hp' with hp' | hp'
    · rw [if_neg (hne p hp), if_neg (hne p' hp')] at e
      exact h.inj p hp p' hp' e
    · rw [if_neg (hne p hp), if_pos (List.mem_singleton.mp hp')] at e
      exact absurd e (nap p hp)
    · rw [if_pos (List.mem_singleton.mp hp), if_neg (hne p' hp')] at e
      exact absurd e.symm (nap p' hp')
    · rw [List.mem_singleton.mp hp, List.mem_singleton.mp hp']
  · rw [upd_same, putK_new hq]
    show some (HO.dK _) = some (HO.dK ((P ++ [q]).map _))
    rw [List.map_append, List.map_singleton]
    dsimp only
    rw [if_pos rfl]
    congr 3
    exact List.map_congr_left fun p hp => by rw [if_neg (hne p hp)]
  · rcases List.mem_append.mp hp with hp | hp
    · rw [if_neg (hne p hp), upd_ne (npD p hp), upd_ne (nap p hp)]
      exact h.val p hp
    · rw [if_pos (List.mem_singleton.mp hp), upd_ne naD, upd_same]
end
/-- a list of numbers, tested and read anew -/
theorem lc_listFM {K : PySem.W.Frag} {td : TE} {a : Addr} {ns : List Int} {j : Nat} {tt : TT} {te : TE} {vs : List Nat} {σ : L2.St} {H : Hp} {Q : VK} (htd : ∀ R : V → Hp → Prop, R (.ref a) H → td σ H R) (ea : H a = some (.lst (ns.map V.int))) (p : Int → Bool) (y : Int → V) (hn : ns.length < sizeLine)
    (hw : ∀ v, wipe ((wipe σ vs).set j (some v)) vs = wipe σ vs)
    (hs : ∀ x ∈ ns, ∀ (H1 : Hp) (N : Hp → Prop) (A : VK), Same H H1 → (∀ H4, Same H1 H4 → p x = false → N H4) → (∀ H4, Same H1 H4 → p x = true → A (y x) H4) →
      tt ((wipe σ vs).set j (some (.int x))) H1 fun b H4 => if b = true then te ((wipe σ vs).set j (some (.int x))) H4 A else N H4)
    (hd : ∀ R H', H R = none → Same H H' → H' R = some (.lst ((ns.filter p).map y)) → Q (.ref R) H') : tLc (iList K td) (gName j) tt te vs σ H Q := by
  refine htd _ ⟨a, rfl, ⟨_, .of ea⟩, ?_⟩
  refine lc_fltL (walk_list (K := K) (a := a) (xs := ns.map V.int)) ns (by rw [List.length_map]) p y (by rw [List.length_map]; exact hn) (fun H' sm => .of (sm _ _ ea)) ?_ hd
  rintro i z x H1 H2 N A hz sm ⟨rfl, hx⟩ hN hA
  rw [List.getElem?_map, hz] at hx
  cases hx
  exact ⟨hw _, hs z (List.mem_of_getElem? hz) _ N A sm hN hA⟩
/-! dict(xs) of pairs of numbers -/
def rDictPI (K : PySem.W.Frag) : List V → Hp → VK → Prop := fun xs H Q => ∃ (S : Av) (a : Addr) (ys : List V) (ps : List (Int × Int)), xs = [.ref a] ∧ H a = some (.lst ys) ∧ DaAll S H ys (ps.map pd) ∧ (ps.map (·.1)).Nodup ∧ ∀ p, H p = none → Q (.ref p) (upd H p (.dK (ps.map fun p => ((.inl p.1 : Key), V.int p.2))))
end Lg

/-! The lines that live at a moment. -/
namespace Lg
open PySem PySem.Spec PyProof.Rows L2
section
variable {P : List Int} {As Bs : List (Int × Int)} {Ls Ms : List (Int × Str)} {f : Int → Int} {m : Int}
/-- the lower ends of the lines that live at m -/
def LV (P : List Int) (Bs : List (Int × Int)) (f : Int → Int) (m : Int) : List Int := P.filter fun p => ((upsOf Bs p).isEmpty || decide (f (tp Bs f p) < m)) && decide (m ≤ f p)
theorem mem_LV {p : Int} : p ∈ LV P Bs f m ↔ p ∈ P ∧ (upsOf Bs p = [] ∨ f (tp Bs f p) < m) ∧ m ≤ f p := by
  unfold LV
  rw [List.mem_filter, Bool.and_eq_true, Bool.or_eq_true, List.isEmpty_iff, decide_eq_true_iff, decide_eq_true_iff]
/-- what is found from the tree arrows and the root -/
theorem Tops.found (T : Tops P Bs f) (g : Good As Ls P) (hB : SrtA As Bs) {root : Int} (hr : root ∈ P) (hu : ∀ p ∈ P, upsOf Bs p = [] ↔ p = root) :
    (((TA Bs f).filter fun b => decide (f b.1 < m) && decide (m ≤ f b.2)).map (·.2) ++ if m ≤ f root then [root] else []).Perm (LV P Bs f m) := by
  have he : ∀ b ∈ Bs, b.1 ∈ P ∧ b.2 ∈ P := fun b hb => g.ends b (hB.1.mem_iff.mp hb)
  have nd1 : ((TA Bs f).map (·.2)).Nodup := by
    have := (T.srt g hB).1.map (·.2)
    refine this.nodup_iff.mpr ?_
    rw [List.map_map]
    exact ((List.map_congr_left fun p _ => rfl).trans (List.map_id _)).symm ▸ g.asc.nodup.filter _
  have nd2 : (((TA Bs f).filter fun b => decide (f b.1 < m) && decide (m ≤ f b.2)).map (·.2)).Nodup := nd1.sublist ((List.filter_sublist ..).map _)
  have key : ∀ p, p ∈ ((TA Bs f).filter fun b => decide (f b.1 < m) && decide (m ≤ f b.2)).map (·.2) ↔ p ∈ P ∧ upsOf Bs p ≠ [] ∧ f (tp Bs f p) < m ∧ m ≤ f p := fun p => by
    rw [List.mem_map]
    constructor
    · rintro ⟨b, hb, rfl⟩
      obtain ⟨h1, h2⟩ := List.mem_filter.mp hb
      rw [Bool.and_eq_true, decide_eq_true_iff, decide_eq_true_iff] at h2
      have hP := (TA_ends he b h1).2
      obtain ⟨h3, h4⟩ := (T.arrow (u := b.1) (p := b.2) hP).mp h1
      exact ⟨hP, h3, h4 ▸ h2.1, h2.2⟩
    · rintro ⟨hP, h1, h2, h3⟩
      exact ⟨(tp Bs f p, p), List.mem_filter.mpr ⟨(T.arrow hP).mpr ⟨h1, rfl⟩, by rw [Bool.and_eq_true, decide_eq_true_iff, decide_eq_true_iff]; exact ⟨h2, h3⟩⟩, rfl⟩
  refine (List.perm_ext_iff_of_nodup (List.nodup_append.mpr ⟨nd2, by split <;> simp, fun a ha b hb e => ?_⟩) (g.asc.nodup.filter _)).mpr fun p => ?_
  · split at hb
    · rw [List.mem_singleton.mp hb] at e
      exact ((key a).mp ha).2.1 ((hu a ((key a).mp ha).1).mpr e)
    · cases hb
  · rw [List.mem_append, key]
    show _ ↔ p ∈ LV P Bs f m
    rw [mem_LV]
    constructor
    · rintro (⟨h1, h2, h3, h4⟩ | h)
      · exact ⟨h1, .inr h3, h4⟩
      · split at h
        · rename_i hm
          rw [List.mem_singleton.mp h]
          exact ⟨hr, .inl ((hu root hr).mpr rfl), hm⟩
        · cases h
    · rintro ⟨h1, h2, h3⟩
      by_cases c : upsOf Bs p = []
      · right
        have e := (hu p h1).mp c
        rw [if_pos (e ▸ h3), e]
        exact List.mem_cons_self
      · left
        exact ⟨h1, c, h2.resolve_left c, h3⟩
/-- the walk up from a leaf stops at its n-th place -/
structure Halt (Bs : List (Int × Int)) (f : Int → Int) (m : Int) (q : Int) (n : Nat) : Prop where
  liv : ∀ j, j < n → upsOf Bs (cur Bs f j q) ≠ [] ∧ m ≤ f (tp Bs f (cur Bs f j q))
  stop : upsOf Bs (cur Bs f n q) = [] ∨ f (tp Bs f (cur Bs f n q)) < m
theorem Halt.uniq {q : Int} {n n' : Nat} (h : Halt Bs f m q n) (h' : Halt Bs f m q n') : n = n' := by
  have key : ∀ {a b : Nat}, Halt Bs f m q a → Halt Bs f m q b → ¬ a < b := fun ha hb hlt => by
    obtain ⟨h1, h2⟩ := hb.liv _ hlt
    rcases ha.stop with e | e
    · exact h1 e
    · omega
  have h1 := key h h'
  have h2 := key h' h
  omega
end
theorem asg_h {te : TE} {i : Nat} {D : Ends} {σ : L2.St} {H : Hp} (h : te σ H fun x H1 => D.nx (σ.set i (some x)) H1) : tAsg te (gName i) D σ H := h
end Lg

/-! Plucking: what is cut out of the arrows, and that a net that fits stays one. -/
namespace Lg
open PySem PySem.Spec PyProof.Rows L2
section
variable {As : List (Int × Int)} {Ls : List (Int × Str)} {P : List Int} {f : Int → Int}
theorem of_up {p : Int} (h : upN As p ≠ 0) : ∃ a ∈ As, a.2 = p := by
  obtain ⟨a, ha, e⟩ := List.countP_pos_iff.mp (Nat.pos_of_ne_zero h)
  exact ⟨a, ha, by simpa using e⟩
theorem of_dn {p : Int} (h : dnN As p ≠ 0) : ∃ a ∈ As, a.1 = p := by
  obtain ⟨a, ha, e⟩ := List.countP_pos_iff.mp (Nat.pos_of_ne_zero h)
  exact ⟨a, ha, by simpa using e⟩
theorem up_pos {a : Int × Int} (ha : a ∈ As) : 1 ≤ upN As a.2 := List.countP_pos_iff.mpr ⟨a, ha, by simp⟩
theorem dn_pos {a : Int × Int} (ha : a ∈ As) : 1 ≤ dnN As a.1 := List.countP_pos_iff.mpr ⟨a, ha, by simp⟩
theorem cnt_one {α : Type} {l : List α} {q : α → Bool} (h : l.countP q = 1) {a b : α} (ha : a ∈ l) (hb : b ∈ l) (qa : q a = true) (qb : q b = true) : a = b := by
  rw [List.countP_eq_length_filter] at h
  obtain ⟨z, hz⟩ := List.length_eq_one_iff.mp h
  have h1 : a ∈ l.filter q := List.mem_filter.mpr ⟨ha, qa⟩
  have h2 : b ∈ l.filter q := List.mem_filter.mpr ⟨hb, qb⟩
  rw [hz] at h1 h2
  rw [List.mem_singleton.mp h1, List.mem_singleton.mp h2]
theorem cnt_two {l : List (Int × Int)} {q : Int × Int → Bool} (h : l.countP q ≤ 2) {a b c : Int × Int} (ha : a ∈ l) (hb : b ∈ l) (hc : c ∈ l) (qa : q a = true) (qb : q b = true) (qc : q c = true) (hab : a ≠ b) : c = a ∨ c = b := by
  by_cases h1 : c = a
  · exact .inl h1
  by_cases h2 : c = b
  · exact .inr h2
  exfalso
  have := nodup_le (L := [a, b, c]) (M := l.filter q) (by simp [hab, Ne.symm h1, Ne.symm h2]) fun k hk => by
    simp only [List.mem_cons, List.not_mem_nil, or_false] at hk
    rcases hk with rfl | rfl | rfl
    · exact List.mem_filter.mpr ⟨ha, qa⟩
    · exact List.mem_filter.mpr ⟨hb, qb⟩
    · exact List.mem_filter.mpr ⟨hc, qc⟩
  rw [← List.countP_eq_length_filter] at this
  simp only [List.length_cons, List.length_nil] at this
  omega
theorem cnt_ge2 {l : List (Int × Int)} {q : Int × Int → Bool} {a b : Int × Int} (ha : a ∈ l) (hb : b ∈ l) (qa : q a = true) (qb : q b = true) (hab : a ≠ b) : 2 ≤ l.countP q := by
  have := nodup_le (L := [a, b]) (M := l.filter q) (by simp [hab]) fun k hk => by
    simp only [List.mem_cons, List.not_mem_nil, or_false] at hk
    rcases hk with rfl | rfl
    · exact List.mem_filter.mpr ⟨ha, qa⟩
    · exact List.mem_filter.mpr ⟨hb, qb⟩
  rw [← List.countP_eq_length_filter] at this
  exact this
theorem cnt_exact {l : List (Int × Int)} (nd : l.Nodup) {q : Int × Int → Bool} {a : Int × Int} (ha : a ∈ l) (qa : q a = true) (h : ∀ b ∈ l, q b = true → b = a) : l.countP q = 1 := by
  rw [List.countP_eq_length_filter]
  have h1 := nodup_le (L := l.filter q) (M := [a]) (nd.filter _) fun k hk => by
    obtain ⟨k1, k2⟩ := List.mem_filter.mp hk
    rw [h k k1 k2]
    exact List.mem_cons_self
  have h2 := List.length_pos_of_mem (List.mem_filter.mpr ⟨ha, qa⟩ : a ∈ l.filter q)
  simp only [List.length_cons, List.length_nil] at h1
  omega
theorem cnt_or {α : Type} {q r : α → Bool} : ∀ {l : List α}, (∀ a ∈ l, q a = true → r a = false) → l.countP (fun a => q a || r a) = l.countP q + l.countP r
  | [], _ => rfl
  | a :: l, h => by
    have ih := cnt_or (q := q) (r := r) (l := l) fun b hb => h b (List.mem_cons_of_mem _ hb)
    have h0 := h a List.mem_cons_self
    rw [List.countP_cons, List.countP_cons, List.countP_cons, ih]
    cases hq : q a with
    | true => rw [h0 hq]; simp; omega
    | false => cases r a <;> simp <;> omega
theorem filter_split {α : Type} (q : α → Bool) : ∀ l : List α, l.Perm ((l.filter fun a => !q a) ++ l.filter q)
  | [] => .nil
  | a :: l => by
    cases h : q a with
    | true =>
      rw [List.filter_cons_of_neg (by rw [h]; decide), List.filter_cons_of_pos h]
      exact ((filter_split q l).cons a).trans List.perm_middle.symm
    | false =>
      rw [List.filter_cons_of_pos (by rw [h]; decide), List.filter_cons_of_neg (by rw [h]; decide)]
      exact (filter_split q l).cons a
theorem Good.leafdeg (g : Good As Ls P) {p : Int} (hp : p ∈ Ls.map (·.1)) : p ∈ P ∧ dnN As p = 0 ∧ upN As p ≤ 1 := by
  obtain ⟨l, hl, rfl⟩ := List.mem_map.mp hp
  have hP := g.lab l hl
  rcases g.deg l.1 hP with ⟨_, h1, h2⟩ | ⟨h, _⟩
  · exact ⟨hP, h1, h2⟩
  · exact absurd hp h
/-- what is cut out, and what is put in its stead -/
structure Cut (As : List (Int × Int)) (Ls : List (Int × Str)) (P : List Int) (G : List Int) (K R A : List (Int × Int)) (m Y : Int) : Prop where
  perm : As.Perm (K ++ R)
  hK : ∀ a ∈ K, a.1 ∉ G ∧ a.2 ∉ G
  hA : ∀ a ∈ A, (a.1 ∈ P ∧ a.1 ∉ G) ∧ a.2 ∈ P ∧ a.2 ∉ G
  dn : ∀ p, p ∉ G → dnN A p = dnN R p
  up : ∀ p, p ∉ G → p ≠ Y → upN A p = upN R p
  upR : upN R Y = 1
  upA : upN A Y = upN As m
  tgt : ∀ a ∈ A, a.2 = Y ∨ (upN As a.2 = 1 ∧ upN R a.2 = 1)
  ndA : A.Nodup
  mG : m ∈ G
  mP : m ∈ P
  mdn : dnN As m = 2
  mup : upN As m ≤ 1
  Gup : ∀ x ∈ G, x ≠ m → upN As x ≠ 0
  lY : Y ∈ Ls.map (·.1)
  YG : Y ∉ G
  r2 : ∀ p, p ∉ G → upN As p = 2 → upN R p = 0
  len : A.length ≤ R.length
  rk : ∀ rank : Int → Nat, (∀ a ∈ As, rank a.1 < rank a.2) → ∀ a ∈ A, rank a.1 < rank a.2
  ft : ∀ f : Int → Int, FitsC P As f → ∀ a ∈ A, f a.1 < f a.2
  src : ∀ a ∈ R, a.1 ∉ G → ∃ b ∈ A, b.1 = a.1
abbrev cutL (Ls : List (Int × Str)) (G : List Int) : List (Int × Str) := Ls.filter fun l => !decide (l.1 ∈ G)
abbrev cutP (P : List Int) (G : List Int) : List Int := P.filter fun p => !decide (p ∈ G)
variable {G : List Int} {K R A : List (Int × Int)} {m Y : Int}
theorem mem_cutP {p : Int} : p ∈ cutP P G ↔ p ∈ P ∧ p ∉ G := by rw [List.mem_filter]; simp
theorem Cut.upS (c : Cut As Ls P G K R A m Y) (p : Int) : upN As p = upN K p + upN R p := by
  unfold upN
  rw [c.perm.countP_eq, List.countP_append]
theorem Cut.dnS (c : Cut As Ls P G K R A m Y) (p : Int) : dnN As p = dnN K p + dnN R p := by
  unfold dnN
  rw [c.perm.countP_eq, List.countP_append]
theorem Cut.dn' (c : Cut As Ls P G K R A m Y) {p : Int} (hp : p ∉ G) : dnN (K ++ A) p = dnN As p := by rw [dnN_app, c.dnS, c.dn p hp]
theorem Cut.up' (c : Cut As Ls P G K R A m Y) {p : Int} (hp : p ∉ G) (hY : p ≠ Y) : upN (K ++ A) p = upN As p := by rw [upN_app, c.upS, c.up p hp hY]
theorem Cut.Y1 (c : Cut As Ls P G K R A m Y) (g : Good As Ls P) : upN As Y = 1 ∧ upN K Y = 0 := by
  have h1 := c.upS Y
  have h2 := c.upR
  have h3 := (g.leafdeg c.lY).2.2
  omega
theorem Cut.upY (c : Cut As Ls P G K R A m Y) (g : Good As Ls P) : upN (K ++ A) Y = upN As m := by rw [upN_app, (c.Y1 g).2, c.upA, Nat.zero_add]
theorem Cut.KAs (c : Cut As Ls P G K R A m Y) {a : Int × Int} (h : a ∈ K) : a ∈ As := c.perm.mem_iff.mpr (List.mem_append_left _ h)
theorem Cut.good (c : Cut As Ls P G K R A m Y) (g : Good As Ls P) : Good (K ++ A) (cutL Ls G) (cutP P G) where
  asc := ⟨g.asc.1.filter _, fun k => ⟨fun h => by
    obtain ⟨hP, hG⟩ := mem_cutP.mp h
    rcases g.deg k hP with ⟨hl, _⟩ | ⟨_, hd⟩
    · obtain ⟨l, hl2, rfl⟩ := List.mem_map.mp hl
      exact List.mem_append_right _ (List.mem_map.mpr ⟨l, List.mem_filter.mpr ⟨hl2, by simpa using hG⟩, rfl⟩)
    · have : dnN (K ++ A) k ≠ 0 := by
        rw [c.dn' hG]
        omega
      obtain ⟨a, ha, e⟩ := of_dn this
      exact List.mem_append_left _ (List.mem_flatMap.mpr ⟨a, ha, by rw [← e]; simp⟩), fun h => by
    rcases List.mem_append.mp h with h | h
    · obtain ⟨a, ha, hk⟩ := List.mem_flatMap.mp h
      have key : (a.1 ∈ P ∧ a.1 ∉ G) ∧ a.2 ∈ P ∧ a.2 ∉ G := by
        rcases List.mem_append.mp ha with ha | ha
        · have h1 := g.ends a (c.KAs ha)
          have h2 := c.hK a ha
          exact ⟨⟨h1.1, h2.1⟩, h1.2, h2.2⟩
        · exact c.hA a ha
      simp only [List.mem_cons, List.not_mem_nil, or_false] at hk
      rcases hk with rfl | rfl
      · exact mem_cutP.mpr key.1
      · exact mem_cutP.mpr key.2
    · obtain ⟨l, hl, rfl⟩ := List.mem_map.mp h
      obtain ⟨h1, h2⟩ := List.mem_filter.mp hl
      exact mem_cutP.mpr ⟨g.lab l h1, by simpa using h2⟩⟩⟩
  p64 := Nat.lt_of_le_of_lt (List.length_filter_le _ _) g.p64
  rng p h := g.rng p (mem_cutP.mp h).1
  a46 := by
    have h1 := c.perm.length_eq
    have h2 := g.a46
    have h3 := c.len
    rw [List.length_append] at h1 ⊢
    omega
  nd := by
    have h1 := c.perm.nodup_iff.mp g.nd
    refine List.nodup_append.mpr ⟨(List.nodup_append.mp h1).1, c.ndA, fun a ha b hb e => ?_⟩
    subst e
    have h2 := up_pos ha
    rcases c.tgt a hb with h | ⟨h3, h4⟩
    · rw [h, (c.Y1 g).2] at h2
      omega
    · have := c.upS a.2
      omega
  l12 := ⟨by
    obtain ⟨l, hl, e⟩ := List.mem_map.mp c.lY
    have e : l.1 = Y := e
    exact List.length_pos_of_mem (List.mem_filter.mpr ⟨hl, by rw [e]; simpa using c.YG⟩ : l ∈ cutL Ls G), Nat.le_trans (List.length_filter_le _ _) g.l12.2⟩
  lp := g.lp.sublist ((List.filter_sublist ..).map _)
  ln := g.ln.sublist ((List.filter_sublist ..).map _)
  nm l h := g.nm l (List.mem_filter.mp h).1
  rank := by
    obtain ⟨rank, hr⟩ := g.rank
    refine ⟨rank, fun a ha => ?_⟩
    rcases List.mem_append.mp ha with ha | ha
    · exact hr a (c.KAs ha)
    · exact c.rk rank hr a ha
  deg p h := by
    obtain ⟨hP, hG⟩ := mem_cutP.mp h
    have hd := c.dn' hG
    rcases g.deg p hP with ⟨hl, h1, h2⟩ | ⟨hl, h1⟩
    · left
      obtain ⟨l, hl2, rfl⟩ := List.mem_map.mp hl
      refine ⟨List.mem_map.mpr ⟨l, List.mem_filter.mpr ⟨hl2, by simpa using hG⟩, rfl⟩, by rw [hd]; exact h1, ?_⟩
      by_cases e : l.1 = Y
      · rw [e, c.upY g]
        exact c.mup
      · rw [c.up' hG e]
        exact h2
    · right
      have e : p ≠ Y := fun e => hl (e ▸ c.lY)
      rw [hd, c.up' hG e]
      refine ⟨fun z => hl ?_, h1⟩
      obtain ⟨l, h2, rfl⟩ := List.mem_map.mp z
      exact List.mem_map_of_mem (List.mem_filter.mp h2).1
  root := by
    obtain ⟨r, hr, hroot⟩ := g.root
    have hYP := (g.leafdeg c.lY).1
    by_cases e : r = m
    · refine ⟨Y, mem_cutP.mpr ⟨hYP, c.YG⟩, fun p h => ?_⟩
      obtain ⟨hP, hG⟩ := mem_cutP.mp h
      by_cases eY : p = Y
      · rw [eY, c.upY g]
        exact ⟨fun _ => rfl, fun _ => (hroot m c.mP).mpr e.symm⟩
      · rw [c.up' hG eY]
        exact ⟨fun z => absurd ((hroot p hP).mp z) fun z => hG (z ▸ e ▸ c.mG), fun z => absurd z eY⟩
    · have h0 : upN As r = 0 := (hroot r hr).mpr rfl
      have rG : r ∉ G := fun z => c.Gup r z e h0
      have rY : r ≠ Y := fun z => by rw [z, (c.Y1 g).1] at h0; cases h0
      refine ⟨r, mem_cutP.mpr ⟨hr, rG⟩, fun p h => ?_⟩
      obtain ⟨hP, hG⟩ := mem_cutP.mp h
      by_cases eY : p = Y
      · rw [eY, c.upY g]
        exact ⟨fun z => absurd ((hroot m c.mP).mp z).symm e, fun z => absurd z.symm rY⟩
      · rw [c.up' hG eY]
        exact hroot p hP
  mix := by
    refine Nat.le_trans (nodup_le ((g.asc.nodup.filter _).filter _) fun p h => ?_) g.mix
    obtain ⟨h1, h2⟩ := List.mem_filter.mp h
    obtain ⟨hP, hG⟩ := mem_cutP.mp h1
    have e : p ≠ Y := fun e => by
      rw [e, c.upY g] at h2
      have := c.mup
      have h2 : upN As m = 2 := by simpa using h2
      omega
    rw [c.up' hG e] at h2
    exact List.mem_filter.mpr ⟨hP, h2⟩
theorem gfN_le (As : List (Int × Int)) (f : Int → Int) (p : Int) : gfN As f p ≤ upN As p := List.countP_mono_left fun a _ h => by
  rw [Bool.and_eq_true] at h
  exact h.1
theorem Cut.fits (c : Cut As Ls P G K R A m Y) (g : Good As Ls P) (h : FitsC P As f) : FitsC (cutP P G) (K ++ A) f where
  back a ha := by
    rcases List.mem_append.mp ha with ha | ha
    · rcases h.back a (c.KAs ha) with h1 | ⟨h1, h2⟩
      · exact .inl h1
      · refine .inr ⟨h1, ?_⟩
        rw [c.up' (c.hK a ha).2 fun e => ?_]
        · exact h2
        · rw [e, (c.Y1 g).1] at h2
          cases h2
    · exact .inl (c.ft f h a ha)
  gift p hp e := by
    obtain ⟨hP, hG⟩ := mem_cutP.mp hp
    have eY : p ≠ Y := fun z => by
      rw [z, c.upY g] at e
      have := c.mup
      omega
    have e2 : upN As p = 2 := by rw [← c.up' hG eY]; exact e
    have r0 := c.r2 p hG e2
    have a0 : upN A p = 0 := by rw [c.up p hG eY, r0]
    have h1 := h.gift p hP e2
    have h2 : gfN As f p = gfN K f p + gfN R f p := by
      unfold gfN
      rw [c.perm.countP_eq, List.countP_append]
    have h3 : gfN (K ++ A) f p = gfN K f p + gfN A f p := List.countP_append
    have h4 := gfN_le R f p
    have h5 := gfN_le A f p
    omega
  late p hp := by
    obtain ⟨hP, hG⟩ := mem_cutP.mp hp
    rcases h.late p hP with h1 | ⟨a, ha, e, hlt⟩
    · exact .inl (by rw [c.dn' hG]; exact h1)
    · rcases List.mem_append.mp (c.perm.mem_iff.mp ha) with ha | ha
      · exact .inr ⟨a, List.mem_append_left _ ha, e, hlt⟩
      · obtain ⟨b, hb, eb⟩ := c.src a ha (by rw [e]; exact hG)
        refine .inr ⟨b, List.mem_append_right _ hb, eb.trans e, ?_⟩
        have := c.ft f h b hb
        rw [eb, e] at this
        exact this
theorem Cut.less (c : Cut As Ls P G K R A m Y) (g : Good As Ls P) : ((cutP P G).filter fun p => dnN (K ++ A) p == 2).length < (P.filter fun p => dnN As p == 2).length := by
  refine nodup_le (L := m :: (cutP P G).filter fun p => dnN (K ++ A) p == 2) (List.nodup_cons.mpr ⟨fun h => ?_, (g.asc.nodup.filter _).filter _⟩) fun p h => ?_
  · exact (mem_cutP.mp (List.mem_filter.mp h).1).2 c.mG
  · rcases List.mem_cons.mp h with rfl | h
    · exact List.mem_filter.mpr ⟨c.mP, by rw [c.mdn]; rfl⟩
    · obtain ⟨h1, h2⟩ := List.mem_filter.mp h
      obtain ⟨hP, hG⟩ := mem_cutP.mp h1
      rw [c.dn' hG] at h2
      exact List.mem_filter.mpr ⟨hP, h2⟩
/-! ### the two ways to pluck -/
structure Sis (As : List (Int × Int)) (Ls : List (Int × Str)) (m X Y : Int) : Prop where
  aX : (m, X) ∈ As
  aY : (m, Y) ∈ As
  ne : X ≠ Y
  lX : X ∈ Ls.map (·.1)
  lY : Y ∈ Ls.map (·.1)
structure Fre (As : List (Int × Int)) (Ls : List (Int × Str)) (m h X Y : Int) : Prop where
  aY : (m, Y) ∈ As
  ah : (m, h) ∈ As
  aX : (h, X) ∈ As
  up : upN As h = 2
  lX : X ∈ Ls.map (·.1)
  lY : Y ∈ Ls.map (·.1)
abbrev touch (G : List Int) (a : Int × Int) : Bool := decide (a.1 ∈ G) || decide (a.2 ∈ G)
abbrev cutK (As : List (Int × Int)) (G : List Int) : List (Int × Int) := As.filter fun a => !touch G a
abbrev cutR (As : List (Int × Int)) (G : List Int) : List (Int × Int) := As.filter (touch G)
abbrev sisA (As : List (Int × Int)) (m Y : Int) : List (Int × Int) := (As.filter fun a => a.2 == m).map fun a => (a.1, Y)
abbrev freA (As : List (Int × Int)) (m h X : Int) : List (Int × Int) := (As.filter fun a => a.2 == h && !(a.1 == m)).map fun a => (a.1, X)
theorem touch_no {G : List Int} {a : Int × Int} : (!touch G a) = true ↔ a.1 ∉ G ∧ a.2 ∉ G := by simp [touch]
theorem Good.irr (g : Good As Ls P) {a : Int × Int} (ha : a ∈ As) : a.1 ≠ a.2 := fun e => by
  obtain ⟨rank, hr⟩ := g.rank
  have := hr a ha
  rw [e] at this
  exact Nat.lt_irrefl _ this
/-- the arrow above a leaf -/
theorem Good.leaf_arrow (g : Good As Ls P) {a b : Int × Int} (hl : a.2 ∈ Ls.map (·.1)) (ha : a ∈ As) (hb : b ∈ As) (e : b.2 = a.2) : b = a := by
  have h1 := (g.leafdeg hl).2.2
  have h2 := up_pos ha
  exact cnt_one (l := As) (q := fun c => c.2 == a.2) (by unfold upN at h1 h2; omega) hb ha (by simpa using e) (by simp)
theorem Good.up1 (g : Good As Ls P) {a : Int × Int} (hl : a.2 ∈ Ls.map (·.1)) (ha : a ∈ As) : upN As a.2 = 1 := by
  have h1 := (g.leafdeg hl).2.2
  have h2 := up_pos ha
  omega
theorem Good.inner_of (g : Good As Ls P) {a : Int × Int} (ha : a ∈ As) : a.1 ∉ Ls.map (·.1) := fun h => by
  have h1 := (g.leafdeg h).2.1
  have h2 := dn_pos ha
  omega
theorem Good.split_of (g : Good As Ls P) {a b : Int × Int} (ha : a ∈ As) (hb : b ∈ As) (e : b.1 = a.1) (hne : a ≠ b) : dnN As a.1 = 2 ∧ upN As a.1 ≤ 1 := by
  have h1 : 2 ≤ dnN As a.1 := cnt_ge2 (l := As) (q := fun c => c.1 == a.1) ha hb (by simp) (by simpa using e) hne
  rcases g.deg a.1 (g.ends a ha).1 with ⟨_, h, _⟩ | ⟨_, ⟨h, _⟩ | h⟩
  · omega
  · omega
  · exact h
theorem Good.two_kids (g : Good As Ls P) {a b c : Int × Int} (ha : a ∈ As) (hb : b ∈ As) (hc : c ∈ As) (e : b.1 = a.1) (e2 : c.1 = a.1) (hne : a ≠ b) : c = a ∨ c = b :=
  cnt_two (l := As) (q := fun c => c.1 == a.1) (Nat.le_of_eq (g.split_of ha hb e hne).1) ha hb hc (by simp) (by simpa using e) (by simpa using e2) hne
theorem cutR_dn {G : List Int} (p : Int) : dnN (cutR As G) p = As.countP fun a => a.1 == p && touch G a := by
  unfold dnN
  rw [List.countP_filter]
theorem cutR_up {G : List Int} (p : Int) : upN (cutR As G) p = As.countP fun a => a.2 == p && touch G a := by
  unfold upN
  rw [List.countP_filter]
theorem sisA_dn (m Y p : Int) : dnN (sisA As m Y) p = As.countP fun a => a.1 == p && a.2 == m := by
  unfold dnN
  rw [List.countP_map, List.countP_filter]
  rfl
theorem freA_dn (m h X p : Int) : dnN (freA As m h X) p = As.countP fun a => a.1 == p && (a.2 == h && !(a.1 == m)) := by
  unfold dnN
  rw [List.countP_map, List.countP_filter]
  rfl
theorem mapTo_up (l : List (Int × Int)) (Z p : Int) : upN (l.map fun a => (a.1, Z)) p = if Z = p then l.length else 0 := by
  unfold upN
  rw [List.countP_map]
  by_cases e : Z = p
  · rw [if_pos e]
    exact List.countP_eq_length.mpr fun a _ => by simpa using e
  · rw [if_neg e]
    exact List.countP_eq_zero.mpr fun a _ => by simpa using e
theorem mapTo_nd {l : List (Int × Int)} (nd : l.Nodup) {Z t : Int} (h : ∀ a ∈ l, a.2 = t) : (l.map fun a => (a.1, Z)).Nodup :=
  List.pairwise_map.mpr (nd.imp_of_mem fun {a b} ha hb hab e => hab (Prod.ext (congrArg (·.1) e) ((h a ha).trans (h b hb).symm)))
theorem Sis.cut {X : Int} (s : Sis As Ls m X Y) (g : Good As Ls P) : Cut As Ls P [m, X] (cutK As [m, X]) (cutR As [m, X]) (sisA As m Y) m Y := by
  have hsp := g.split_of s.aX s.aY rfl fun e => s.ne (congrArg (·.2) e)
  have mX : m ≠ X := g.irr s.aX
  have mY : m ≠ Y := g.irr s.aY
  have X0 := (g.leafdeg s.lX).2.1
  have upX := g.up1 s.lX s.aX
  have upY := g.up1 s.lY s.aY
  have inX : ∀ a ∈ As, a.2 = X → a = (m, X) := fun a ha e => g.leaf_arrow s.lX s.aX ha e
  have inY : ∀ a ∈ As, a.2 = Y → a = (m, Y) := fun a ha e => g.leaf_arrow s.lY s.aY ha e
  have noX : ∀ a ∈ As, a.1 ≠ X := fun a ha e => by
    have := dn_pos ha
    rw [e] at this
    omega
  have kids : ∀ a ∈ As, a.1 = m → a.2 = X ∨ a.2 = Y := fun a ha e => by
    rcases g.two_kids s.aX s.aY ha rfl e fun e => s.ne (congrArg (·.2) e) with h | h
    · exact .inl (congrArg (·.2) h)
    · exact .inr (congrArg (·.2) h)
  have tin : ∀ a ∈ As, a.1 ∉ [m, X] → a.2 ∈ [m, X] → a.2 = m := fun a ha h1 h2 => by
    simp only [List.mem_cons, List.not_mem_nil, or_false] at h2
    rcases h2 with h2 | h2
    · exact h2
    · rw [inX a ha h2] at h1
      exact absurd List.mem_cons_self h1
  have up0 : ∀ p, p ∉ [m, X] → p ≠ Y → upN (cutR As [m, X]) p = 0 := fun p hp hY => by
    rw [cutR_up]
    refine List.countP_eq_zero.mpr fun a ha h => ?_
    rw [Bool.and_eq_true, beq_iff_eq, Bool.or_eq_true, decide_eq_true_iff, decide_eq_true_iff] at h
    obtain ⟨e, h1 | h1⟩ := h
    · simp only [List.mem_cons, List.not_mem_nil, or_false] at h1
      rcases h1 with h1 | h1
      · rcases kids a ha h1 with h2 | h2
        · exact hp (e ▸ h2 ▸ by simp)
        · exact hY (e ▸ h2)
      · exact noX a ha h1
    · exact hp (e ▸ h1)
  refine ⟨filter_split _ As, fun a ha => touch_no.mp (List.mem_filter.mp ha).2, fun a ha => ?_, fun p hp => ?_, fun p hp hY => ?_, ?_, ?_, fun a ha => ?_, mapTo_nd (g.nd.filter _) (t := m) fun a ha => by simpa using (List.mem_filter.mp ha).2, by simp, (g.ends _ s.aX).1, hsp.1, hsp.2, fun x hx hne => ?_, s.lY, by simp [Ne.symm mY, Ne.symm s.ne], fun p hp e => ?_, ?_, fun rank hr a ha => ?_, fun f h a ha => ?_, fun a ha h => ?_⟩
  · obtain ⟨b, hb, rfl⟩ := List.mem_map.mp ha
    obtain ⟨h1, h2⟩ := List.mem_filter.mp hb
    have h2 : b.2 = m := by simpa using h2
    have h3 := noX b h1
    have h4 := g.irr h1
    rw [h2] at h4
    exact ⟨⟨(g.ends b h1).1, by simp [h3, h4]⟩, (g.ends _ s.aY).2, by simp [Ne.symm mY, Ne.symm s.ne]⟩
  · rw [sisA_dn, cutR_dn]
    refine List.countP_congr fun a ha => ?_
    rw [Bool.and_eq_true, Bool.and_eq_true, beq_iff_eq, beq_iff_eq, Bool.or_eq_true, decide_eq_true_iff, decide_eq_true_iff]
    constructor
    · rintro ⟨e, h⟩
      exact ⟨e, .inr (by rw [h]; simp)⟩
    · rintro ⟨e, h⟩
      have h1 : a.1 ∉ [m, X] := e ▸ hp
      exact ⟨e, tin a ha h1 (h.resolve_left h1)⟩
  · rw [up0 p hp hY, mapTo_up, if_neg (Ne.symm hY)]
  · rw [cutR_up, ← upY]
    unfold upN
    refine List.countP_congr fun a ha => ?_
    rw [Bool.and_eq_true, beq_iff_eq, Bool.or_eq_true, decide_eq_true_iff, decide_eq_true_iff]
    exact ⟨fun h => h.1, fun e => ⟨e, .inl (by rw [inY a ha e]; simp)⟩⟩
  · rw [mapTo_up, if_pos rfl, ← List.countP_eq_length_filter]
    rfl
  · obtain ⟨b, hb, rfl⟩ := List.mem_map.mp ha
    exact .inl rfl
  · simp only [List.mem_cons, List.not_mem_nil, or_false] at hx
    rcases hx with rfl | rfl
    · exact absurd rfl hne
    · rw [upX]
      decide
  · refine up0 p hp fun z => ?_
    rw [z, upY] at e
    cases e
  · rw [List.length_map, ← List.countP_eq_length_filter, ← List.countP_eq_length_filter]
    exact List.countP_mono_left fun a _ h => by
      have h : a.2 = m := by simpa using h
      rw [Bool.or_eq_true, decide_eq_true_iff, decide_eq_true_iff]
      exact .inr (by rw [h]; simp)
  · obtain ⟨b, hb, rfl⟩ := List.mem_map.mp ha
    obtain ⟨h1, h2⟩ := List.mem_filter.mp hb
    have h2 : b.2 = m := by simpa using h2
    have h3 := hr b h1
    have h4 := hr _ s.aY
    rw [h2] at h3
    exact Nat.lt_trans h3 h4
  · obtain ⟨b, hb, rfl⟩ := List.mem_map.mp ha
    obtain ⟨h1, h2⟩ := List.mem_filter.mp hb
    have h2 : b.2 = m := by simpa using h2
    have h3 := h.back b h1
    have h4 := h.back _ s.aY
    rw [h2] at h3
    have h5 : f b.1 < f m := h3.resolve_right fun z => by
      have := hsp.2
      have := z.2
      dsimp only at *
      omega
    have h6 : f m < f Y := h4.resolve_right fun z => by
      have := z.2
      dsimp only at this
      omega
    exact Int.lt_trans h5 h6
  · obtain ⟨h1, h2⟩ := List.mem_filter.mp ha
    rw [Bool.or_eq_true, decide_eq_true_iff, decide_eq_true_iff] at h2
    exact ⟨_, List.mem_map.mpr ⟨a, List.mem_filter.mpr ⟨h1, by simpa using tin a h1 h (h2.resolve_left h)⟩, rfl⟩, rfl⟩
theorem Fre.cut {h X : Int} (s : Fre As Ls m h X Y) (g : Good As Ls P) : Cut As Ls P [m, h] (cutK As [m, h]) (cutR As [m, h]) (sisA As m Y ++ freA As m h X) m Y := by
  have hin := g.inner_of s.aX
  have hY : h ≠ Y := fun e => hin (e ▸ s.lY)
  have hsp := g.split_of s.ah s.aY rfl fun e => hY (congrArg (·.2) e)
  have mh : m ≠ h := g.irr s.ah
  have mY : m ≠ Y := g.irr s.aY
  have hX : h ≠ X := g.irr s.aX
  have min := g.inner_of s.aY
  have mX : m ≠ X := fun e => min (e ▸ s.lX)
  have hd1 : dnN As h = 1 := by
    have e := s.up
    rcases g.deg h (g.ends _ s.aX).1 with ⟨z, _⟩ | ⟨_, ⟨z, _⟩ | ⟨_, z⟩⟩
    · exact absurd z hin
    · exact z
    · omega
  have XY : X ≠ Y := fun e => mh (congrArg (·.1) (g.leaf_arrow (a := (h, X)) s.lX s.aX s.aY e.symm))
  have upX := g.up1 s.lX s.aX
  have upY := g.up1 s.lY s.aY
  have inX : ∀ a ∈ As, a.2 = X → a = (h, X) := fun a ha e => g.leaf_arrow s.lX s.aX ha e
  have inY : ∀ a ∈ As, a.2 = Y → a = (m, Y) := fun a ha e => g.leaf_arrow s.lY s.aY ha e
  have kids : ∀ a ∈ As, a.1 = m → a.2 = h ∨ a.2 = Y := fun a ha e => by
    rcases g.two_kids s.ah s.aY ha rfl e fun e => hY (congrArg (·.2) e) with z | z
    · exact .inl (congrArg (·.2) z)
    · exact .inr (congrArg (·.2) z)
  have kid : ∀ a ∈ As, a.1 = h → a = (h, X) := fun a ha e => cnt_one (l := As) (q := fun c => c.1 == h) hd1 ha s.aX (by simpa using e) (by simp)
  have upR0 : ∀ p, p ∉ [m, h] → p ≠ Y → upN (cutR As [m, h]) p = if X = p then 1 else 0 := fun p hp hpY => by
    by_cases e : X = p
    · rw [if_pos e, ← upX, cutR_up]
      unfold upN
      refine List.countP_congr fun a ha => ?_
      rw [Bool.and_eq_true, beq_iff_eq, beq_iff_eq, Bool.or_eq_true, decide_eq_true_iff, decide_eq_true_iff]
      exact ⟨fun z => z.1.trans e.symm, fun z => ⟨z.trans e, .inl (by rw [inX a ha z]; simp)⟩⟩
    · rw [if_neg e, cutR_up]
      refine List.countP_eq_zero.mpr fun a ha z => ?_
      rw [Bool.and_eq_true, beq_iff_eq, Bool.or_eq_true, decide_eq_true_iff, decide_eq_true_iff] at z
      obtain ⟨e2, z1 | z1⟩ := z
      · simp only [List.mem_cons, List.not_mem_nil, or_false] at z1
        rcases z1 with z1 | z1
        · rcases kids a ha z1 with z2 | z2
          · exact hp (e2 ▸ z2 ▸ by simp)
          · exact hpY (e2 ▸ z2)
        · have := kid a ha z1
          rw [this] at e2
          exact e e2
      · exact hp (e2 ▸ z1)
  have frone : (As.filter fun a => a.2 == h && !(a.1 == m)).length = 1 := by
    have h1 : As.countP (fun a => (a.2 == h && a.1 == m) || (a.2 == h && !(a.1 == m))) = As.countP (fun a => a.2 == h && a.1 == m) + As.countP (fun a => a.2 == h && !(a.1 == m)) := cnt_or fun a _ z => by
      rw [Bool.and_eq_true] at z
      rw [z.2]
      simp
    have h2 : As.countP (fun a => (a.2 == h && a.1 == m) || (a.2 == h && !(a.1 == m))) = upN As h := by
      unfold upN
      refine List.countP_congr fun a _ => ?_
      cases a.2 == h <;> cases a.1 == m <;> simp
    have h3 : As.countP (fun a => a.2 == h && a.1 == m) = 1 := cnt_exact g.nd s.ah (by simp) fun b _ z => by
      rw [Bool.and_eq_true, beq_iff_eq, beq_iff_eq] at z
      exact Prod.ext z.2 z.1
    have h4 := s.up
    rw [← List.countP_eq_length_filter]
    omega
  have frm : ∀ a ∈ freA As m h X, ∃ b ∈ As, b.2 = h ∧ b.1 ≠ m ∧ a = (b.1, X) := fun a ha => by
    obtain ⟨b, hb, rfl⟩ := List.mem_map.mp ha
    obtain ⟨h1, h2⟩ := List.mem_filter.mp hb
    rw [Bool.and_eq_true, beq_iff_eq] at h2
    exact ⟨b, h1, h2.1, by simpa using h2.2, rfl⟩
  have sim : ∀ a ∈ sisA As m Y, ∃ b ∈ As, b.2 = m ∧ a = (b.1, Y) := fun a ha => by
    obtain ⟨b, hb, rfl⟩ := List.mem_map.mp ha
    obtain ⟨h1, h2⟩ := List.mem_filter.mp hb
    exact ⟨b, h1, by simpa using h2, rfl⟩
  have upF : ∀ p, upN (freA As m h X) p = if X = p then 1 else 0 := fun p => by rw [mapTo_up, frone]
  have nb : ∀ b ∈ As, b.2 = m → b.1 ≠ h := fun b hb e z => by
    have := kid b hb z
    rw [this] at e
    exact mX e.symm
  have YG : Y ∉ [m, h] := by simp [Ne.symm mY, Ne.symm hY]
  have XG : X ∉ [m, h] := by simp [Ne.symm mX, Ne.symm hX]
  refine ⟨filter_split _ As, fun a ha => touch_no.mp (List.mem_filter.mp ha).2, fun a ha => ?_, fun p hp => ?_, fun p hp hpY => ?_, ?_, ?_, fun a ha => ?_, List.nodup_append.mpr ⟨mapTo_nd (g.nd.filter _) (t := m) fun a ha => by simpa using (List.mem_filter.mp ha).2, mapTo_nd (g.nd.filter _) (t := h) fun a ha => ?_, fun a ha b hb e => ?_⟩, by simp, (g.ends _ s.aY).1, hsp.1, hsp.2, fun x hx hne => ?_, s.lY, YG, fun p hp e => ?_, ?_, fun rank hr a ha => ?_, fun f hf a ha => ?_, fun a ha hn => ?_⟩
  · rcases List.mem_append.mp ha with ha | ha
    · obtain ⟨b, hb, e, rfl⟩ := sim a ha
      have h4 := g.irr hb
      rw [e] at h4
      exact ⟨⟨(g.ends b hb).1, by simp [h4, nb b hb e]⟩, (g.ends _ s.aY).2, YG⟩
    · obtain ⟨b, hb, e, hm, rfl⟩ := frm a ha
      have h4 := g.irr hb
      rw [e] at h4
      exact ⟨⟨(g.ends b hb).1, by simp [hm, h4]⟩, (g.ends _ s.aX).2, XG⟩
  · rw [dnN_app, sisA_dn, freA_dn, cutR_dn, ← cnt_or fun a ha z => ?_]
    · refine List.countP_congr fun a ha => ?_
      rw [Bool.or_eq_true, Bool.and_eq_true, Bool.and_eq_true, Bool.and_eq_true, Bool.and_eq_true, beq_iff_eq, beq_iff_eq, beq_iff_eq, Bool.or_eq_true, decide_eq_true_iff, decide_eq_true_iff]
      constructor
      · rintro (⟨e, z⟩ | ⟨e, z, _⟩)
        · exact ⟨e, .inr (by rw [z]; simp)⟩
        · exact ⟨e, .inr (by rw [z]; simp)⟩
      · rintro ⟨e, z⟩
        have h1 : a.1 ∉ [m, h] := e ▸ hp
        have h2 := z.resolve_left h1
        simp only [List.mem_cons, List.not_mem_nil, or_false] at h2
        rcases h2 with h2 | h2
        · exact .inl ⟨e, h2⟩
        · exact .inr ⟨e, h2, by simpa using fun z => h1 (by rw [z]; simp)⟩
    · rw [Bool.and_eq_true, beq_iff_eq, beq_iff_eq] at z
      rw [z.2]
      simp [mh]
  · rw [upN_app, mapTo_up, if_neg (Ne.symm hpY), upF, upR0 p hp hpY, Nat.zero_add]
  · rw [cutR_up, ← upY]
    unfold upN
    refine List.countP_congr fun a ha => ?_
    rw [Bool.and_eq_true, beq_iff_eq, Bool.or_eq_true, decide_eq_true_iff, decide_eq_true_iff]
    exact ⟨fun z => z.1, fun e => ⟨e, .inl (by rw [inY a ha e]; simp)⟩⟩
  · rw [upN_app, upF, if_neg XY, mapTo_up, if_pos rfl, ← List.countP_eq_length_filter]
    rfl
  · rcases List.mem_append.mp ha with ha | ha
    · obtain ⟨b, hb, e, rfl⟩ := sim a ha
      exact .inl rfl
    · obtain ⟨b, hb, e, hm, rfl⟩ := frm a ha
      exact .inr ⟨upX, by rw [upR0 X XG XY, if_pos rfl]⟩
  · have := (List.mem_filter.mp ha).2
    rw [Bool.and_eq_true, beq_iff_eq] at this
    exact this.1
  · obtain ⟨_, _, _, rfl⟩ := sim a ha
    obtain ⟨_, _, _, _, rfl⟩ := frm b hb
    exact XY (congrArg (·.2) e).symm
  · simp only [List.mem_cons, List.not_mem_nil, or_false] at hx
    rcases hx with rfl | rfl
    · exact absurd rfl hne
    · rw [s.up]
      decide
  · have e1 : p ≠ Y := fun z => by rw [z, upY] at e; cases e
    have e2 : X ≠ p := fun z => by rw [← z, upX] at e; cases e
    rw [upR0 p hp e1, if_neg e2]
  · have h1 : As.countP (fun a => a.2 == m || a.2 == h) = upN As m + upN As h := cnt_or fun a _ z => by
      have z : a.2 = m := by simpa using z
      rw [z]
      simp [mh]
    have h2 : As.countP (fun a => a.2 == m || a.2 == h) ≤ As.countP (touch [m, h]) := List.countP_mono_left fun a _ z => by
      rw [Bool.or_eq_true, beq_iff_eq, beq_iff_eq] at z
      rw [Bool.or_eq_true, decide_eq_true_iff, decide_eq_true_iff]
      exact .inr (by rcases z with z | z <;> rw [z] <;> simp)
    have h3 := s.up
    rw [List.length_append, List.length_map, List.length_map, frone, ← List.countP_eq_length_filter, ← List.countP_eq_length_filter]
    unfold upN at h1 h3
    omega
  · rcases List.mem_append.mp ha with ha | ha
    · obtain ⟨b, hb, e, rfl⟩ := sim a ha
      have h3 := hr b hb
      rw [e] at h3
      exact Nat.lt_trans h3 (hr _ s.aY)
    · obtain ⟨b, hb, e, hm, rfl⟩ := frm a ha
      have h3 := hr b hb
      rw [e] at h3
      exact Nat.lt_trans h3 (hr _ s.aX)
  · have fY : f m < f Y := (hf.back _ s.aY).resolve_right fun z => by
      have := z.2
      dsimp only at this
      omega
    have fX : f h < f X := (hf.back _ s.aX).resolve_right fun z => by
      have := z.2
      dsimp only at this
      omega
    rcases List.mem_append.mp ha with ha | ha
    · obtain ⟨b, hb, e, rfl⟩ := sim a ha
      have h3 := hf.back b hb
      rw [e] at h3
      have h5 : f b.1 < f m := h3.resolve_right fun z => by
        have h6 := hsp.2
        have h7 := z.2
        dsimp only at h6 h7
        omega
      exact Int.lt_trans h5 fY
    · obtain ⟨b, hb, e, hm, rfl⟩ := frm a ha
      have h3 := hf.back b hb
      rw [e] at h3
      show f b.1 < f X
      rcases h3 with h3 | ⟨h3, _⟩ <;> omega
  · obtain ⟨h1, h2⟩ := List.mem_filter.mp ha
    rw [Bool.or_eq_true, decide_eq_true_iff, decide_eq_true_iff] at h2
    have h2 := h2.resolve_left hn
    simp only [List.mem_cons, List.not_mem_nil, or_false] at h2
    rcases h2 with h2 | h2
    · exact ⟨(a.1, Y), List.mem_append_left _ (List.mem_map.mpr ⟨a, List.mem_filter.mpr ⟨h1, by simpa using h2⟩, rfl⟩), rfl⟩
    · exact ⟨(a.1, X), List.mem_append_right _ (List.mem_map.mpr ⟨a, List.mem_filter.mpr ⟨h1, by rw [h2]; simpa using fun z => hn (by rw [z]; simp)⟩, rfl⟩), rfl⟩
/-! ### there is a pair -/
theorem max_exists (f : Int → Int) : ∀ {l : List Int}, l ≠ [] → ∃ p ∈ l, ∀ q ∈ l, f q ≤ f p
  | [], h => absurd rfl h
  | [a], _ => ⟨a, List.mem_cons_self, fun q hq => by rw [List.mem_singleton.mp hq]; exact Int.le_refl _⟩
  | a :: b :: l, _ => by
    obtain ⟨p, hp, h⟩ := max_exists f (l := b :: l) (by simp)
    by_cases c : f p ≤ f a
    · refine ⟨a, List.mem_cons_self, fun q hq => ?_⟩
      rcases List.mem_cons.mp hq with rfl | hq
      · exact Int.le_refl _
      · exact Int.le_trans (h q hq) c
    · refine ⟨p, List.mem_cons_of_mem _ hp, fun q hq => ?_⟩
      rcases List.mem_cons.mp hq with rfl | hq
      · omega
      · exact h q hq
theorem Good.pair (g : Good As Ls P) (hf : FitsC P As f) (hne : As ≠ []) : (∃ m X Y, Sis As Ls m X Y) ∨ ∃ m h X Y, Fre As Ls m h X Y := by
  obtain ⟨a0, ha0⟩ := List.exists_mem_of_ne_nil As hne
  have i0 : a0.1 ∈ P.filter fun p => decide (dnN As p ≠ 0) := List.mem_filter.mpr ⟨(g.ends a0 ha0).1, by have := dn_pos ha0; simp; omega⟩
  obtain ⟨p, hp, hmax⟩ := max_exists f (l := P.filter fun p => decide (dnN As p ≠ 0)) (List.ne_nil_of_mem i0)
  obtain ⟨hpP, hp0⟩ := List.mem_filter.mp hp
  have hp0 : dnN As p ≠ 0 := of_decide_eq_true hp0
  -- what lies later than the latest inner place is a leaf
  have leafy : ∀ q ∈ P, f p < f q → q ∈ Ls.map (·.1) := fun q hq hlt => by
    rcases g.deg q hq with ⟨h, _⟩ | ⟨_, h⟩
    · exact h
    · have := hmax q (List.mem_filter.mpr ⟨hq, by simp; omega⟩)
      omega
  have later : ∀ q ∈ P, dnN As q ≠ 0 → f q = f p → ∃ c, (q, c) ∈ As ∧ c ∈ Ls.map (·.1) := fun q hq h0 e => by
    obtain ⟨a, ha, e2, hlt⟩ := (hf.late q hq).resolve_left h0
    refine ⟨a.2, by rw [← e2]; exact ha, leafy a.2 (g.ends a ha).2 (by omega)⟩
  obtain ⟨c, hc, lc⟩ := later p hpP hp0 rfl
  rcases g.deg p hpP with ⟨_, h, _⟩ | ⟨hin, ⟨h1, h2⟩ | ⟨h1, h2⟩⟩
  · exact absurd h hp0
  · -- a mixing: its giver is a split of the same moment
    have hg := hf.gift p hpP h2
    obtain ⟨b, hb, e⟩ := List.countP_pos_iff.mp (show 0 < As.countP fun a => a.2 == p && f a.1 == f p by unfold gfN at hg; omega)
    rw [Bool.and_eq_true, beq_iff_eq, beq_iff_eq] at e
    have hb0 := dn_pos hb
    obtain ⟨d, hd, ld⟩ := later b.1 (g.ends b hb).1 (by omega) e.2
    exact .inr ⟨b.1, p, c, d, hd, by rw [← e.1]; exact hb, hc, h2, lc, ld⟩
  · -- a split
    have h3 : ∃ c2, (p, c2) ∈ As ∧ c2 ≠ c := by
      refine Classical.byContradiction fun hno => ?_
      have := cnt_exact g.nd (q := fun a => a.1 == p) hc (by simp) fun b hb e => by
        have e : b.1 = p := by simpa using e
        refine Classical.byContradiction fun z => hno ⟨b.2, by rw [← e]; exact hb, fun w => z (Prod.ext e w)⟩
      unfold dnN at h1
      omega
    obtain ⟨c2, hc2, hne2⟩ := h3
    have c2P := (g.ends _ hc2).2
    rcases g.deg c2 c2P with ⟨l2, _⟩ | ⟨_, d2⟩
    · exact .inl ⟨p, c, c2, hc, hc2, Ne.symm hne2, lc, l2⟩
    · have hm := hmax c2 (List.mem_filter.mpr ⟨c2P, by simp; omega⟩)
      have hb := hf.back _ hc2
      dsimp only at hb
      have e : f c2 = f p := by
        rcases hb with hb | ⟨hb, _⟩ <;> omega
      have u2 : upN As c2 = 2 := by
        rcases hb with hb | ⟨_, hb⟩
        · omega
        · exact hb
      obtain ⟨x, hx, lx⟩ := later c2 c2P (by omega) e
      exact .inr ⟨p, c2, x, c, hc, hc2, hx, u2, lx, lc⟩
/-! ### how many splits -/
theorem sum_le {u v : Int → Nat} : ∀ {Q : List Int}, (∀ p ∈ Q, u p ≤ v p) → (Q.map u).sum ≤ (Q.map v).sum
  | [], _ => Nat.le_refl _
  | p :: Q, h => by
    have h1 := sum_le (Q := Q) fun q hq => h q (List.mem_cons_of_mem _ hq)
    have h2 := h p List.mem_cons_self
    rw [List.map_cons, List.map_cons, List.sum_cons, List.sum_cons]
    omega
theorem sum_add {u v : Int → Nat} : ∀ (Q : List Int), (Q.map fun p => u p + v p).sum = (Q.map u).sum + (Q.map v).sum
  | [] => rfl
  | p :: Q => by
    rw [List.map_cons, List.map_cons, List.map_cons, List.sum_cons, List.sum_cons, List.sum_cons, sum_add Q]
    omega
theorem sum_ind (q : Int → Bool) : ∀ (Q : List Int), (Q.map fun p => if q p = true then 1 else 0).sum = Q.countP q
  | [] => rfl
  | p :: Q => by
    rw [List.map_cons, List.sum_cons, sum_ind q Q, List.countP_cons]
    omega
theorem sum_cnt {Q : List Int} (nd : Q.Nodup) (k : Int × Int → Int) : ∀ {As : List (Int × Int)}, (∀ a ∈ As, k a ∈ Q) → (Q.map fun p => As.countP fun a => k a == p).sum = As.length
  | [], _ => by
    have : ∀ Q : List Int, (Q.map fun _ => 0).sum = 0 := fun Q => by
      induction Q with
      | nil => rfl
      | cons a l ih => rw [List.map_cons, List.sum_cons, ih]
    exact this Q
  | a :: As, h => by
    have ih := sum_cnt nd k (As := As) fun b hb => h b (List.mem_cons_of_mem _ hb)
    have e : (Q.map fun p => (a :: As).countP fun a => k a == p) = Q.map fun p => (As.countP fun a => k a == p) + if (k a == p) = true then 1 else 0 := List.map_congr_left fun p _ => List.countP_cons
    rw [e, sum_add, ih, sum_ind]
    have h1 : Q.countP (fun p => k a == p) = 1 := by
      rw [List.countP_eq_length_filter]
      have h2 := nodup_le (L := Q.filter fun p => k a == p) (M := [k a]) (nd.filter _) fun p hp => by
        have := (List.mem_filter.mp hp).2
        rw [beq_iff_eq] at this
        rw [this]
        exact List.mem_cons_self
      have h3 := List.length_pos_of_mem (List.mem_filter.mpr ⟨h a List.mem_cons_self, by simp⟩ : k a ∈ Q.filter fun p => k a == p)
      simp only [List.length_cons, List.length_nil] at h2
      omega
    rw [h1, List.length_cons]
theorem Good.splits (g : Good As Ls P) : (P.filter fun p => dnN As p == 2).length ≤ 20 := by
  have h1 := sum_cnt g.asc.nodup (·.1) (As := As) fun a ha => (g.ends a ha).1
  have h2 := sum_cnt g.asc.nodup (·.2) (As := As) fun a ha => (g.ends a ha).2
  have h3 := sum_le (Q := P) (u := fun p => upN As p + if (dnN As p == 2) = true then 1 else 0) (v := fun p => dnN As p + ((if decide (p ∈ Ls.map (·.1)) = true then 1 else 0) + if (upN As p == 2) = true then 1 else 0)) fun p hp => by
    rcases g.deg p hp with ⟨h, d, u⟩ | ⟨h, ⟨d, u⟩ | ⟨d, u⟩⟩
    · rw [d, if_pos (decide_eq_true h)]
      simp
      omega
    · rw [d, u]
      simp
      omega
    · rw [d]
      simp
      omega
  rw [sum_add, sum_add, sum_add, sum_ind, sum_ind, sum_ind] at h3
  have h4 : (P.map (upN As)).sum = As.length := h2
  have h5 : (P.map (dnN As)).sum = As.length := h1
  have h6 := g.mix
  have h7 : P.countP (fun p => decide (p ∈ Ls.map (·.1))) ≤ Ls.length := by
    rw [List.countP_eq_length_filter, ← List.length_map (f := (·.1)) (as := Ls)]
    exact nodup_le (g.asc.nodup.filter _) fun p hp => of_decide_eq_true (List.mem_filter.mp hp).2
  have h8 := g.l12.2
  rw [← List.countP_eq_length_filter] at h6 ⊢
  rw [h4, h5] at h3
  omega
end
/-! ### d.update(d2) -/
def tDUpd (td ty : TE) : TE := fun σ H Q => td σ H fun x H1 => ∃ a, x = .ref a ∧ IsD H1 a ∧ ty σ H1 fun y H2 => ∃ (b : Addr) (kvs more : List (Key × V)), y = .ref b ∧ a ≠ b ∧ H2 a = some (.dK kvs) ∧ H2 b = some (.dK more) ∧ kvs.length + more.length ≤ sizeLine ∧ Q .non (upd H2 a (.dK (mergeK kvs more)))
/-! ### two walks in one comprehension -/
theorem flat_len {α β : Type} {g : α → List β} {c : Nat} : ∀ {l : List α}, (∀ m ∈ l, (g m).length ≤ c) → (l.flatMap g).length ≤ c * l.length
  | [], _ => Nat.zero_le _
  | a :: l, h => by
    have h1 := flat_len (g := g) (c := c) (l := l) fun m hm => h m (List.mem_cons_of_mem _ hm)
    have h2 := h a List.mem_cons_self
    rw [List.flatMap_cons, List.length_append, List.length_cons, Nat.mul_succ]
    omega
theorem lc2_intF {K : PySem.W.Frag} {td td1 : TE} {a : Addr} {ns : List Int} {ia ie : Nat} {tt : TT} {vs vs1 : List Nat} {σ : L2.St} {H : Hp} {Q : VK} (htd : ∀ R : V → Hp → Prop, R (.ref a) H → td σ H R) (ea : H a = some (.lst (ns.map V.int))) (val : Int → List Int) (p : Int → Int → Bool) (hc : ∀ m ∈ ns, (val m).length ≤ 100) (hn : ns.length ≤ 100)
    (hw : ∀ v, wipe ((wipe σ vs).set ia (some v)) vs = wipe σ vs)
    (hw1 : ∀ v u, wipe ((wipe ((wipe σ vs).set ia (some v)) vs1).set ie (some u)) vs1 = wipe ((wipe σ vs).set ia (some v)) vs1) (hv1 : ∀ v u, ((wipe ((wipe σ vs).set ia (some v)) vs1).set ie (some u))[ie]? = some (some u))
    (h1 : ∀ m ∈ ns, ∀ (H1 : Hp) (R : V → Hp → Prop), Same H H1 → (∀ (b : Addr) (H2 : Hp), Same H1 H2 → (H1 b = none ∨ H b ≠ none) → H2 b = some (.lst ((val m).map V.int)) → R (.ref b) H2) → td1 ((wipe σ vs).set ia (some (.int m))) H1 R)
    (h2 : ∀ m ∈ ns, ∀ q ∈ val m, ∀ (H1 : Hp) (k : Bool → Hp → Prop), Same H H1 → (∀ H2, Same H1 H2 → k (p m q) H2) → tt ((wipe ((wipe σ vs).set ia (some (.int m))) vs1).set ie (some (.int q))) H1 k)
    (hd : ∀ D H', H D = none → Same H H' → H' D = some (.lst ((ns.flatMap fun m => (val m).filter (p m)).map V.int)) → Q (.ref D) H') :
    tLc2 (iList K td) (gName ia) tYes (iList K td1) (gName ie) tt (tVar ie) vs vs1 σ H Q := by
  refine htd _ ⟨a, rfl, ⟨_, .of ea⟩, fun D nD => ?_⟩
  refine loop_it (walk_list (K := K) (a := a) (xs := ns.map V.int)) (fun i H' => Same H H' ∧ H' D = some (.lst (((ns.take i).flatMap fun m => (val m).filter (p m)).map V.int))) ⟨same_new (Same.refl H) nD, upd_same⟩ (fun i H' _ hp => .of (hp.1 _ _ ea))
    (Step := fun Nx x H' => gName ia x (wipe σ vs) H' fun σ2 H2 => wipe σ2 vs = wipe σ vs ∧ tYes σ2 H2 fun b H3 => if b = true then iList K td1 σ2 H3 fun J1 H4 => ∃ W1 : Nat → Nat → Hp → Prop, (∃ m, W1 0 m H4) ∧ ∀ j k H, W1 j k H →
      (J1.stop j H ∧ Nx H) ∨ (J1.go j H ∧ ∃ Nx1 : Hp → Prop, (∀ H', Nx1 H' → ∃ k', k' < k ∧ W1 (j + 1) k' H') ∧ ∀ x H', J1.yld j H x H' → gName ie x (wipe σ2 vs1) H' fun σ3 H5 => wipe σ3 vs1 = wipe σ2 vs1 ∧ tt σ3 H5 fun b H6 =>
        if b = true then tVar ie σ3 H6 fun y H7 => ∃ acc, H7 D = some (.lst acc) ∧ acc.length < sizeLine ∧ Nx1 (upd H7 D (.lst (acc ++ [y]))) else Nx1 H6) else Nx H3) ?_ ?_
  · rintro i x H1 H2 hi ⟨sm, eD⟩ ⟨rfl, hxi⟩
    obtain ⟨m, em, rfl⟩ := int_at hxi
    have hm := List.mem_of_getElem? em
    refine ⟨hw _, ?_⟩
    unfold tYes
    dsimp only
    rw [if_pos rfl]
    refine h1 m hm _ _ sm fun b H3 s3 hb eb => ⟨b, rfl, ⟨_, .of eb⟩, ?_⟩
    have eD3 := s3 _ _ eD
    have nbD : b ≠ D := fun z => by
      rcases hb with h | h
      · rw [z, eD] at h
        cases h
      · exact h (z ▸ nD)
    refine loop_it (walk_list (K := K) (a := b) (xs := (val m).map V.int)) (fun k H' => Same H H' ∧ H' b = some (.lst ((val m).map V.int)) ∧ H' D = some (.lst (((ns.take i).flatMap (fun m => (val m).filter (p m)) ++ ((val m).take k).filter (p m)).map V.int))) ⟨sm.trans s3, eb, by rw [List.take_zero, List.filter_nil, List.append_nil]; exact eD3⟩
      (fun k H' _ hp => .of hp.2.1)
      (Step := fun Nx1 x H' => gName ie x (wipe ((wipe σ vs).set ia (some (.int m))) vs1) H' fun σ3 H5 => wipe σ3 vs1 = wipe ((wipe σ vs).set ia (some (.int m))) vs1 ∧ tt σ3 H5 fun b H6 =>
        if b = true then tVar ie σ3 H6 fun y H7 => ∃ acc, H7 D = some (.lst acc) ∧ acc.length < sizeLine ∧ Nx1 (upd H7 D (.lst (acc ++ [y]))) else Nx1 H6) ?_ ?_
    · rintro k x H4 H5 hk ⟨sm4, eb4, eD4⟩ ⟨rfl, hxk⟩
      obtain ⟨q, eq, rfl⟩ := int_at hxk
      refine ⟨hw1 _ _, h2 m hm q (List.mem_of_getElem? eq) _ _ sm4 fun H6 s6 => ?_⟩
      cases hpq : p m q with
      | false =>
        refine ite2 (fun e => absurd e (by decide)) fun _ => ?_
        refine ⟨sm4.trans s6, s6 _ _ eb4, ?_⟩
        rw [← take_snoc eq, List.filter_append, List.filter_cons_of_neg (by rw [hpq]; decide), List.filter_nil, List.append_nil]
        exact s6 _ _ eD4
      | true =>
        refine ite2 (fun _ => ?_) fun e => absurd rfl e
        have s46 := sm4.trans s6
        refine ⟨_, hv1 _ _, _, s6 _ _ eD4, ?_, fun c o e => ?_, ?_, ?_⟩
        · have h1 := flat_len (g := fun m => (val m).filter (p m)) (c := 100) (l := ns.take i) fun m hm => Nat.le_trans (List.length_filter_le _ _) (hc m (List.mem_of_mem_take hm))
          have h2 := List.length_filter_le (p m) ((val m).take k)
          have h3 := hc m hm
          have h4 : (ns.take i).length ≤ 100 := by rw [List.length_take]; omega
          have sz : 100000 < sizeLine := by decide
          rw [List.length_take] at h2
          rw [List.length_map, List.length_append]
          have h5 : 100 * (ns.take i).length ≤ 100 * 100 := Nat.mul_le_mul_left _ h4
          omega
        · rw [upd_ne (ne_of_none e nD)]
          exact s46 _ _ e
        · rw [upd_ne nbD]
          exact s6 _ _ eb4
        · rw [upd_same, ← take_snoc eq, List.filter_append, List.filter_cons_of_pos hpq, List.filter_nil, ← List.append_assoc, List.map_append (l₂ := [q])]
          rfl
    · rintro H' ⟨sm4, _, eD4⟩
      rw [List.length_map, List.take_length] at eD4
      refine ⟨sm4, ?_⟩
      rw [← take_snoc em, List.flatMap_append, List.flatMap_cons, List.flatMap_nil, List.append_nil]
      exact eD4
  · rintro H' ⟨sm, eD⟩
    rw [List.length_map, List.take_length] at eD
    exact hd D H' nD sm eD
end Lg

/-! What the plucking defs read: pairs of texts, the words beside a leaf. -/
namespace Lg
open PySem PySem.Spec PyProof.Rows L2
theorem lc2_td {K : PySem.W.Frag} {td te : TE} {g g1 : TG} {tt tt1 : TT} {wi1 : TI} {vs vs1 : List Nat} {σ : L2.St} {H : Hp} {Q : VK} (h : td σ H fun x H1 => tLc2 (iList K fun _ H R => R x H) g tt wi1 g1 tt1 te vs vs1 σ H1 Q) : tLc2 (iList K td) g tt wi1 g1 tt1 te vs vs1 σ H Q := h
section
variable {As : List (Int × Int)} {Ls : List (Int × Str)} {P : List Int}
/-- beside a place -/
def sisL (Bs : List (Int × Int)) (p : Int) : List Int := (upsOf Bs p).flatMap fun m => (downsOf Bs m).filter fun c => !decide (c = p)
def wrdOf (Bs : List (Int × Int)) (b : Int) : List (Int × Str) :=
  if (downsOf Bs b).length = 0 then [(b, "sister")] else if (downsOf Bs b).length = 1 then ((downsOf Bs b).filter fun c => (downsOf Bs c).isEmpty).map fun c => (c, "freed") else []
/-- the words beside a leaf -/
def wrd (Bs : List (Int × Int)) (p : Int) : List (Int × Str) := (sisL Bs p).flatMap (wrdOf Bs)
abbrev wKs (L : List (Int × Str)) : HO := .dK (L.map fun p => ((.inl p.1 : Key), V.str p.2))
theorem two_list {l : List Int} {x y : Int} (h : l.length = 2) (hx : x ∈ l) (hy : y ∈ l) (hne : x ≠ y) : l = [x, y] ∨ l = [y, x] := by
  match l, h with
  | [a, b], _ =>
    simp only [List.mem_cons, List.not_mem_nil, or_false] at hx hy
    rcases hx with rfl | rfl <;> rcases hy with rfl | rfl
    · exact absurd rfl hne
    · exact .inl rfl
    · exact .inr rfl
    · exact absurd rfl hne
theorem one_list {l : List Int} {x : Int} (h : l.length = 1) (hx : x ∈ l) : l = [x] := by
  match l, h with
  | [a], _ => rw [List.mem_singleton.mp hx]
theorem Good.ups_leaf (g : Good As Ls P) (hB : SrtA As As) {a : Int × Int} (ha : a ∈ As) (hl : a.2 ∈ Ls.map (·.1)) : upsOf As a.2 = [a.1] :=
  one_list ((ups_len g hB a.2).trans (g.up1 hl ha)) (mem_ups.mpr ha)
theorem Good.downs_leaf (g : Good As Ls P) (hB : SrtA As As) {p : Int} (hl : p ∈ Ls.map (·.1)) : downsOf As p = [] := (Good.leafy g hB (g.leafdeg hl).1).mp hl
variable {m h X Y : Int}
theorem Sis.word (s : Sis As Ls m X Y) (g : Good As Ls P) (hB : SrtA As As) : wrd As Y = [(X, ("sister" : Str))] := by
  have hu := g.ups_leaf hB s.aY s.lY
  have hd := two_list ((downs_len g hB m).trans (g.split_of s.aX s.aY rfl fun e => s.ne (congrArg (·.2) e)).1) (mem_downs.mpr s.aX) (mem_downs.mpr s.aY) s.ne
  have e : sisL As Y = [X] := by
    unfold sisL
    rw [hu, List.flatMap_cons, List.flatMap_nil, List.append_nil]
    have := s.ne
    rcases hd with hd | hd <;> rw [hd] <;> simp [this]
  unfold wrd
  rw [e, List.flatMap_cons, List.flatMap_nil, List.append_nil]
  unfold wrdOf
  rw [g.downs_leaf hB s.lX]
  rfl
theorem Fre.hY (s : Fre As Ls m h X Y) (g : Good As Ls P) : h ≠ Y := fun e => g.inner_of s.aX (e ▸ s.lY)
theorem Fre.word (s : Fre As Ls m h X Y) (g : Good As Ls P) (hB : SrtA As As) : wrd As Y = [(X, ("freed" : Str))] := by
  have hne := s.hY g
  have hu := g.ups_leaf hB s.aY s.lY
  have hd := two_list ((downs_len g hB m).trans (g.split_of s.ah s.aY rfl fun e => hne (congrArg (·.2) e)).1) (mem_downs.mpr s.ah) (mem_downs.mpr s.aY) hne
  have e : sisL As Y = [h] := by
    unfold sisL
    rw [hu, List.flatMap_cons, List.flatMap_nil, List.append_nil]
    rcases hd with hd | hd <;> rw [hd] <;> simp [hne]
  have h1 : dnN As h = 1 := by
    have e := s.up
    rcases g.deg h (g.ends _ s.aX).1 with ⟨z, _⟩ | ⟨_, ⟨z, _⟩ | ⟨_, z⟩⟩
    · exact absurd z (g.inner_of s.aX)
    · exact z
    · omega
  have hk := one_list ((downs_len g hB h).trans h1) (mem_downs.mpr s.aX)
  unfold wrd
  rw [e, List.flatMap_cons, List.flatMap_nil, List.append_nil]
  unfold wrdOf
  rw [hk, if_neg (by simp), if_pos (by rfl), List.filter_cons_of_pos (by rw [g.downs_leaf hB s.lX]; rfl)]
  rfl
end
/-! ### sorted of pairs of texts -/
abbrev S2 := Str × Str
def lexSS (p q : S2) : Bool := if p.1 = q.1 then decide (p.2.cps.toList < q.2.cps.toList) else decide (p.1.cps.toList < q.1.cps.toList)
theorem lexSS_iff {p q : S2} : lexSS p q = true ↔ (p.1 ≠ q.1 ∧ p.1.cps.toList < q.1.cps.toList) ∨ (p.1 = q.1 ∧ p.2.cps.toList < q.2.cps.toList) := by
  unfold lexSS
  by_cases e : p.1 = q.1
  · rw [if_pos e, decide_eq_true_eq]
    exact ⟨fun h => .inr ⟨e, h⟩, fun h => h.elim (fun z => absurd e z.1) (fun z => z.2)⟩
  · rw [if_neg e, decide_eq_true_eq]
    exact ⟨fun h => .inl ⟨e, h⟩, fun h => h.elim (fun z => z.2) (fun z => absurd z.1 e)⟩
theorem lexSS_no {p q : S2} : lexSS p q = false ↔ ¬ ((p.1 ≠ q.1 ∧ p.1.cps.toList < q.1.cps.toList) ∨ (p.1 = q.1 ∧ p.2.cps.toList < q.2.cps.toList)) := by
  rw [← lexSS_iff]
  cases lexSS p q <;> simp
theorem str_eq {x y : Str} (h : x.cps.toList = y.cps.toList) : x = y := Classical.byContradiction fun e => str_ne e h
theorem swoSS {α : Type} (k : α → S2) : SrtO.Swo fun v u => lexSS (k v) (k u) := by
  refine ⟨fun x y h => ?_, fun x y z h1 h2 => ?_⟩
  · refine lexSS_no.mpr fun h' => ?_
    rcases lexSS_iff.mp h with ⟨_, a⟩ | ⟨a, a2⟩ <;> rcases h' with ⟨b, b2⟩ | ⟨b, b2⟩
    · exact List.lt_asymm a b2
    · rw [b] at a
      exact List.lt_irrefl _ a
    · exact b a.symm
    · exact List.lt_asymm a2 b2
  · have a := lexSS_no.mp h1
    have b := lexSS_no.mp h2
    refine lexSS_no.mpr fun h' => ?_
    have lt_or : ∀ {p q : Str}, p ≠ q → ¬ p.cps.toList < q.cps.toList → q.cps.toList < p.cps.toList := fun {p q} hne hn => by
      rcases List.le_iff_lt_or_eq.mp (List.not_lt.mp hn) with h | h
      · exact h
      · exact absurd (str_eq h).symm hne
    by_cases e1 : (k y).1 = (k x).1
    · have a2 : ¬ (k y).2.cps.toList < (k x).2.cps.toList := fun q => a (.inr ⟨e1, q⟩)
      by_cases e2 : (k z).1 = (k y).1
      · have b2 : ¬ (k z).2.cps.toList < (k y).2.cps.toList := fun q => b (.inr ⟨e2, q⟩)
        rcases h' with ⟨h', _⟩ | ⟨_, h'⟩
        · exact h' (e2.trans e1)
        · exact absurd h' (List.not_lt.mpr (List.le_trans (List.not_lt.mp a2) (List.not_lt.mp b2)))
      · have b1 : ¬ (k z).1.cps.toList < (k y).1.cps.toList := fun q => b (.inl ⟨e2, q⟩)
        rcases h' with ⟨_, h'⟩ | ⟨h', _⟩
        · rw [e1] at b1
          exact b1 h'
        · exact e2 (h'.trans e1.symm)
    · have a1 : ¬ (k y).1.cps.toList < (k x).1.cps.toList := fun q => a (.inl ⟨e1, q⟩)
      have a3 := lt_or e1 a1
      by_cases e2 : (k z).1 = (k y).1
      · rcases h' with ⟨_, h'⟩ | ⟨h', _⟩
        · rw [e2] at h'
          exact a1 h'
        · exact e1 (e2.symm.trans h')
      · have b1 : ¬ (k z).1.cps.toList < (k y).1.cps.toList := fun q => b (.inl ⟨e2, q⟩)
        have b3 := lt_or e2 b1
        have c := List.lt_trans a3 b3
        rcases h' with ⟨_, h'⟩ | ⟨h', _⟩
        · exact List.lt_asymm c h'
        · rw [h'] at c
          exact List.lt_irrefl _ c
/-- v is a pair of texts -/
def IsSS (h : Heap) (v : Value) (x y : Str) : Prop := ∃ a o t u n, v = .ref a ∧ h.get? a = some o ∧ o.cls = .type "tuple" ∧ o.data = .seq #[.str x t, .str y u] n
theorem IsSS.keeps {h h' : Heap} {v : Value} {x y : Str} (p : IsSS h v x y) (k : ∀ b o, h.get? b = some o → o.cls = .type "tuple" → h'.get? b = some o) : IsSS h' v x y :=
  let ⟨a, o, t, u, n, e, ho, hc, hd⟩ := p
  ⟨a, o, t, u, n, e, k _ _ ho hc, hc, hd⟩
section
variable {prog : Program} {w : World} {A : Around} {s : Shared}
end
section
variable {X : Cx}
abbrev ltSS (k : V → S2) (x y : V) : Bool := lexSS (k x) (k y)
def rSortedSS (K : PySem.W.Frag) : List V → Hp → VK → Prop := fun vs H Q => ∃ (a : Addr) (xs : List V) (k : V → S2), vs = [V.ref a] ∧ SqL K H a xs ∧
  (∀ x ∈ xs, ∃ t, x = V.ref t ∧ H t = some (.tup [.str (k x).1, .str (k x).2])) ∧
  ∀ ys p, SrtO.Srtd (ltSS k) ys → SrtO.Stb (ltSS k) ys xs → H p = none → Q (.ref p) (upd H p (.lst ys))
end
/-! ### lists of pairs of texts -/
abbrev ssd (p : S2) : PyData := .tuple [.str p.1, .str p.2]
section
variable {S : Av} {H : Hp}
theorem Da.ss {v : V} {p : S2} (h : Da S H v (ssd p)) : ∃ t, v = .ref t ∧ ¬ S t ∧ H t = some (.tup [.str p.1, .str p.2]) := by
  cases h with
  | tup n e r =>
    cases r with
    | cons a r =>
    cases r with
    | cons b r =>
    cases r
    rw [a.strV, b.strV] at e
    exact ⟨_, rfl, n, e⟩
def ssAt (H : Hp) : V → S2
  | .ref t => match H t with
    | some (.tup [.str a, .str b]) => (a, b)
    | _ => ("", "")
  | _ => ("", "")
end
/-! ### what the law finds -/
section
variable {As : List (Int × Int)} {Ls : List (Int × Str)} {P : List Int}
def pT (As : List (Int × Int)) (u : Int) : List Int := if (downsOf As u).length = 1 then upsOf As u else [u]
def pKq (As : List (Int × Int)) (Ls : List (Int × Str)) (X t k : Int) : Bool := decide ((downsOf As t).length = 2) && (decide (k ∈ Ls.map (·.1)) && !decide (k = X))
def pK (As : List (Int × Int)) (Ls : List (Int × Str)) (nm : Int → Str) (l : Int × Str) (t : Int) (ks : List Int) : List S2 := (ks.filter (pKq As Ls l.1 t)).map fun k => (l.2, nm k)
def pU (As : List (Int × Int)) (Ls : List (Int × Str)) (nm : Int → Str) (l : Int × Str) (u : Int) : List S2 := (pT As u).flatMap fun t => pK As Ls nm l t (downsOf As t)
def pL (As : List (Int × Int)) (Ls : List (Int × Str)) (nm : Int → Str) (l : Int × Str) : List S2 := (upsOf As l.1).flatMap (pU As Ls nm l)
end
theorem Sis.perm {As : List (Int × Int)} {Ls Ms : List (Int × Str)} {m X Y : Int} (s : Sis As Ls m X Y) (h : Ms.Perm Ls) : Sis As Ms m X Y := ⟨s.aX, s.aY, s.ne, (h.map _).mem_iff.mpr s.lX, (h.map _).mem_iff.mpr s.lY⟩
theorem Fre.perm {As : List (Int × Int)} {Ls Ms : List (Int × Str)} {m h X Y : Int} (s : Fre As Ls m h X Y) (p : Ms.Perm Ls) : Fre As Ms m h X Y := ⟨s.aY, s.ah, s.aX, s.up, (p.map _).mem_iff.mpr s.lX, (p.map _).mem_iff.mpr s.lY⟩
/-- what one plucking leaves -/
theorem Cut.step {As : List (Int × Int)} {Ls : List (Int × Str)} {P : List Int} {f : Int → Int} {G : List Int} {A Bs1 : List (Int × Int)} {m Y : Int} (c : Cut As Ls P G (cutK As G) (cutR As G) A m Y) (g : Good As Ls P) (hf : FitsC P As f) (hB1 : SrtA (cutK As G ++ A) Bs1) :
    Good Bs1 (cutL Ls G) (cutP P G) ∧ SrtA Bs1 Bs1 ∧ FitsC (cutP P G) Bs1 f ∧ ((cutP P G).filter fun p => dnN Bs1 p == 2).length < (P.filter fun p => dnN As p == 2).length := by
  refine ⟨(c.good g).perm hB1.1 (.refl _), ⟨.refl _, hB1.2⟩, (c.fits g hf).perm hB1.1, ?_⟩
  have e : ((cutP P G).filter fun p => dnN Bs1 p == 2) = (cutP P G).filter fun p => dnN (cutK As G ++ A) p == 2 := List.filter_congr fun p _ => by
    unfold dnN
    rw [hB1.1.countP_eq]
  rw [e]
  exact c.less g
end Lg

/-! The pairs that can be plucked, as one sorted list; plucking told in one way. -/
namespace Lg
open PySem PySem.Spec PyProof.Rows L2
section
variable {X : Cx} {tg e : Expr} {td : TE}
/-- for k in (a dict just made): it stays locked -/
def iKeysN (td : TE) : TI := fun σ H R => td σ H fun x H1 => ∃ d kvs, x = .ref d ∧ H1 d = some (.dK kvs) ∧ ∀ od, R (Itk d od kvs) (upd H1 d (.frz od (.dK kvs)))
end
/-! ### sorted lists of pairs of texts -/
theorem lexSS_asym {a b : S2} (h : lexSS a b = true) : lexSS b a = false := (swoSS (fun z : S2 => z)).asym a b h
theorem lexSS_nd {L : List S2} (h : L.Pairwise fun a b => lexSS a b = true) : L.Nodup :=
  h.imp fun {a b} h e => by
    subst e
    have := lexSS_asym h
    rw [h] at this
    cases this
/-! ### pairs: X plucked, Y stays, m the place above -/
abbrev Pk (As : List (Int × Int)) (Ls : List (Int × Str)) (m X Y : Int) : Prop := Sis As Ls m X Y ∨ ∃ h, Fre As Ls m h X Y
structure PrsQ (As : List (Int × Int)) (Ls : List (Int × Str)) (q : Int → Prop) (L : List S2) : Prop where
  srt : L.Pairwise fun a b => lexSS a b = true
  mem : ∀ z, z ∈ L ↔ ∃ x ∈ Ls, ∃ y ∈ Ls, ∃ m, q m ∧ z = (x.2, y.2) ∧ Pk As Ls m x.1 y.1
abbrev Prs (As : List (Int × Int)) (Ls : List (Int × Str)) (L : List S2) : Prop := PrsQ As Ls (fun _ => True) L
section
variable {As : List (Int × Int)} {Ls Ms : List (Int × Str)} {P : List Int} {q : Int → Prop} {L M : List S2} {m X Y : Int}
theorem PrsQ.uniq (h1 : PrsQ As Ls q L) (h2 : PrsQ As Ls q M) : L = M := by
  refine perm_pair_eq ?_ h1.srt h2.srt fun a _ b _ h h' => by rw [lexSS_asym h] at h'; cases h'
  exact (List.perm_ext_iff_of_nodup (lexSS_nd h1.srt) (lexSS_nd h2.srt)).mpr fun z => (h1.mem z).trans (h2.mem z).symm
theorem Pk.perm (h : Pk As Ls m X Y) (p : Ms.Perm Ls) : Pk As Ms m X Y := by
  rcases h with h | ⟨z, h⟩
  · exact .inl (h.perm p)
  · exact .inr ⟨z, h.perm p⟩
theorem PrsQ.perm (h : PrsQ As Ls q L) (p : Ms.Perm Ls) : PrsQ As Ms q L where
  srt := h.srt
  mem z := by
    rw [h.mem z]
    constructor
    · rintro ⟨x, hx, y, hy, m, hq, e, k⟩
      exact ⟨x, p.mem_iff.mpr hx, y, p.mem_iff.mpr hy, m, hq, e, Pk.perm k p⟩
    · rintro ⟨x, hx, y, hy, m, hq, e, k⟩
      exact ⟨x, p.mem_iff.mp hx, y, p.mem_iff.mp hy, m, hq, e, Pk.perm k p.symm⟩
theorem Pk.aY (h : Pk As Ls m X Y) : (m, Y) ∈ As := by
  rcases h with h | ⟨_, h⟩ <;> exact h.aY
theorem Pk.lX (h : Pk As Ls m X Y) : X ∈ Ls.map (·.1) := by
  rcases h with h | ⟨_, h⟩ <;> exact h.lX
theorem Pk.lY (h : Pk As Ls m X Y) : Y ∈ Ls.map (·.1) := by
  rcases h with h | ⟨_, h⟩ <;> exact h.lY
theorem Pk.ups (h : Pk As Ls m X Y) (g : Good As Ls P) (hB : SrtA As As) : upsOf As Y = [m] := g.ups_leaf hB (a := (m, Y)) (Pk.aY h) (Pk.lY h)
theorem Pk.dn2 (h : Pk As Ls m X Y) (g : Good As Ls P) : dnN As m = 2 := by
  rcases h with h | ⟨_, h⟩
  · exact (h.cut g).mdn
  · exact (h.cut g).mdn
theorem Pk.mP (h : Pk As Ls m X Y) (g : Good As Ls P) : m ∈ P := (g.ends _ (Pk.aY h)).1
theorem Pk.words (h : Pk As Ls m X Y) (g : Good As Ls P) (hB : SrtA As As) : (wrd As Y).map (·.1) = [X] := by
  rcases h with h | ⟨_, h⟩
  · rw [h.word g hB]
    rfl
  · rw [h.word g hB]
    rfl
/-- what the program finds -/
def prsW (As : List (Int × Int)) (nm : Int → Str) (Ms : List (Int × Str)) : List S2 := Ms.flatMap fun l => ((wrd As l.1).map (·.1)).map fun k => (nm k, l.2)
/-! ### plucking, told in one way -/
/-- G is cut out, A put in -/
def Plk (As : List (Int × Int)) (Ls : List (Int × Str)) (m X Y : Int) (G : List Int) (A : List (Int × Int)) : Prop :=
  (Sis As Ls m X Y ∧ G = [m, X] ∧ A = sisA As m Y) ∨ ∃ h, Fre As Ls m h X Y ∧ G = [m, h] ∧ A = sisA As m Y ++ freA As m h X
variable {G : List Int} {A : List (Int × Int)}
theorem Plk.pk (h : Plk As Ls m X Y G A) : Pk As Ls m X Y := by
  rcases h with ⟨h, _⟩ | ⟨z, h, _⟩
  · exact .inl h
  · exact .inr ⟨z, h⟩
theorem Plk.perm (h : Plk As Ls m X Y G A) (p : Ms.Perm Ls) : Plk As Ms m X Y G A := by
  rcases h with ⟨h, e⟩ | ⟨z, h, e⟩
  · exact .inl ⟨h.perm p, e⟩
  · exact .inr ⟨z, h.perm p, e⟩
theorem Plk.cut (h : Plk As Ls m X Y G A) (g : Good As Ls P) : Cut As Ls P G (cutK As G) (cutR As G) A m Y := by
  rcases h with ⟨h, rfl, rfl⟩ | ⟨z, h, rfl, rfl⟩
  · exact h.cut g
  · exact h.cut g
/-- the net that is left, its lists in order -/
structure Left (As : List (Int × Int)) (Ls : List (Int × Str)) (P : List Int) (G : List Int) (A Bs : List (Int × Int)) : Prop where
  good : Good Bs (cutL Ls G) (cutP P G)
  srt : SrtA Bs Bs
  perm : Bs.Perm (cutK As G ++ A)
  less : ((cutP P G).filter fun p => dnN Bs p == 2).length + 1 = (P.filter fun p => dnN As p == 2).length
theorem Plk.left (h : Plk As Ls m X Y G A) (g : Good As Ls P) {Bs : List (Int × Int)} (hB : SrtA (cutK As G ++ A) Bs) : Left As Ls P G A Bs := by
  have c := h.cut g
  refine ⟨(c.good g).perm hB.1 (.refl _), ⟨.refl _, hB.2⟩, hB.1, ?_⟩
  have e : ((cutP P G).filter fun p => dnN Bs p == 2) = (cutP P G).filter fun p => dnN (cutK As G ++ A) p == 2 := List.filter_congr fun p _ => by
    unfold dnN
    rw [hB.1.countP_eq]
  rw [e]
  have lt := c.less g
  have le : (P.filter fun p => dnN As p == 2).length ≤ (m :: (cutP P G).filter fun p => dnN (cutK As G ++ A) p == 2).length := by
    refine nodup_le (g.asc.nodup.filter _) fun p hp => ?_
    obtain ⟨hpP, h2⟩ := List.mem_filter.mp hp
    have h2 : dnN As p = 2 := beq_iff_eq.mp h2
    by_cases pm : p = m
    · rw [pm]
      exact List.mem_cons_self
    · refine List.mem_cons_of_mem _ (List.mem_filter.mpr ⟨mem_cutP.mpr ⟨hpP, fun hG => ?_⟩, ?_⟩)
      · rcases h with ⟨h, rfl, rfl⟩ | ⟨z, h, rfl, rfl⟩
        · rcases List.mem_cons.mp hG with e | e
          · exact pm e
          · rw [List.mem_singleton.mp e, (g.leafdeg h.lX).2.1] at h2
            cases h2
        · rcases List.mem_cons.mp hG with e | e
          · exact pm e
          · rw [List.mem_singleton.mp e] at h2 hpP
            have := h.up
            rcases g.deg z hpP with ⟨_, w, _⟩ | ⟨_, w⟩ <;> omega
      · have hG : p ∉ G := fun hG => by
          rcases h with ⟨h, rfl, rfl⟩ | ⟨z, h, rfl, rfl⟩
          · rcases List.mem_cons.mp hG with e | e
            · exact pm e
            · rw [List.mem_singleton.mp e, (g.leafdeg h.lX).2.1] at h2
              cases h2
          · rcases List.mem_cons.mp hG with e | e
            · exact pm e
            · rw [List.mem_singleton.mp e] at h2 hpP
              have := h.up
              rcases g.deg z hpP with ⟨_, w, _⟩ | ⟨_, w⟩ <;> omega
        rw [c.dn' hG, h2]
        rfl
  rw [List.length_cons] at le
  omega
theorem Left.fits {f : Int → Int} {Bs : List (Int × Int)} (l : Left As Ls P G A Bs) (h : Plk As Ls m X Y G A) (g : Good As Ls P) (hf : FitsC P As f) : FitsC (cutP P G) Bs f := ((h.cut g).fits g hf).perm l.perm
/-! ### a pair at the latest inner place -/
theorem Good.top {f : Int → Int} {t : Int} (g : Good As Ls P) (hf : FitsC P As f) (h1 : ∃ p ∈ P, dnN As p ≠ 0 ∧ f p = t) (h2 : ∀ p ∈ P, dnN As p ≠ 0 → f p ≤ t) : ∃ m X Y, f m = t ∧ Pk As Ls m X Y := by
  obtain ⟨p, hpP, hp0, et⟩ := h1
  have hmax : ∀ q ∈ P, dnN As q ≠ 0 → f q ≤ f p := fun q hq h0 => by rw [et]; exact h2 q hq h0
  have leafy : ∀ q ∈ P, f p < f q → q ∈ Ls.map (·.1) := fun q hq hlt => by
    rcases g.deg q hq with ⟨h, _⟩ | ⟨_, h⟩
    · exact h
    · have := hmax q hq (by omega)
      omega
  have later : ∀ q ∈ P, dnN As q ≠ 0 → f q = f p → ∃ c, (q, c) ∈ As ∧ c ∈ Ls.map (·.1) := fun q hq h0 e => by
    obtain ⟨a, ha, e2, hlt⟩ := (hf.late q hq).resolve_left h0
    refine ⟨a.2, by rw [← e2]; exact ha, leafy a.2 (g.ends a ha).2 (by omega)⟩
  obtain ⟨c, hc, lc⟩ := later p hpP hp0 rfl
  rcases g.deg p hpP with ⟨_, h, _⟩ | ⟨hin, ⟨h1, h2⟩ | ⟨h1, h2⟩⟩
  · exact absurd h hp0
  · have hg := hf.gift p hpP h2
    obtain ⟨b, hb, e⟩ := List.countP_pos_iff.mp (show 0 < As.countP fun a => a.2 == p && f a.1 == f p by unfold gfN at hg; omega)
    rw [Bool.and_eq_true, beq_iff_eq, beq_iff_eq] at e
    have hb0 := dn_pos hb
    obtain ⟨d, hd, ld⟩ := later b.1 (g.ends b hb).1 (by omega) e.2
    exact ⟨b.1, c, d, e.2.trans et, .inr ⟨p, hd, by rw [← e.1]; exact hb, hc, h2, lc, ld⟩⟩
  · have h3 : ∃ c2, (p, c2) ∈ As ∧ c2 ≠ c := by
      refine Classical.byContradiction fun hno => ?_
      have := cnt_exact g.nd (q := fun a => a.1 == p) hc (by simp) fun b hb e => by
        have e : b.1 = p := by simpa using e
        refine Classical.byContradiction fun z => hno ⟨b.2, by rw [← e]; exact hb, fun w => z (Prod.ext e w)⟩
      unfold dnN at h1
      omega
    obtain ⟨c2, hc2, hne2⟩ := h3
    have c2P := (g.ends _ hc2).2
    rcases g.deg c2 c2P with ⟨l2, _⟩ | ⟨_, d2⟩
    · exact ⟨p, c, c2, et, .inl ⟨hc, hc2, Ne.symm hne2, lc, l2⟩⟩
    · have hm := hmax c2 c2P (by omega)
      have hb := hf.back _ hc2
      dsimp only at hb
      have e : f c2 = f p := by
        rcases hb with hb | ⟨hb, _⟩ <;> omega
      have u2 : upN As c2 = 2 := by
        rcases hb with hb | ⟨_, hb⟩
        · omega
        · exact hb
      obtain ⟨x, hx, lx⟩ := later c2 c2P (by omega) e
      exact ⟨p, x, c, et, .inr ⟨c2, hc, hc2, hx, u2, lx, lc⟩⟩
end
/-! ### the pairs above which stands a wished place, as the law finds them -/
section
variable {As : List (Int × Int)} {Ls : List (Int × Str)} {P : List Int} {nm : Int → Str} {m X Y : Int}
/-- what the law puts in for the place s that stays and the other child o -/
def tCl (As : List (Int × Int)) (Ls : List (Int × Str)) (nm : Int → Str) (s o : Int) : List S2 :=
  if o ≠ s ∧ s ∈ Ls.map (·.1) ∧ o ∈ Ls.map (·.1) then [(nm o, nm s)]
  else if o ≠ s ∧ s ∈ Ls.map (·.1) ∧ (downsOf As o).length = 1 ∧ (downsOf As o).headD 0 ∈ Ls.map (·.1) then [(nm ((downsOf As o).headD 0), nm s)] else []
def tS2 (As : List (Int × Int)) (Ls : List (Int × Str)) (nm : Int → Str) (m s : Int) : List S2 := (downsOf As m).flatMap (tCl As Ls nm s)
def tM (As : List (Int × Int)) (Ls : List (Int × Str)) (nm : Int → Str) (m : Int) : List S2 := (downsOf As m).flatMap (tS2 As Ls nm m)
end
theorem dd_ssd {p : S2} (h1 : p.1.length ≤ 1000) (h2 : p.2.length ≤ 1000) : Dd 1000 1 (ssd p) :=
  .tup (by show 2 ≤ 1000; decide) fun d hd => by
    rcases List.mem_cons.mp hd with rfl | hd
    · exact .str _ h1
    · rw [List.mem_singleton.mp hd]
      exact .str _ h2
end Lg

/-! Putting back: two places put in above leaves; the nets stay nets. -/
namespace Lg
open PySem PySem.Spec PyProof.Rows L2
/-- w is put in above v -/
abbrev onA (As : List (Int × Int)) (v w : Int) : List (Int × Int) := (w, v) :: As.map fun a => if a.2 = v then (a.1, w) else a
section
variable {As : List (Int × Int)} {v w p : Int}
theorem mem_onA {b : Int × Int} : b ∈ onA As v w ↔ b = (w, v) ∨ (∃ a ∈ As, a.2 = v ∧ b = (a.1, w)) ∨ (b ∈ As ∧ b.2 ≠ v) := by
  rw [List.mem_cons]
  refine or_congr_right ?_
  constructor
  · intro h
    obtain ⟨a, ha, e⟩ := List.mem_map.mp h
    by_cases c : a.2 = v
    · rw [if_pos c] at e
      exact .inl ⟨a, ha, c, e.symm⟩
    · rw [if_neg c] at e
      rw [← e]
      exact .inr ⟨ha, c⟩
  · rintro (⟨a, ha, c, e⟩ | ⟨hb, c⟩)
    · exact List.mem_map.mpr ⟨a, ha, by rw [if_pos c, e]⟩
    · exact List.mem_map.mpr ⟨b, hb, if_neg c⟩
theorem onA_len : (onA As v w).length = As.length + 1 := by rw [List.length_cons, List.length_map]
theorem onA_dn : dnN (onA As v w) p = dnN As p + ind w p := by
  unfold dnN
  rw [List.countP_cons, List.countP_map]
  have e : As.countP ((fun a => a.1 == p) ∘ fun a : Int × Int => if a.2 = v then (a.1, w) else a) = As.countP fun a => a.1 == p := List.countP_congr fun a _ => by
    show ((if a.2 = v then (a.1, w) else a).1 == p) = true ↔ (a.1 == p) = true
    split <;> rfl
  rw [e]
  unfold ind
  by_cases c : w = p
  · rw [if_pos c, if_pos (by simp [c])]
  · rw [if_neg c, if_neg (by simp [c])]
theorem onA_upv (h : w ≠ v) : upN (onA As v w) v = 1 := by
  unfold upN
  rw [List.countP_cons, List.countP_map, if_pos (by simp)]
  have e : As.countP ((fun a => a.2 == v) ∘ fun a : Int × Int => if a.2 = v then (a.1, w) else a) = 0 := List.countP_eq_zero.mpr fun a _ => by
    show ¬ ((if a.2 = v then (a.1, w) else a).2 == v) = true
    split
    · simpa using h
    · next c => simpa using c
  rw [e]
theorem onA_upw (h : w ≠ v) : upN (onA As v w) w = upN As v + upN As w := by
  unfold upN
  rw [List.countP_cons, List.countP_map, if_neg (by simp; exact fun e => h e.symm), ← cnt_or fun a _ e => by
    have e : a.2 = v := by simpa using e
    rw [e]
    simp
    exact fun e => h e.symm]
  refine List.countP_congr fun a _ => ?_
  show ((if a.2 = v then (a.1, w) else a).2 == w) = true ↔ (a.2 == v || a.2 == w) = true
  split
  · next c => simp [c]
  · next c => simp [c]
theorem onA_up (h1 : p ≠ v) (h2 : p ≠ w) : upN (onA As v w) p = upN As p := by
  unfold upN
  rw [List.countP_cons, List.countP_map, if_neg (by simp; exact fun e => h1 e.symm)]
  refine List.countP_congr fun a _ => ?_
  show ((if a.2 = v then (a.1, w) else a).2 == p) = true ↔ (a.2 == p) = true
  split
  · next c =>
    have e1 : (w == p) = false := by simp; exact fun e => h2 e.symm
    have e2 : (a.2 == p) = false := by rw [c]; simp; exact fun e => h1 e.symm
    show (w == p) = true ↔ _
    rw [e1, e2]
  · rfl
theorem onA_nd (nd : As.Nodup) (h1 : ∀ a ∈ As, a.1 ≠ w) (h2 : ∀ a ∈ As, a.2 ≠ w) : (onA As v w).Nodup := by
  refine List.nodup_cons.mpr ⟨fun h => ?_, ?_⟩
  · obtain ⟨a, ha, e⟩ := List.mem_map.mp h
    split at e
    · exact h1 a ha (congrArg (·.1) e)
    · rw [e] at ha
      exact h1 _ ha rfl
  · refine List.pairwise_map.mpr (List.Pairwise.imp_of_mem (fun {a b} ha hb h e => h ?_) nd)
    split at e <;> split at e
    · next c d => exact Prod.ext (congrArg (·.1) e) (c.trans d.symm)
    · exact absurd (congrArg (·.2) e).symm (h2 b hb)
    · exact absurd (congrArg (·.2) e) (h2 a ha)
    · exact e
theorem dnN_app1 {a : Int × Int} : dnN (As ++ [a]) p = dnN As p + ind a.1 p := dnN_snoc As a.1 a.2 p
theorem upN_app1 {a : Int × Int} : upN (As ++ [a]) p = upN As p + ind a.2 p := upN_snoc As a.1 a.2 p
end
section
variable {As : List (Int × Int)} {Ls : List (Int × Str)} {P : List Int}
theorem Good.up0 (g : Good As Ls P) {p : Int} (h : p ∉ P) : upN As p = 0 := upN_zero fun a ha e => h (e ▸ (g.ends a ha).2)
theorem Good.dn0 (g : Good As Ls P) {p : Int} (h : p ∉ P) : dnN As p = 0 := dnN_zero fun a ha e => h (e ▸ (g.ends a ha).1)
/-- a leaf beside other places hangs below one -/
theorem Good.leaf_up (g : Good As Ls P) {X Y : Int} (hX : X ∈ Ls.map (·.1)) (hY : Y ∈ P) (ne : Y ≠ X) : upN As X = 1 := by
  obtain ⟨xP, xd, xu⟩ := g.leafdeg hX
  refine Classical.byContradiction fun h1 => ?_
  have h0 : upN As X = 0 := by omega
  obtain ⟨r, hr, hroot⟩ := g.root
  have er : X = r := (hroot X xP).mp h0
  obtain ⟨rank, hrank⟩ := g.rank
  obtain ⟨q, hq, hmin⟩ := max_exists (fun p => -(rank p : Int)) (l := P.filter fun p => !decide (p = X)) (List.ne_nil_of_mem (List.mem_filter.mpr ⟨hY, by simpa using ne⟩))
  obtain ⟨hqP, hqX⟩ := List.mem_filter.mp hq
  have hqX : q ≠ X := by simpa using hqX
  obtain ⟨a, ha, e⟩ := of_up (As := As) (p := q) fun z => hqX (((hroot q hqP).mp z).trans er.symm)
  have ha1 : a.1 ≠ X := fun z => by
    have := dn_pos ha
    rw [z] at this
    omega
  have := hmin a.1 (List.mem_filter.mpr ⟨(g.ends a ha).1, by simpa using ha1⟩)
  have h2 := hrank a ha
  rw [e] at h2
  omega
/-- a new order of heights: the leaves on top, the two new places below them -/
theorem Good.newrank (g : Good As Ls P) {f0 f1 : Int} : ∃ rk : Int → Nat, (∀ a ∈ As, a.2 ∉ Ls.map (·.1) → a.1 ≠ f0 → a.1 ≠ f1 → a.2 ≠ f0 → a.2 ≠ f1 → rk a.1 < rk a.2) ∧ (∀ a ∈ As, a.1 ≠ f0 → a.1 ≠ f1 → rk a.1 < rk f0) ∧ (f1 ≠ f0 → rk f0 < rk f1) ∧ ∀ l ∈ Ls.map (·.1), l ≠ f0 → l ≠ f1 → rk f1 < rk l ∧ rk f0 < rk l ∧ ∀ a ∈ As, a.1 ≠ f0 → a.1 ≠ f1 → rk a.1 < rk l := by
  obtain ⟨rank, hrank⟩ := g.rank
  obtain ⟨N, hN⟩ : ∃ N : Nat, ∀ a ∈ As, rank a.1 ≤ N := by
    have : ∀ l : List (Int × Int), ∃ N : Nat, ∀ a ∈ l, rank a.1 ≤ N := fun l => by
      induction l with
      | nil => exact ⟨0, fun a h => by cases h⟩
      | cons a l ih =>
        obtain ⟨N, h⟩ := ih
        refine ⟨N + rank a.1, fun b hb => ?_⟩
        rcases List.mem_cons.mp hb with rfl | hb
        · omega
        · have := h b hb
          omega
    exact this As
  refine ⟨fun q => if q = f0 then N + 1 else if q = f1 then N + 2 else if q ∈ Ls.map (·.1) then N + 3 else rank q, fun a ha h1 h2 h3 h4 h5 => ?_, fun a ha h2 h3 => ?_, fun h => ?_, fun l hl h0 h1 => ⟨?_, ?_, fun a ha h2 h3 => ?_⟩⟩
  · have hi := g.inner_of ha
    dsimp only
    rw [if_neg h2, if_neg h3, if_neg hi, if_neg h4, if_neg h5, if_neg h1]
    exact hrank a ha
  · have hi := g.inner_of ha
    dsimp only
    rw [if_neg h2, if_neg h3, if_neg hi, if_pos rfl]
    have := hN a ha
    omega
  · dsimp only
    rw [if_pos rfl, if_neg h, if_pos rfl]
    omega
  · dsimp only
    rw [if_neg h0, if_neg h1, if_pos hl]
    split
    · omega
    · rw [if_pos rfl]
      omega
  · dsimp only
    rw [if_pos rfl, if_neg h0, if_neg h1, if_pos hl]
    omega
  · have hi := g.inner_of ha
    dsimp only
    rw [if_neg h2, if_neg h3, if_neg hi, if_neg h0, if_neg h1, if_pos hl]
    have := hN a ha
    omega
abbrev mixs (As : List (Int × Int)) (P : List Int) : Nat := (P.filter fun p => upN As p == 2).length
theorem asc_of {P Q l : List Int} (hP : Asc P l) (hQ : Asc Q m) (n0 : f0 ∉ P) (n1 : f1 ∉ P) (ne : f0 ≠ f1) (h : ∀ k, k ∈ m ↔ k = f0 ∨ k = f1 ∨ k ∈ l) : Q.Perm (f0 :: f1 :: P) := by
  refine (List.perm_ext_iff_of_nodup hQ.nodup ?_).mpr fun k => ?_
  · refine List.nodup_cons.mpr ⟨fun z => ?_, List.nodup_cons.mpr ⟨n1, hP.nodup⟩⟩
    rcases List.mem_cons.mp z with z | z
    · exact ne z
    · exact n0 z
  · rw [hQ.2, h, List.mem_cons, List.mem_cons, hP.2]
/-- a new leaf f1 beside Y, below the new split f0 -/
abbrev putL (As : List (Int × Int)) (Y f0 f1 : Int) : List (Int × Int) := onA As Y f0 ++ [(f0, f1)]
/-- a new mixing f1 above X, below the new split f0 above Y -/
abbrev putM (As : List (Int × Int)) (X Y f0 f1 : Int) : List (Int × Int) := onA (onA As Y f0) X f1 ++ [(f0, f1)]
variable {f0 f1 X Y : Int}
theorem mem_ends {As : List (Int × Int)} {k : Int} : k ∈ endsOf As ↔ ∃ a ∈ As, k = a.1 ∨ k = a.2 := by
  rw [List.mem_flatMap]
  refine exists_congr fun a => and_congr_right fun _ => ?_
  rw [List.mem_cons, List.mem_singleton]
theorem ends_onA {k v w : Int} : k ∈ endsOf (onA As v w) ↔ k = w ∨ k = v ∨ k ∈ endsOf As := by
  rw [mem_ends, mem_ends]
  constructor
  · rintro ⟨b, hb, hk⟩
    rcases mem_onA.mp hb with rfl | ⟨a, ha, c, rfl⟩ | ⟨hb, c⟩
    · exact hk.elim .inl fun h => .inr (.inl h)
    · rcases hk with hk | hk
      · exact .inr (.inr ⟨a, ha, .inl hk⟩)
      · exact .inl hk
    · exact .inr (.inr ⟨b, hb, hk⟩)
  · rintro (rfl | rfl | ⟨a, ha, hk⟩)
    · exact ⟨(k, v), mem_onA.mpr (.inl rfl), .inl rfl⟩
    · exact ⟨(w, k), mem_onA.mpr (.inl rfl), .inr rfl⟩
    · by_cases c : a.2 = v
      · rcases hk with hk | hk
        · exact ⟨(a.1, w), mem_onA.mpr (.inr (.inl ⟨a, ha, c, rfl⟩)), .inl hk⟩
        · exact ⟨(w, v), mem_onA.mpr (.inl rfl), .inr (hk.trans c)⟩
      · exact ⟨a, mem_onA.mpr (.inr (.inr ⟨ha, c⟩)), hk⟩
theorem ends_snoc {k : Int} {a : Int × Int} : k ∈ endsOf (As ++ [a]) ↔ k ∈ endsOf As ∨ k = a.1 ∨ k = a.2 := by
  rw [mem_ends, mem_ends]
  constructor
  · rintro ⟨b, hb, hk⟩
    rcases List.mem_append.mp hb with hb | hb
    · exact .inl ⟨b, hb, hk⟩
    · rw [List.mem_singleton.mp hb] at hk
      exact .inr hk
  · rintro (⟨b, hb, hk⟩ | hk)
    · exact ⟨b, List.mem_append_left _ hb, hk⟩
    · exact ⟨a, List.mem_append_right _ List.mem_cons_self, hk⟩
theorem Good.putL (g : Good As Ls P) (hY : Y ∈ Ls.map (·.1)) (ne : f0 ≠ f1) (n0 : f0 ∉ P) (n1 : f1 ∉ P) (r0 : 0 ≤ f0 ∧ f0 ≤ 9999) (r1 : 0 ≤ f1 ∧ f1 ≤ 9999) {x : Str} (hx : nameL x.cps.toList = true ∧ x.length ≤ 8) (hnx : x ∉ Ls.map (·.2))
    (hl : Ls.length ≤ 11) (ha : As.length ≤ 44) (hp : P.length ≤ 61) {As' : List (Int × Int)} {Ls' : List (Int × Str)} (pA : As'.Perm (putL As Y f0 f1)) (pL : Ls'.Perm (Ls ++ [(f1, x)])) :
    ∃ P', Good As' Ls' P' ∧ P'.Perm (f0 :: f1 :: P) ∧ mixs As' P' ≤ mixs As P := by
  have YP := g.leafdeg hY
  have Y0 : Y ≠ f0 := fun e => n0 (e ▸ YP.1)
  have Y1 : Y ≠ f1 := fun e => n1 (e ▸ YP.1)
  have a0 : ∀ a ∈ As, a.1 ≠ f0 ∧ a.2 ≠ f0 ∧ a.1 ≠ f1 ∧ a.2 ≠ f1 := fun a ha => by
    have := g.ends a ha
    exact ⟨fun e => n0 (e ▸ this.1), fun e => n0 (e ▸ this.2), fun e => n1 (e ▸ this.1), fun e => n1 (e ▸ this.2)⟩
  have up_ : ∀ p, upN (Lg.putL As Y f0 f1) p = if p = f0 then upN As Y else if p = f1 then 1 else if p = Y then 1 else upN As p := fun p => by
    rw [upN_app1]
    show upN (onA As Y f0) p + ind f1 p = _
    split
    · next e => rw [e, onA_upw Y0.symm, g.up0 n0, ind_ne ne.symm]; rfl
    · next e0 =>
      split
      · next e => rw [e, onA_up Y1.symm (Ne.symm ne), g.up0 n1, ind_self]
      · next e1 =>
        split
        · next e => rw [e, onA_upv Y0.symm, ind_ne Y1.symm]
        · next e2 => rw [onA_up e2 e0, ind_ne (Ne.symm e1)]; omega
  have dn_ : ∀ p, dnN (Lg.putL As Y f0 f1) p = dnN As p + ind f0 p + ind f0 p := fun p => by rw [dnN_app1, onA_dn]
  obtain ⟨Q, hQ⟩ := asc_exists (endsOf (Lg.putL As Y f0 f1) ++ (Ls ++ [(f1, x)]).map (·.1))
  have pQ : Q.Perm (f0 :: f1 :: P) := asc_of g.asc hQ n0 n1 ne fun k => by
    rw [List.mem_append, ends_snoc, ends_onA, List.map_append, List.mem_append, List.mem_append]
    show ((k = f0 ∨ k = Y ∨ k ∈ endsOf As) ∨ k = f0 ∨ k = f1) ∨ k ∈ Ls.map (·.1) ∨ k ∈ [f1] ↔ _
    rw [List.mem_singleton]
    constructor
    · rintro (((h | h | h) | h | h) | h | h)
      · exact .inl h
      · exact .inr (.inr (.inr (h ▸ hY)))
      · exact .inr (.inr (.inl h))
      · exact .inl h
      · exact .inr (.inl h)
      · exact .inr (.inr (.inr h))
      · exact .inr (.inl h)
    · rintro (h | h | h | h)
      · exact .inl (.inl (.inl h))
      · exact .inr (.inr h)
      · exact .inl (.inl (.inr (.inr h)))
      · exact .inr (.inl h)
  have mQ : ∀ p, p ∈ Q ↔ p = f0 ∨ p = f1 ∨ p ∈ P := fun p => by rw [pQ.mem_iff, List.mem_cons, List.mem_cons]
  have lab : ∀ p, p ∈ (Ls ++ [(f1, x)]).map (·.1) ↔ p ∈ Ls.map (·.1) ∨ p = f1 := fun p => by
    rw [List.map_append, List.mem_append]
    exact or_congr_right List.mem_singleton
  have f0L : f0 ∉ Ls.map (·.1) := fun h => n0 (g.leafdeg h).1
  have f1L : f1 ∉ Ls.map (·.1) := fun h => n1 (g.leafdeg h).1
  have lQ : Q.length = P.length + 2 := by rw [pQ.length_eq]; rfl
  have mixle : mixs (Lg.putL As Y f0 f1) Q ≤ mixs As P := by
    refine nodup_le (hQ.nodup.filter _) fun p hp => ?_
    obtain ⟨h1, h2⟩ := List.mem_filter.mp hp
    have h2 : upN (Lg.putL As Y f0 f1) p = 2 := beq_iff_eq.mp h2
    rw [up_] at h2
    split at h2
    · have := YP.2.2
      omega
    · next e0 =>
      split at h2
      · omega
      · next e1 =>
        split at h2
        · omega
        · refine List.mem_filter.mpr ⟨?_, by rw [h2]; rfl⟩
          rcases (mQ p).mp h1 with h | h | h
          · exact absurd h e0
          · exact absurd h e1
          · exact h
  have G : Good (Lg.putL As Y f0 f1) (Ls ++ [(f1, x)]) Q := by
    refine ⟨hQ, by omega, fun p h => ?_, by rw [List.length_append, onA_len]; exact Nat.add_le_add_right (Nat.add_le_add_right ha 1) 1, ?_, by rw [List.length_append, List.length_singleton]; have := g.l12; omega, ?_, ?_, fun l h => ?_, ?_, fun p h => ?_, ?_, Nat.le_trans mixle g.mix⟩
    · rcases (mQ p).mp h with rfl | rfl | h
      · exact r0
      · exact r1
      · exact g.rng p h
    · refine List.nodup_append.mpr ⟨onA_nd g.nd (fun a h => (a0 a h).1) fun a h => (a0 a h).2.1, List.pairwise_singleton _ _, fun a h b hb e => ?_⟩
      rw [List.mem_singleton.mp hb] at e
      subst e
      rcases mem_onA.mp h with e | ⟨a, ha, _, e⟩ | ⟨h, _⟩
      · exact Y1 (congrArg (·.2) e).symm
      · exact (a0 a ha).1 (congrArg (·.1) e).symm
      · exact (a0 _ h).1 rfl
    · rw [List.map_append]
      refine List.nodup_append.mpr ⟨g.lp, List.pairwise_singleton _ _, fun a h b hb e => ?_⟩
      rw [List.mem_singleton.mp hb] at e
      have e : a = f1 := e
      exact f1L (e ▸ h)
    · rw [List.map_append]
      refine List.nodup_append.mpr ⟨g.ln, List.pairwise_singleton _ _, fun a h b hb e => ?_⟩
      rw [List.mem_singleton.mp hb] at e
      have e : a = x := e
      exact hnx (e ▸ h)
    · rcases List.mem_append.mp h with h | h
      · exact g.nm l h
      · rw [List.mem_singleton.mp h]
        exact hx
    · obtain ⟨rk, k1, k2, k3, k4⟩ := g.newrank (f0 := f0) (f1 := f1)
      refine ⟨rk, fun b hb => ?_⟩
      rcases List.mem_append.mp hb with hb | hb
      · rcases mem_onA.mp hb with rfl | ⟨a, ha, _, rfl⟩ | ⟨hb, _⟩
        · exact (k4 Y hY Y0 Y1).2.1
        · exact k2 a ha (a0 a ha).1 (a0 a ha).2.2.1
        · by_cases c : b.2 ∈ Ls.map (·.1)
          · exact (k4 b.2 c (a0 b hb).2.1 (a0 b hb).2.2.2).2.2 b hb (a0 b hb).1 (a0 b hb).2.2.1
          · exact k1 b hb c (a0 b hb).1 (a0 b hb).2.2.1 (a0 b hb).2.1 (a0 b hb).2.2.2
      · rw [List.mem_singleton.mp hb]
        exact k3 (Ne.symm ne)
    · rw [lab, dn_, up_]
      rcases (mQ p).mp h with rfl | rfl | h
      · rw [if_pos rfl, g.dn0 n0, ind_self]
        exact .inr ⟨fun z => z.elim f0L ne, .inr ⟨rfl, YP.2.2⟩⟩
      · rw [if_neg (Ne.symm ne), if_pos rfl, g.dn0 n1, ind_ne ne]
        exact .inl ⟨.inr rfl, rfl, Nat.le_refl _⟩
      · have p0 : p ≠ f0 := fun e => n0 (e ▸ h)
        have p1 : p ≠ f1 := fun e => n1 (e ▸ h)
        rw [if_neg p0, if_neg p1, ind_ne (Ne.symm p0)]
        by_cases c : p = Y
        · rw [if_pos c, c]
          exact .inl ⟨.inl hY, by rw [YP.2.1], Nat.le_refl _⟩
        · rw [if_neg c]
          rcases g.deg p h with ⟨h1, h2⟩ | ⟨h1, h2⟩
          · exact .inl ⟨.inl h1, h2⟩
          · exact .inr ⟨fun z => z.elim h1 p1, h2⟩
    · obtain ⟨r, hr, hroot⟩ := g.root
      by_cases c : r = Y
      · refine ⟨f0, (mQ _).mpr (.inl rfl), fun p h => ?_⟩
        rw [up_]
        rcases (mQ p).mp h with rfl | rfl | h
        · rw [if_pos rfl]
          exact ⟨fun _ => rfl, fun _ => (hroot Y YP.1).mpr c.symm⟩
        · rw [if_neg (Ne.symm ne), if_pos rfl]
          exact ⟨fun e => (by cases e), fun e => absurd e (Ne.symm ne)⟩
        · have p0 : p ≠ f0 := fun e => n0 (e ▸ h)
          have p1 : p ≠ f1 := fun e => n1 (e ▸ h)
          rw [if_neg p0, if_neg p1]
          refine ⟨fun e => ?_, fun e => absurd e p0⟩
          split at e
          · cases e
          · next d => exact absurd (((hroot p h).mp e).trans c) d
      · refine ⟨r, (mQ _).mpr (.inr (.inr hr)), fun p h => ?_⟩
        rw [up_]
        rcases (mQ p).mp h with rfl | rfl | h
        · rw [if_pos rfl]
          exact ⟨fun e => absurd ((hroot Y YP.1).mp e).symm c, fun e => absurd hr (e ▸ n0)⟩
        · rw [if_neg (Ne.symm ne), if_pos rfl]
          exact ⟨fun e => (by cases e), fun e => absurd hr (e ▸ n1)⟩
        · have p0 : p ≠ f0 := fun e => n0 (e ▸ h)
          have p1 : p ≠ f1 := fun e => n1 (e ▸ h)
          rw [if_neg p0, if_neg p1]
          by_cases d : p = Y
          · rw [if_pos d]
            exact ⟨fun e => (by cases e), fun e => absurd (e.symm.trans d) c⟩
          · rw [if_neg d]
            exact hroot p h
  refine ⟨Q, G.perm pA pL, pQ, ?_⟩
  have e : mixs As' Q = mixs (Lg.putL As Y f0 f1) Q := by
    show (List.filter _ _).length = (List.filter _ _).length
    rw [List.filter_congr fun p _ => ?_]
    unfold upN
    rw [pA.countP_eq]
  rw [e]
  exact mixle
theorem Good.putM (g : Good As Ls P) (hX : X ∈ Ls.map (·.1)) (hY : Y ∈ Ls.map (·.1)) (hne : X ≠ Y) (ne : f0 ≠ f1) (n0 : f0 ∉ P) (n1 : f1 ∉ P) (r0 : 0 ≤ f0 ∧ f0 ≤ 9999) (r1 : 0 ≤ f1 ∧ f1 ≤ 9999)
    (hm : mixs As P ≤ 7) (ha : As.length ≤ 43) (hp : P.length ≤ 61) {As' : List (Int × Int)} {Ls' : List (Int × Str)} (pA : As'.Perm (putM As X Y f0 f1)) (pL : Ls'.Perm Ls) :
    ∃ P', Good As' Ls' P' ∧ P'.Perm (f0 :: f1 :: P) ∧ mixs As' P' ≤ mixs As P + 1 := by
  have XP := g.leafdeg hX
  have YP := g.leafdeg hY
  have X0 : X ≠ f0 := fun e => n0 (e ▸ XP.1)
  have X1 : X ≠ f1 := fun e => n1 (e ▸ XP.1)
  have Y0 : Y ≠ f0 := fun e => n0 (e ▸ YP.1)
  have Y1 : Y ≠ f1 := fun e => n1 (e ▸ YP.1)
  have a0 : ∀ a ∈ As, a.1 ≠ f0 ∧ a.2 ≠ f0 ∧ a.1 ≠ f1 ∧ a.2 ≠ f1 := fun a ha => by
    have := g.ends a ha
    exact ⟨fun e => n0 (e ▸ this.1), fun e => n0 (e ▸ this.2), fun e => n1 (e ▸ this.1), fun e => n1 (e ▸ this.2)⟩
  have uX := g.leaf_up hX YP.1 hne.symm
  have uY := g.leaf_up hY XP.1 hne
  have up_ : ∀ p, upN (Lg.putM As X Y f0 f1) p = if p = f0 then 1 else if p = f1 then 2 else upN As p := fun p => by
    rw [upN_app1]
    show upN (onA (onA As Y f0) X f1) p + ind f1 p = _
    split
    · next e => rw [e, onA_up (Ne.symm X0) ne, onA_upw Y0.symm, g.up0 n0, uY, ind_ne ne.symm]
    · next e0 =>
      split
      · next e => rw [e, onA_upw X1.symm, onA_up hne X0, onA_up (Ne.symm Y1) (Ne.symm ne), g.up0 n1, uX, ind_self]
      · next e1 =>
        rw [ind_ne (Ne.symm e1)]
        by_cases cX : p = X
        · rw [cX, onA_upv X1.symm, uX]
        · rw [onA_up cX e1]
          by_cases cY : p = Y
          · rw [cY, onA_upv Y0.symm, uY]
          · rw [onA_up cY e0]
            omega
  have dn_ : ∀ p, dnN (Lg.putM As X Y f0 f1) p = dnN As p + ind f0 p + ind f1 p + ind f0 p := fun p => by rw [dnN_app1, onA_dn, onA_dn]
  obtain ⟨Q, hQ⟩ := asc_exists (endsOf (Lg.putM As X Y f0 f1) ++ Ls.map (·.1))
  have pQ : Q.Perm (f0 :: f1 :: P) := asc_of g.asc hQ n0 n1 ne fun k => by
    rw [List.mem_append, ends_snoc, ends_onA, ends_onA, List.mem_append]
    constructor
    · rintro (((h | h | h | h | h) | h | h) | h)
      · exact .inr (.inl h)
      · exact .inr (.inr (.inr (h ▸ hX)))
      · exact .inl h
      · exact .inr (.inr (.inr (h ▸ hY)))
      · exact .inr (.inr (.inl h))
      · exact .inl h
      · exact .inr (.inl h)
      · exact .inr (.inr (.inr h))
    · rintro (h | h | h | h)
      · exact .inl (.inr (.inl h))
      · exact .inl (.inl (.inl h))
      · exact .inl (.inl (.inr (.inr (.inr (.inr h)))))
      · exact .inr h
  have mQ : ∀ p, p ∈ Q ↔ p = f0 ∨ p = f1 ∨ p ∈ P := fun p => by rw [pQ.mem_iff, List.mem_cons, List.mem_cons]
  have f0L : f0 ∉ Ls.map (·.1) := fun h => n0 (g.leafdeg h).1
  have f1L : f1 ∉ Ls.map (·.1) := fun h => n1 (g.leafdeg h).1
  have lQ : Q.length = P.length + 2 := by rw [pQ.length_eq]; rfl
  have mixle : mixs (Lg.putM As X Y f0 f1) Q ≤ mixs As P + 1 := by
    refine nodup_le (M := f1 :: P.filter fun p => upN As p == 2) (hQ.nodup.filter _) fun p hp => ?_
    obtain ⟨h1, h2⟩ := List.mem_filter.mp hp
    have h2 : upN (Lg.putM As X Y f0 f1) p = 2 := beq_iff_eq.mp h2
    rw [up_] at h2
    split at h2
    · omega
    · next e0 =>
      split at h2
      · next e => rw [e]; exact List.mem_cons_self
      · next e1 =>
        refine List.mem_cons_of_mem _ (List.mem_filter.mpr ⟨?_, by rw [h2]; rfl⟩)
        rcases (mQ p).mp h1 with h | h | h
        · exact absurd h e0
        · exact absurd h e1
        · exact h
  have b0 : ∀ b ∈ onA As Y f0, b.1 ≠ f1 ∧ b.2 ≠ f1 := fun b hb => by
    rcases mem_onA.mp hb with rfl | ⟨a, ha, _, rfl⟩ | ⟨hb, _⟩
    · exact ⟨ne, Y1⟩
    · exact ⟨(a0 a ha).2.2.1, ne⟩
    · exact (a0 b hb).2.2
  have G : Good (Lg.putM As X Y f0 f1) Ls Q := by
    refine ⟨hQ, by omega, fun p h => ?_, by rw [List.length_append, onA_len, onA_len]; exact Nat.add_le_add_right (Nat.add_le_add_right (Nat.add_le_add_right ha 1) 1) 1, ?_, g.l12, g.lp, g.ln, g.nm, ?_, fun p h => ?_, ?_, Nat.le_trans mixle (by omega)⟩
    · rcases (mQ p).mp h with rfl | rfl | h
      · exact r0
      · exact r1
      · exact g.rng p h
    · refine List.nodup_append.mpr ⟨onA_nd (onA_nd g.nd (fun a h => (a0 a h).1) fun a h => (a0 a h).2.1) (fun b h => (b0 b h).1) fun b h => (b0 b h).2, List.pairwise_singleton _ _, fun a h b hb e => ?_⟩
      rw [List.mem_singleton.mp hb] at e
      subst e
      rcases mem_onA.mp h with e | ⟨a, ha, c, e⟩ | ⟨h, _⟩
      · exact X1 (congrArg (·.2) e).symm
      · have e1 : a.1 = f0 := (congrArg (·.1) e).symm
        rcases mem_onA.mp ha with e2 | ⟨a2, ha2, _, e2⟩ | ⟨ha, _⟩
        · rw [e2] at c
          exact hne c.symm
        · rw [e2] at c
          exact X0 c.symm
        · exact (a0 a ha).1 e1
      · exact (b0 _ h).2 rfl
    · obtain ⟨rk, k1, k2, k3, k4⟩ := g.newrank (f0 := f0) (f1 := f1)
      have old : ∀ a ∈ As, rk a.1 < rk a.2 := fun b hb => by
        by_cases c : b.2 ∈ Ls.map (·.1)
        · exact (k4 b.2 c (a0 b hb).2.1 (a0 b hb).2.2.2).2.2 b hb (a0 b hb).1 (a0 b hb).2.2.1
        · exact k1 b hb c (a0 b hb).1 (a0 b hb).2.2.1 (a0 b hb).2.1 (a0 b hb).2.2.2
      refine ⟨rk, fun b hb => ?_⟩
      rcases List.mem_append.mp hb with hb | hb
      · rcases mem_onA.mp hb with rfl | ⟨a, ha, c, rfl⟩ | ⟨hb, _⟩
        · exact (k4 X hX X0 X1).1
        · rcases mem_onA.mp ha with rfl | ⟨a2, ha2, _, rfl⟩ | ⟨ha, _⟩
          · exact absurd c hne.symm
          · exact absurd c (Ne.symm X0)
          · exact Nat.lt_trans (k2 a ha (a0 a ha).1 (a0 a ha).2.2.1) (k3 (Ne.symm ne))
        · rcases mem_onA.mp hb with rfl | ⟨a2, ha2, _, rfl⟩ | ⟨hb, _⟩
          · exact (k4 Y hY Y0 Y1).2.1
          · exact k2 a2 ha2 (a0 a2 ha2).1 (a0 a2 ha2).2.2.1
          · exact old b hb
      · rw [List.mem_singleton.mp hb]
        exact k3 (Ne.symm ne)
    · rw [dn_, up_]
      rcases (mQ p).mp h with rfl | rfl | h
      · rw [if_pos rfl, g.dn0 n0, ind_self, ind_ne (Ne.symm ne)]
        exact .inr ⟨f0L, .inr ⟨rfl, Nat.le_refl _⟩⟩
      · rw [if_neg (Ne.symm ne), if_pos rfl, g.dn0 n1, ind_ne ne, ind_self]
        exact .inr ⟨f1L, .inl ⟨rfl, rfl⟩⟩
      · have p0 : p ≠ f0 := fun e => n0 (e ▸ h)
        have p1 : p ≠ f1 := fun e => n1 (e ▸ h)
        rw [if_neg p0, if_neg p1, ind_ne (Ne.symm p0), ind_ne (Ne.symm p1)]
        exact g.deg p h
    · obtain ⟨r, hr, hroot⟩ := g.root
      refine ⟨r, (mQ _).mpr (.inr (.inr hr)), fun p h => ?_⟩
      rw [up_]
      rcases (mQ p).mp h with rfl | rfl | h
      · rw [if_pos rfl]
        exact ⟨fun e => (by cases e), fun e => absurd hr (e ▸ n0)⟩
      · rw [if_neg (Ne.symm ne), if_pos rfl]
        exact ⟨fun e => (by cases e), fun e => absurd hr (e ▸ n1)⟩
      · have p0 : p ≠ f0 := fun e => n0 (e ▸ h)
        have p1 : p ≠ f1 := fun e => n1 (e ▸ h)
        rw [if_neg p0, if_neg p1]
        exact hroot p h
  refine ⟨Q, G.perm pA pL, pQ, ?_⟩
  have e : mixs As' Q = mixs (Lg.putM As X Y f0 f1) Q := by
    show (List.filter _ _).length = (List.filter _ _).length
    rw [List.filter_congr fun p _ => ?_]
    unfold upN
    rw [pA.countP_eq]
  rw [e]
  exact mixle
/-! ### the two least numbers that no place has -/
def frees (P : List Int) : List Int := ((rgI (P.length + 2)).filter fun k => !decide (k ∈ P)).take 2
theorem frees_two (P : List Int) : ∃ f0 f1, frees P = [f0, f1] ∧ f0 ≠ f1 ∧ f0 ∉ P ∧ f1 ∉ P ∧ (0 ≤ f0 ∧ f0 < P.length + 2) ∧ 0 ≤ f1 ∧ f1 < P.length + 2 := by
  have nd := rgI_nd (P.length + 2)
  have l1 := (filter_split (fun k => decide (k ∈ P)) (rgI (P.length + 2))).length_eq
  rw [List.length_append, rgI_len] at l1
  have l2 : ((rgI (P.length + 2)).filter fun k => decide (k ∈ P)).length ≤ P.length := nodup_le (nd.filter _) fun k h => of_decide_eq_true (List.mem_filter.mp h).2
  have key : ∀ l : List Int, 2 ≤ l.length → l.Nodup → ∃ a b, l.take 2 = [a, b] ∧ a ≠ b ∧ a ∈ l ∧ b ∈ l := fun l h hn => by
    match l, h, hn with
    | a :: b :: r, _, hn => exact ⟨a, b, rfl, fun e => (List.nodup_cons.mp hn).1 (e ▸ List.mem_cons_self), List.mem_cons_self, List.mem_cons_of_mem _ List.mem_cons_self⟩
  obtain ⟨a, b, e, ne, ha, hb⟩ := key ((rgI (P.length + 2)).filter fun k => !decide (k ∈ P)) (by omega) (nd.filter _)
  have m : ∀ {k : Int}, k ∈ (rgI (P.length + 2)).filter (fun k => !decide (k ∈ P)) → k ∉ P ∧ 0 ≤ k ∧ k < P.length + 2 := fun {k} h => by
    obtain ⟨h1, h2⟩ := List.mem_filter.mp h
    have h1 := mem_rgI.mp h1
    exact ⟨by simpa using h2, h1.1, by omega⟩
  exact ⟨a, b, e, ne, (m ha).1, (m hb).1, (m ha).2, (m hb).2⟩
end
/-- the net behind putting x back beside y -/
def PutTo (As : List (Int × Int)) (Ls : List (Int × Str)) (P : List Int) (x : Str) (y : Int × Str) (As' : List (Int × Int)) (Ls' : List (Int × Str)) : Prop :=
  ∃ f0 f1, frees P = [f0, f1] ∧ ((x ∉ Ls.map (·.2) ∧ As'.Perm (putL As y.1 f0 f1) ∧ Ls'.Perm (Ls ++ [(f1, x)])) ∨ ∃ l ∈ Ls, l.2 = x ∧ As'.Perm (putM As l.1 y.1 f0 f1) ∧ Ls'.Perm Ls)
end Lg

/-! Rows of pluckings, pair by pair, to their end. -/
namespace Lg
open PySem PySem.Spec PyProof.Rows L2
section
variable {As : List (Int × Int)} {Ls Ms : List (Int × Str)} {P : List Int} {m X Y : Int} {G G' : List Int} {A A' : List (Int × Int)}
end
/-- a row to its end; lst: the least pair each time -/
inductive Run (lst : Bool) : List (Int × Int) → List (Int × Str) → List Int → List S2 → List (Int × Int) → List (Int × Str) → List Int → Prop
  | done {As : List (Int × Int)} {Ls : List (Int × Str)} {P : List Int} (h : Prs As Ls []) : Run lst As Ls P [] As Ls P
  | step {As Bs A2 A : List (Int × Int)} {Ls L2 : List (Int × Str)} {P P2 G : List Int} {L row : List S2} {x y : Int × Str} {m : Int} (hL : Prs As Ls L) (hd : lst = true → L.head? = some (x.2, y.2)) (hx : x ∈ Ls) (hy : y ∈ Ls)
      (hp : Plk As Ls m x.1 y.1 G A) (hB : SrtA (cutK As G ++ A) Bs) (r : Run lst Bs (cutL Ls G) (cutP P G) row A2 L2 P2) : Run lst As Ls P ((x.2, y.2) :: row) A2 L2 P2
/-- the one place without a mother -/
abbrev Rt (As : List (Int × Int)) (P : List Int) (root : Int) : Prop := (P.filter fun p => (upsOf As p).isEmpty) = [root]
abbrev spl (As : List (Int × Int)) (P : List Int) : Nat := (P.filter fun p => dnN As p == 2).length
section
variable {lst : Bool} {As A2 : List (Int × Int)} {Ls L2 Ms : List (Int × Str)} {P P2 : List Int} {row : List S2}
theorem Run.fin (h : Run lst As Ls P row A2 L2 P2) : Prs A2 L2 [] := by
  induction h with
  | done h => exact h
  | step _ _ _ _ _ _ _ ih => exact ih
theorem Run.good (h : Run lst As Ls P row A2 L2 P2) : Good As Ls P → SrtA As As → Good A2 L2 P2 ∧ SrtA A2 A2 := by
  induction h with
  | done h => exact fun g o => ⟨g, o⟩
  | step hL hd hx hy hp hB r ih => exact fun g o => ih (hp.left g hB).good (hp.left g hB).srt
theorem Run.len (h : Run lst As Ls P row A2 L2 P2) : Good As Ls P → row.length + spl A2 P2 = spl As P := by
  induction h with
  | done h => exact fun _ => Nat.zero_add _
  | @step As Bs A2 A Ls L2 P P2 G L row x y m hL hd hx hy hp hB r ih =>
    intro g
    have l := hp.left g hB
    have := ih l.good
    have h2 : spl Bs (cutP P G) + 1 = spl As P := l.less
    rw [List.length_cons]
    omega
theorem Run.short (h : Run lst As Ls P row A2 L2 P2) (g : Good As Ls P) : row.length ≤ 20 := by
  have h1 := h.len g
  have h2 : spl As P ≤ 20 := g.splits
  omega
theorem Run.nms (h : Run lst As Ls P row A2 L2 P2) : ∀ z ∈ row, z.1 ∈ Ls.map (·.2) ∧ z.2 ∈ Ls.map (·.2) := by
  induction h with
  | done h => exact fun z hz => by cases hz
  | step hL hd hx hy hp hB r ih =>
    intro z hz
    rcases List.mem_cons.mp hz with rfl | hz
    · exact ⟨List.mem_map_of_mem hx, List.mem_map_of_mem hy⟩
    · have sub : ∀ {n : Str} {Ls : List (Int × Str)} {G : List Int}, n ∈ (cutL Ls G).map (·.2) → n ∈ Ls.map (·.2) := fun {n Ls G} h => by
        obtain ⟨l, hl, rfl⟩ := List.mem_map.mp h
        exact List.mem_map_of_mem (List.mem_filter.mp hl).1
      exact ⟨sub (ih z hz).1, sub (ih z hz).2⟩
theorem Run.leaves (h : Run lst As Ls P row A2 L2 P2) : ∀ l ∈ L2, l ∈ Ls := by
  induction h with
  | done h => exact fun _ h => h
  | step hL hd hx hy hp hB r ih => exact fun l hl => (List.mem_filter.mp (ih l hl)).1
theorem Run.dd (h : Run lst As Ls P row A2 L2 P2) (g : Good As Ls P) : Dd 5000 70 (.list (row.map ssd)) := by
  refine Dd.mono (L := 1000) (by decide) (n := 2) (.lst (by rw [List.length_map]; have := h.short g; omega) fun d hd => ?_) (by decide)
  obtain ⟨z, hz, rfl⟩ := List.mem_map.mp hd
  obtain ⟨h1, h2⟩ := h.nms z hz
  obtain ⟨x, hx, e1⟩ := List.mem_map.mp h1
  obtain ⟨y, hy, e2⟩ := List.mem_map.mp h2
  exact dd_ssd (by rw [← e1]; exact Nat.le_trans (g.nm x hx).2 (by decide)) (by rw [← e2]; exact Nat.le_trans (g.nm y hy).2 (by decide))
theorem Prs.none {L : List S2} {x y : Int × Str} {m : Int} (h : Prs As Ls []) (hx : x ∈ Ls) (hy : y ∈ Ls) : ¬ Pk As Ls m x.1 y.1 := fun k => by
  have := (h.mem (x.2, y.2)).mpr ⟨x, hx, y, hy, m, trivial, rfl, k⟩
  cases this
end
def strF : PyData → Str
  | .str z => z
  | _ => ""
end Lg

/-! Names in five styles; pairs in the order of their names. -/
namespace Lg
open PySem PySem.Spec PyProof.Rows L2
def signsS : Str := lettersS ++ digitsS
def menuS : List Str := ["b", "a1", "aa", "a", "z9", "ab0", "ba", "aaa", "zz9zz9zz", "a0a0a0a0", "q", "b0", "m", "aab", "z", "abcdefgh"]
def sgn (z : Str) (i : Nat) : Nat := z.cps.toList.getD i 0
def oneS (c : Nat) : Str := ⟨#[c]⟩
def styleS (how k sh : Nat) (st : Str) (at_ : Nat) : Str :=
  if how = 0 then menuS.getD ((k + sh) % 16) ""
  else if how = 1 ∧ at_ = 0 then oneS (sgn lettersS ((k + sh) % 26)) ++ cutS st (some 1) none
  else if how = 1 then cutS st none (some (at_ : Int)) ++ oneS (sgn signsS ((k + sh) % 36)) ++ cutS st (some ((at_ + 1 : Nat) : Int)) none
  else if how = 2 then oneS (sgn lettersS ((5 * k + sh) % 26)) ++ cutS (st ++ "0a1b2c3") none (some (((3 * k + sh) % 8 : Nat) : Int))
  else Txt.mul (oneS (sgn lettersS ((sh + k / 8) % 26))) ((1 + k % 8 : Nat) : Int)
section
variable {sh at_ : Nat} {st : Str}
end
/-! ### pairs of names in order -/
/-- all pairs of l and m that pass, in order -/
def prsF (p : Str → Str → Bool) (l m : List Str) : List S2 := l.flatMap fun x => (m.filter (p x)).map fun y => (x, y)
end Lg

/-! The words of a pair, found by counting; rows of pairs by names. -/
namespace Lg
open PySem PySem.Spec PyProof.Rows L2
section
variable {As : List (Int × Int)} {Ls : List (Int × Str)} {P : List Int} {m h X Y : Int}
theorem Pk.ne (k : Pk As Ls m X Y) (g : Good As Ls P) : X ≠ Y := by
  rcases k with s | ⟨h, f⟩
  · exact s.ne
  · rintro rfl
    have h1 : upN As X = 1 := g.up1 (a := (m, X)) f.lY f.aY
    have e := cnt_one h1 f.aY f.aX (by simp) (by simp)
    obtain ⟨rank, hr⟩ := g.rank
    have h2 := hr _ f.ah
    rw [(Prod.mk.inj e).1] at h2
    exact Nat.lt_irrefl _ h2
/-- what hangs above a leaf with another beside it -/
def ovs (As : List (Int × Int)) (Y : Int) : List Int := (As.filter fun a => decide (a.2 = Y) && decide (dnN As a.1 = 2)).map (·.1)
/-- by names: may it be plucked? -/
abbrev IsPB (As : List (Int × Int)) (Ls : List (Int × Str)) (p : Str → Str → Bool) : Prop := ∀ a b, p a b = true ↔ ∃ x ∈ Ls, ∃ y ∈ Ls, x.2 = a ∧ y.2 = b ∧ ∃ m, Pk As Ls m x.1 y.1
variable {p : Str → Str → Bool}
end
abbrev rowF (p : Str → Str → Bool) (x : Str) (l : List Str) : List S2 := (l.filter (p x)).map fun y => (x, y)
section
variable {X : Cx} {o e : Expr} {es : List Expr} {to : TE} {t : L2.TA} {name : Str} {apos cpos : Pos} {T id : String} {r : V → List V → Hp → VK → Prop}
end
end Lg

/-! Membership by an own rule; what is put back can be plucked. -/
namespace Lg
open PySem PySem.Spec PyProof.Rows L2
/-- x in y, y an instance of the class at C with its own rule -/
def rInI (C : Addr) (sp : Sp) : R2 := fun x y H Q => ∃ b dy fs, y = .ref b ∧ H b = some (.ins C dy fs) ∧ sp [y, x] H (fun v H' => ∃ c, v = .bl c ∧ Q (.bl c) H') E0
section
variable {As As' : List (Int × Int)} {Ls Ls' : List (Int × Str)} {P P' : List Int} {X Y f0 f1 : Int} {x : Str} {y : Int × Str}
theorem sum_ones : ∀ Q : List Int, (Q.map fun _ => 1).sum = Q.length
  | [] => rfl
  | a :: Q => by rw [List.map_cons, List.sum_cons, List.length_cons, sum_ones Q]; omega
theorem Good.size (g : Good As Ls P) : As.length + 2 = 2 * Ls.length + 3 * mixs As P ∧ P.length + 1 = 2 * Ls.length + 2 * mixs As P := by
  have h1 : (P.map (dnN As)).sum = As.length := sum_cnt g.asc.nodup (·.1) (As := As) fun a ha => (g.ends a ha).1
  have h2 : (P.map (upN As)).sum = As.length := sum_cnt g.asc.nodup (·.2) (As := As) fun a ha => (g.ends a ha).2
  have e1 : (P.map (dnN As)).sum = P.countP (fun p => upN As p == 2) + (P.countP (fun p => dnN As p == 2) + P.countP (fun p => dnN As p == 2)) := by
    rw [← sum_ind, ← sum_ind, ← sum_add, ← sum_add]
    refine congrArg _ (List.map_congr_left fun p hp => ?_)
    rcases g.deg p hp with ⟨h, d, u⟩ | ⟨h, ⟨d, u⟩ | ⟨d, u⟩⟩
    · have : upN As p ≠ 2 := by omega
      simp [d, this]
    · simp [d, u]
    · have : upN As p ≠ 2 := by omega
      simp [d, this]
  have e2 : (P.map (upN As)).sum + P.countP (fun p => upN As p == 0) = P.countP (fun p => decide (p ∈ Ls.map (·.1))) + (P.countP (fun p => upN As p == 2) + P.countP (fun p => upN As p == 2)) + P.countP (fun p => dnN As p == 2) := by
    rw [← sum_ind, ← sum_ind, ← sum_ind, ← sum_ind, ← sum_add, ← sum_add, ← sum_add, ← sum_add]
    refine congrArg _ (List.map_congr_left fun p hp => ?_)
    rcases g.deg p hp with ⟨h, d, u⟩ | ⟨h, ⟨d, u⟩ | ⟨d, u⟩⟩
    · have h' : decide (p ∈ Ls.map (·.1)) = true := decide_eq_true h
      have u2 : upN As p ≠ 2 := by omega
      rw [h', d]
      rcases Nat.le_one_iff_eq_zero_or_eq_one.mp u with u | u <;> simp [u]
    · have h' : decide (p ∈ Ls.map (·.1)) = false := decide_eq_false h
      rw [h', d, u]
      simp
    · have h' : decide (p ∈ Ls.map (·.1)) = false := decide_eq_false h
      rw [h', d]
      rcases Nat.le_one_iff_eq_zero_or_eq_one.mp u with u | u <;> simp [u]
  have e3 : P.length = P.countP (fun p => decide (p ∈ Ls.map (·.1))) + P.countP (fun p => upN As p == 2) + P.countP (fun p => dnN As p == 2) := by
    have this := (sum_ones P).symm
    rw [this, ← sum_ind, ← sum_ind, ← sum_ind, ← sum_add, ← sum_add]
    refine congrArg _ (List.map_congr_left fun p hp => ?_)
    rcases g.deg p hp with ⟨h, d, u⟩ | ⟨h, ⟨d, u⟩ | ⟨d, u⟩⟩
    · have h' : decide (p ∈ Ls.map (·.1)) = true := decide_eq_true h
      have u2 : upN As p ≠ 2 := by omega
      rw [h', d]
      simp [u2]
    · have h' : decide (p ∈ Ls.map (·.1)) = false := decide_eq_false h
      rw [h', d, u]
      simp
    · have h' : decide (p ∈ Ls.map (·.1)) = false := decide_eq_false h
      have u2 : upN As p ≠ 2 := by omega
      rw [h', d]
      simp [u2]
  have e4 : P.countP (fun p => decide (p ∈ Ls.map (·.1))) = Ls.length := by
    rw [List.countP_eq_length_filter, ← List.length_map (f := (·.1)) (as := Ls)]
    refine Nat.le_antisymm (nodup_le (g.asc.nodup.filter _) fun p hp => of_decide_eq_true (List.mem_filter.mp hp).2) (nodup_le g.lp fun p hp => List.mem_filter.mpr ⟨(g.leafdeg hp).1, decide_eq_true hp⟩)
  have e5 : P.countP (fun p => upN As p == 0) = 1 := by
    obtain ⟨r, hr, hu⟩ := g.root
    rw [List.countP_eq_length_filter]
    have h1 := nodup_le (L := P.filter fun p => upN As p == 0) (M := [r]) (g.asc.nodup.filter _) fun p hp => by
      obtain ⟨hp, h⟩ := List.mem_filter.mp hp
      rw [(hu p hp).mp (beq_iff_eq.mp h)]
      exact List.mem_cons_self
    have h2 := List.length_pos_of_mem (List.mem_filter.mpr ⟨hr, beq_iff_eq.mpr ((hu r hr).mpr rfl)⟩ : r ∈ P.filter fun p => upN As p == 0)
    simp only [List.length_cons, List.length_nil] at h1
    omega
  have e6 : mixs As P = P.countP fun p => upN As p == 2 := List.countP_eq_length_filter.symm
  omega
/-! ### put back, then plucked -/
theorem cut_phi (hne : f1 ≠ f0) : ∀ {As : List (Int × Int)}, (∀ a ∈ As, a.1 ≠ f0 ∧ a.2 ≠ f0 ∧ a.1 ≠ f1 ∧ a.2 ≠ f1) →
    (((As.map fun a => if a.2 = Y then (a.1, f0) else a).filter fun a => !touch [f0, f1] a) ++ (((As.map fun a => if a.2 = Y then (a.1, f0) else a).filter fun a => a.2 == f0).map fun a => (a.1, Y))).Perm As
  | [], _ => .nil
  | a :: As, h => by
    have ih := cut_phi hne (As := As) fun b hb => h b (List.mem_cons_of_mem _ hb)
    obtain ⟨h1, h2, h3, h4⟩ := h a List.mem_cons_self
    rw [List.map_cons]
    by_cases c : a.2 = Y
    · rw [if_pos c, List.filter_cons_of_neg (by simp [touch]), List.filter_cons_of_pos (by simp), List.map_cons]
      have : ((a.1, Y) : Int × Int) = a := by rw [← c]
      rw [show (((a.1, f0) : Int × Int).1, Y) = a from this]
      exact List.perm_middle.trans (ih.cons a)
    · rw [if_neg c, List.filter_cons_of_pos (by simp [touch, h1, h2, h3, h4]), List.filter_cons_of_neg (by simpa using h2)]
      exact ih.cons a
theorem cut_psi (hne : f1 ≠ f0) (hX : f0 ≠ X) : ∀ {As : List (Int × Int)}, (∀ a ∈ As, a.1 ≠ f0 ∧ a.2 ≠ f0 ∧ a.1 ≠ f1 ∧ a.2 ≠ f1) →
    let Bs := (As.map fun a => if a.2 = Y then (a.1, f0) else a).map fun a => if a.2 = X then (a.1, f1) else a
    ((Bs.filter fun a => !touch [f0, f1] a) ++ (((Bs.filter fun a => a.2 == f0).map fun a => (a.1, Y)) ++ ((Bs.filter fun a => a.2 == f1 && !(a.1 == f0)).map fun a => (a.1, X)))).Perm As
  | [], _ => .nil
  | a :: As, h => by
    have ih := cut_psi hne hX (As := As) fun b hb => h b (List.mem_cons_of_mem _ hb)
    obtain ⟨h1, h2, h3, h4⟩ := h a List.mem_cons_self
    dsimp only at ih ⊢
    rw [List.map_cons, List.map_cons]
    by_cases c : a.2 = Y
    · rw [if_pos c]
      rw [if_neg (show ¬ ((a.1, f0) : Int × Int).2 = X from hX), List.filter_cons_of_neg (by simp [touch]), List.filter_cons_of_pos (by simp), List.filter_cons_of_neg (by simp [hne.symm]), List.map_cons]
      have : ((a.1, Y) : Int × Int) = a := by rw [← c]
      rw [show (((a.1, f0) : Int × Int).1, Y) = a from this]
      exact List.perm_middle.trans (ih.cons a)
    · rw [if_neg c]
      by_cases d : a.2 = X
      · rw [if_pos d, List.filter_cons_of_neg (by simp [touch]), List.filter_cons_of_neg (by simpa using hne), List.filter_cons_of_pos (by simpa using h1), List.map_cons]
        have : ((a.1, X) : Int × Int) = a := by rw [← d]
        rw [show (((a.1, f1) : Int × Int).1, X) = a from this, ← List.append_assoc]
        refine List.perm_middle.trans ((?_ : List.Perm _ _).cons a)
        rw [List.append_assoc]
        exact ih
      · rw [if_neg d, List.filter_cons_of_pos (by simp [touch, h1, h2, h3, h4]), List.filter_cons_of_neg (by simpa using h2), List.filter_cons_of_neg (by simp [h4])]
        exact ih.cons a
theorem PutTo.back (g : Good As Ls P) (hy : y ∈ Ls) (hxy : x ≠ y.2) (h : PutTo As Ls P x y As' Ls') (g' : Good As' Ls' P') (pp : ∀ {f0 f1}, frees P = [f0, f1] → P'.Perm (f0 :: f1 :: P)) :
    ∃ m G A, ∃ xl ∈ Ls', xl.2 = x ∧ y ∈ Ls' ∧ Plk As' Ls' m xl.1 y.1 G A ∧ (cutK As' G ++ A).Perm As ∧ (cutL Ls' G).Perm Ls ∧ cutP P' G = P ∧ ((x ∉ Ls.map (·.2) ∧ Sis As' Ls' m xl.1 y.1) ∨ x ∈ Ls.map (·.2) ∧ ∃ h, Fre As' Ls' m h xl.1 y.1) := by
  obtain ⟨f0', f1', hfr', fne, n0, n1, _, _⟩ := frees_two P
  obtain ⟨f0, f1, hfr, hc⟩ := h
  rw [hfr] at hfr'
  obtain ⟨rfl, rfl⟩ : f0 = f0' ∧ f1 = f1' := by cases hfr'; exact ⟨rfl, rfl⟩
  have pp := pp hfr
  have YP := g.leafdeg (List.mem_map_of_mem hy)
  have a0 : ∀ a ∈ As, a.1 ≠ f0 ∧ a.2 ≠ f0 ∧ a.1 ≠ f1 ∧ a.2 ≠ f1 := fun a ha => by
    have := g.ends a ha
    exact ⟨fun e => n0 (e ▸ this.1), fun e => n0 (e ▸ this.2), fun e => n1 (e ▸ this.1), fun e => n1 (e ▸ this.2)⟩
  have l0 : ∀ l ∈ Ls, l.1 ≠ f0 ∧ l.1 ≠ f1 := fun l hl => by
    have := (g.leafdeg (List.mem_map_of_mem hl)).1
    exact ⟨fun e => n0 (e ▸ this), fun e => n1 (e ▸ this)⟩
  have Y0 := (l0 y hy).1
  have Y1 := (l0 y hy).2
  have cP : cutP P' [f0, f1] = P := by
    refine asc_uniq (g'.asc.1.filter _) g.asc.1 fun k => ?_
    rw [mem_cutP, pp.mem_iff]
    simp only [List.mem_cons, List.not_mem_nil, or_false]
    constructor
    · rintro ⟨h, h2⟩
      rcases h with h | h | h
      · exact absurd (.inl h) h2
      · exact absurd (.inr h) h2
      · exact h
    · intro h
      exact ⟨.inr (.inr h), fun e => e.elim (fun e => n0 (e ▸ h)) fun e => n1 (e ▸ h)⟩
  have kL : ∀ l ∈ Ls, (!decide (l.1 ∈ [f0, f1])) = true := fun l hl => by
    have := l0 l hl
    simp [this.1, this.2]
  rcases hc with ⟨hx, pA, pL⟩ | ⟨l, hl, el, pA, pL⟩
  · have s : Sis As' Ls' f0 f1 y.1 := ⟨pA.mem_iff.mpr (by simp), pA.mem_iff.mpr (by simp), Ne.symm Y1, List.mem_map.mpr ⟨(f1, x), pL.mem_iff.mpr (by simp), rfl⟩, List.mem_map_of_mem (pL.mem_iff.mpr (List.mem_append_left _ hy))⟩
    refine ⟨f0, [f0, f1], sisA As' f0 y.1, (f1, x), pL.mem_iff.mpr (by simp), rfl, pL.mem_iff.mpr (List.mem_append_left _ hy), .inl ⟨s, rfl, rfl⟩, ?_, ?_, cP, .inl ⟨hx, s⟩⟩
    · refine ((pA.filter _).append ((pA.filter _).map _)).trans ?_
      refine List.Perm.trans (List.Perm.of_eq ?_) (cut_phi (Y := y.1) fne.symm a0)
      show (List.filter _ ((f0, y.1) :: As.map _ ++ [(f0, f1)])) ++ (List.filter _ ((f0, y.1) :: As.map _ ++ [(f0, f1)])).map _ = _
      rw [List.filter_append, List.filter_append, List.filter_cons_of_neg (by simp [touch]), List.filter_cons_of_neg (by simp [touch]), List.filter_cons_of_neg (by simpa using Y0), List.filter_cons_of_neg (by simpa using fne.symm)]
      rw [List.filter_nil, List.append_nil, List.filter_nil, List.append_nil]
    · refine (pL.filter _).trans (List.Perm.of_eq ?_)
      rw [List.filter_append, List.filter_eq_self.mpr kL, List.filter_cons_of_neg (by simp), List.filter_nil, List.append_nil]
  · have hne : l.1 ≠ y.1 := fun e => hxy (by rw [← el, nodup_map_inj g.lp hl hy e])
    have X0 := (l0 l hl).1
    have X1 := (l0 l hl).2
    have upf : upN As' f1 = 2 := by
      rw [show upN As' f1 = upN (putM As l.1 y.1 f0 f1) f1 from pA.countP_eq _, upN_app1, onA_upw X1.symm, onA_up hne X0, onA_up Y1.symm fne.symm, g.up0 n1, g.leaf_up (List.mem_map_of_mem hl) YP.1 hne.symm, ind_self]
    have fr : Fre As' Ls' f0 f1 l.1 y.1 := by
      refine ⟨pA.mem_iff.mpr ?_, pA.mem_iff.mpr (by simp), pA.mem_iff.mpr (by simp), upf, List.mem_map_of_mem (pL.mem_iff.mpr hl), List.mem_map_of_mem (pL.mem_iff.mpr hy)⟩
      refine List.mem_append_left _ (mem_onA.mpr (.inr (.inr ⟨mem_onA.mpr (.inl rfl), Ne.symm hne⟩)))
    refine ⟨f0, [f0, f1], sisA As' f0 y.1 ++ freA As' f0 f1 l.1, l, pL.mem_iff.mpr hl, el, pL.mem_iff.mpr hy, .inr ⟨f1, fr, rfl, rfl⟩, ?_, ?_, cP, .inr ⟨List.mem_map.mpr ⟨l, hl, el⟩, f1, fr⟩⟩
    · refine ((pA.filter _).append (((pA.filter _).map _).append ((pA.filter _).map _))).trans ?_
      refine List.Perm.trans (List.Perm.of_eq ?_) (cut_psi (X := l.1) (Y := y.1) fne.symm (Ne.symm X0) a0)
      show (List.filter _ ((f1, l.1) :: List.map _ ((f0, y.1) :: As.map _) ++ [(f0, f1)])) ++ ((List.filter _ ((f1, l.1) :: List.map _ ((f0, y.1) :: As.map _) ++ [(f0, f1)])).map _ ++ (List.filter _ ((f1, l.1) :: List.map _ ((f0, y.1) :: As.map _) ++ [(f0, f1)])).map _) = _
      rw [List.map_cons, if_neg (show ¬ ((f0, y.1) : Int × Int).2 = l.1 from Ne.symm hne), List.filter_append, List.filter_append, List.filter_append]
      rw [List.filter_cons_of_neg (by simp [touch]), List.filter_cons_of_neg (by simp [touch]), List.filter_cons_of_neg (a := (f0, f1)) (by simp [touch])]
      rw [List.filter_cons_of_neg (by simpa using X0), List.filter_cons_of_neg (by simpa using Y0), List.filter_cons_of_neg (a := (f0, f1)) (by simpa using fne.symm)]
      rw [List.filter_cons_of_neg (by simp [X1]), List.filter_cons_of_neg (by simp [Y1]), List.filter_cons_of_neg (a := (f0, f1)) (by simp)]
      simp only [List.filter_nil, List.append_nil]
    · refine (pL.filter _).trans (List.Perm.of_eq (List.filter_eq_self.mpr kL))
theorem Greedy.uniq {up : Int → List Int} {left L : List Int} (h : Greedy up left L) : ∀ {M : List Int}, Greedy up left M → L = M := by
  induction h with
  | nil =>
    intro M h
    cases h with
    | nil => rfl
    | cons hp => cases hp
  | cons hp hu hm r ih =>
    intro M h
    cases h with
    | nil => cases hp
    | cons hp' hu' hm' r' =>
      have e := Int.le_antisymm (hm _ hp' hu') (hm' _ hp hu)
      subst e
      rw [ih r']
theorem Greedy.head {up : Int → List Int} {left L : List Int} {root : Int} (h : Greedy up left L) (hc : ∀ p ∈ left, ∀ q ∈ up p, q ∈ left) (hr : root ∈ left) (hu : ∀ p ∈ left, up p = [] ↔ p = root) : L[0]? = some root := by
  cases h with
  | nil => cases hr
  | @cons p _ L hp h0 _ r =>
    have : up p = [] := List.eq_nil_iff_forall_not_mem.mpr fun q hq => h0 q hq (hc p hp q hq)
    rw [(hu p hp).mp this]
    rfl
end
end Lg

/-! Pairs that may be put back; a row of nets, each put back out of the one before. -/
namespace Lg
open PySem PySem.Spec PyProof.Rows L2
section
variable {As As' : List (Int × Int)} {Ls Ls' : List (Int × Str)} {P P' : List Int} {x : Str} {y : Int × Str}
abbrev Lets (As : List (Int × Int)) (Ls : List (Int × Str)) (P : List Int) (z : S2) : Prop := ∃ y ∈ Ls, z.2 = y.2 ∧ (nameL z.1.cps.toList = true ∧ z.1.length ≤ 8) ∧ z.1 ≠ y.2 ∧ (z.1 ∉ Ls.map (·.2) → Ls.length ≤ 11) ∧ (z.1 ∈ Ls.map (·.2) → mixs As P ≤ 7)
theorem PutTo.len (h : PutTo As Ls P x y As' Ls') : As.length < As'.length := by
  obtain ⟨f0, f1, _, ⟨_, a, _⟩ | ⟨l, _, _, a, _⟩⟩ := h
  · rw [a.length_eq, List.length_append, onA_len]
    omega
  · rw [a.length_eq, List.length_append, onA_len, onA_len]
    omega
theorem PutTo.perm {Ms : List (Int × Str)} (h : PutTo As Ls P x y As' Ls') (p : Ms.Perm Ls') : PutTo As Ls P x y As' Ms := by
  obtain ⟨f0, f1, e, ⟨n, a, l⟩ | ⟨m, hm, em, a, l⟩⟩ := h
  · exact ⟨f0, f1, e, .inl ⟨n, a, p.trans l⟩⟩
  · exact ⟨f0, f1, e, .inr ⟨m, hm, em, a, p.trans l⟩⟩
theorem PutTo.names (h : PutTo As Ls P x y As' Ls') (ln : (Ls.map (·.2)).Nodup) : (Ls'.map (·.2)).Perm (if x ∈ Ls.map (·.2) then Ls.map (·.2) else Ls.map (·.2) ++ [x]) := by
  obtain ⟨f0, f1, e, ⟨n, a, l⟩ | ⟨m, hm, em, a, l⟩⟩ := h
  · rw [if_neg n]
    have := l.map (·.2)
    rw [List.map_append] at this
    exact this
  · rw [if_pos (List.mem_map.mpr ⟨m, hm, em⟩)]
    exact l.map _
end
structure Stg where
  nv : V
  o : Addr
  As : List (Int × Int)
  Ls : List (Int × Str)
  Ls' : List (Int × Str)
  Ms : List (Int × Str)
  P : List Int
  root : Int
abbrev StgOk (S : Av) (K : PySem.W.Frag) (H : Hp) (g : Stg) : Prop := NetAt S K H g.o g.As g.Ls' g.Ms g.P g.root ∧ Da S H g.nv (netD g.As g.Ls) ∧ Good g.As g.Ls g.P ∧ SrtA g.As g.As ∧ SrtL g.Ls g.Ms ∧ Rt g.As g.P g.root
structure Lnk where
  t : Addr
  x : Str
  y : Int × Str
abbrev LnkOk (S : Av) (H : Hp) (a b : Stg) (l : Lnk) : Prop := H l.t = some (.tup [.str l.x, .str l.y.2]) ∧ ¬ S l.t ∧ l.y ∈ a.Ls' ∧ l.x ≠ l.y.2 ∧ PutTo a.As a.Ls' a.P l.x l.y b.As b.Ls' ∧ (∀ {f0 f1}, frees a.P = [f0, f1] → b.P.Perm (f0 :: f1 :: a.P))
structure Chn (S : Av) (K : PySem.W.Frag) (H : Hp) (r : Nat) (st : Nat → Stg) (lk : Nat → Lnk) : Prop where
  stg : ∀ i, i ≤ r → StgOk S K H (st i)
  lnk : ∀ i, i < r → LnkOk S H (st i) (st (i + 1)) (lk i)
theorem StgOk.go {S : Av} {K : PySem.W.Frag} {H H' : Hp} {g : Stg} (h : StgOk S K H g) (k : ∀ b u, ¬ S b → H b = some u → H' b = some u) : StgOk S K H' g :=
  ⟨h.1.go fun b u hb e => ⟨hb, k b u hb e⟩, h.2.1.go fun b u hb e => ⟨hb, k b u hb e⟩, h.2.2⟩
theorem Chn.go {S : Av} {K : PySem.W.Frag} {H H' : Hp} {r : Nat} {st : Nat → Stg} {lk : Nat → Lnk} (h : Chn S K H r st lk) (k : ∀ b u, ¬ S b → H b = some u → H' b = some u) : Chn S K H' r st lk :=
  ⟨fun i hi => (h.stg i hi).go k, fun i hi => let ⟨a, b, c⟩ := h.lnk i hi; ⟨k _ _ b a, b, c⟩⟩
theorem Chn.snoc {S : Av} {K : PySem.W.Frag} {H : Hp} {r : Nat} {st : Nat → Stg} {lk : Nat → Lnk} {g : Stg} {l : Lnk} (h : Chn S K H r st lk) (hg : StgOk S K H g) (hl : LnkOk S H (st r) g l) :
    ∃ st' lk', Chn S K H (r + 1) st' lk' ∧ (∀ i, i ≤ r → st' i = st i) ∧ st' (r + 1) = g ∧ (∀ i, i < r → lk' i = lk i) ∧ lk' r = l := by
  refine ⟨fun i => if i ≤ r then st i else g, fun i => if i < r then lk i else l, ⟨fun i hi => ?_, fun i hi => ?_⟩, fun i hi => if_pos hi, if_neg (by omega), fun i hi => if_pos hi, if_neg (by omega)⟩
  · by_cases c : i ≤ r
    · rw [if_pos c]
      exact h.stg i c
    · rw [if_neg c]
      exact hg
  · rw [if_pos (show i ≤ r by omega)]
    by_cases c : i < r
    · rw [if_pos c, if_pos (show i + 1 ≤ r by omega)]
      exact h.lnk i c
    · have e : i = r := by omega
      rw [if_neg c, if_neg (show ¬ i + 1 ≤ r by omega), e]
      exact hl
end Lg

/-! Plucked, renumbered, put back: the net itself, renumbered. -/
namespace Lg
open PySem PySem.Spec PyProof.Rows L2
abbrev newN (f : Int → Int) (g0 g1 f0 f1 : Int) : Int → Int := fun p => if p = g0 then f0 else if p = g1 then f1 else f p
section
variable {As A Bs Bs' As3 : List (Int × Int)} {Ls Ls' Ls3 : List (Int × Str)} {P P' : List Int} {m g1 f0 f1 : Int} {x y : Int × Str} {f : Int → Int}
theorem Plk.two {X Y : Int} {G : List Int} (h : Plk As Ls m X Y G A) (g : Good As Ls P) : ∃ g1, G = [m, g1] ∧ g1 ≠ m ∧ g1 ∈ P ∧ m ∈ P ∧ (m, g1) ∈ As := by
  rcases h with ⟨s, rfl, _⟩ | ⟨h, s, rfl, _⟩
  · exact ⟨X, rfl, fun e => g.irr s.aX e.symm, (g.ends _ s.aX).2, (g.ends _ s.aX).1, s.aX⟩
  · exact ⟨h, rfl, fun e => g.irr s.ah e.symm, (g.ends _ s.ah).2, (g.ends _ s.ah).1, s.ah⟩
theorem newN_inj (hf : ∀ p ∈ cutP P [m, g1], ∀ q ∈ cutP P [m, g1], f p = f q → p = q) (ne : f0 ≠ f1) (n0 : ∀ p ∈ cutP P [m, g1], f p ≠ f0) (n1 : ∀ p ∈ cutP P [m, g1], f p ≠ f1) :
    ∀ p ∈ P, ∀ q ∈ P, newN f m g1 f0 f1 p = newN f m g1 f0 f1 q → p = q := by
  have key : ∀ p ∈ P, p = m ∨ p = g1 ∨ p ∈ cutP P [m, g1] := fun p hp => by
    by_cases c : p ∈ [m, g1]
    · simp only [List.mem_cons, List.not_mem_nil, or_false] at c
      exact c.elim .inl fun c => .inr (.inl c)
    · exact .inr (.inr (mem_cutP.mpr ⟨hp, c⟩))
  have out : ∀ p, p ∈ cutP P [m, g1] → p ≠ m ∧ p ≠ g1 := fun p hp => by
    have := (mem_cutP.mp hp).2
    simpa using this
  intro p hp q hq e
  unfold newN at e
  by_cases a1 : p = m
  · by_cases b1 : q = m
    · rw [a1, b1]
    · rw [if_pos a1, if_neg b1] at e
      by_cases b2 : q = g1
      · rw [if_pos b2] at e
        exact absurd e ne
      · rw [if_neg b2] at e
        exact absurd e.symm (n0 q ((key q hq).elim (fun z => absurd z b1) fun z => z.elim (fun z => absurd z b2) id))
  · rw [if_neg a1] at e
    by_cases a2 : p = g1
    · rw [if_pos a2] at e
      by_cases b1 : q = m
      · rw [if_pos b1] at e
        exact absurd e.symm ne
      · rw [if_neg b1] at e
        by_cases b2 : q = g1
        · rw [a2, b2]
        · rw [if_neg b2] at e
          exact absurd e.symm (n1 q ((key q hq).elim (fun z => absurd z b1) fun z => z.elim (fun z => absurd z b2) id))
    · rw [if_neg a2] at e
      have hp' : p ∈ cutP P [m, g1] := (key p hp).elim (fun z => absurd z a1) fun z => z.elim (fun z => absurd z a2) id
      by_cases b1 : q = m
      · rw [if_pos b1] at e
        exact absurd e (n0 p hp')
      · rw [if_neg b1] at e
        by_cases b2 : q = g1
        · rw [if_pos b2] at e
          exact absurd e (n1 p hp')
        · rw [if_neg b2] at e
          exact hf p hp' q ((key q hq).elim (fun z => absurd z b1) fun z => z.elim (fun z => absurd z b2) id) e
theorem Plk.again (g : Good As Ls P) (hx : x ∈ Ls) (hy : y ∈ Ls) (h : Plk As Ls m x.1 y.1 [m, g1] A) (hB : Bs.Perm (cutK As [m, g1] ++ A)) (hf : ∀ p ∈ cutP P [m, g1], ∀ q ∈ cutP P [m, g1], f p = f q → p = q)
    (hB' : Bs'.Perm (Bs.map fun a => (f a.1, f a.2))) (hL' : Ls'.Perm ((cutL Ls [m, g1]).map fun l => (f l.1, l.2))) (ne : f0 ≠ f1) (n0 : ∀ p ∈ cutP P [m, g1], f p ≠ f0) (n1 : ∀ p ∈ cutP P [m, g1], f p ≠ f1)
    (hfr : frees P' = [f0, f1]) (put : PutTo Bs' Ls' P' x.2 (f y.1, y.2) As3 Ls3) (nd3 : As3.Nodup) :
    As3.Perm (As.map fun a => (newN f m g1 f0 f1 a.1, newN f m g1 f0 f1 a.2)) ∧ Ls3.Perm (Ls.map fun l => (newN f m g1 f0 f1 l.1, l.2)) := by
  obtain ⟨g1', e1, gm, gP, mP, _⟩ := h.two g
  obtain rfl : g1 = g1' := by cases e1; rfl
  have c := h.cut g
  have inj := newN_inj (P := P) hf ne n0 n1
  have nm : newN f m g1 f0 f1 m = f0 := if_pos rfl
  have ng : newN f m g1 f0 f1 g1 = f1 := by
    unfold newN
    rw [if_neg gm, if_pos rfl]
  have nf : ∀ p, p ∉ [m, g1] → newN f m g1 f0 f1 p = f p := fun p hp => by
    have hp : p ≠ m ∧ p ≠ g1 := by simpa using hp
    unfold newN
    rw [if_neg hp.1, if_neg hp.2]
  have ndA : (As.map fun a => (newN f m g1 f0 f1 a.1, newN f m g1 f0 f1 a.2)).Nodup := by
    refine List.pairwise_map.mpr (List.Pairwise.imp_of_mem (fun {a b} ha hb h e => h ?_) g.nd)
    have e1 := inj _ (g.ends a ha).1 _ (g.ends b hb).1 (Prod.mk.inj e).1
    have e2 := inj _ (g.ends a ha).2 _ (g.ends b hb).2 (Prod.mk.inj e).2
    exact Prod.ext e1 e2
  have inK : ∀ {d : Int × Int}, d ∈ cutK As [m, g1] ++ A → d.1 ∈ cutP P [m, g1] ∧ d.2 ∈ cutP P [m, g1] := fun {d} hd => by
    rcases List.mem_append.mp hd with hd | hd
    · have h1 := c.hK d hd
      have h2 := g.ends d (c.KAs hd)
      exact ⟨mem_cutP.mpr ⟨h2.1, h1.1⟩, mem_cutP.mpr ⟨h2.2, h1.2⟩⟩
    · have h1 := c.hA d hd
      exact ⟨mem_cutP.mpr h1.1, mem_cutP.mpr h1.2⟩
  have memB : ∀ {b : Int × Int}, b ∈ Bs' ↔ ∃ d ∈ cutK As [m, g1] ++ A, b = (f d.1, f d.2) := fun {b} => by
    rw [hB'.mem_iff, List.mem_map]
    constructor
    · rintro ⟨d, hd, rfl⟩
      exact ⟨d, hB.mem_iff.mp hd, rfl⟩
    · rintro ⟨d, hd, rfl⟩
      exact ⟨d, hB.mem_iff.mpr hd, rfl⟩
  have yG : y.1 ∉ [m, g1] := c.YG
  have yP : y.1 ∈ cutP P [m, g1] := mem_cutP.mpr ⟨(g.leafdeg (List.mem_map_of_mem hy)).1, yG⟩
  have lY : y.1 ∈ Ls.map (·.1) := List.mem_map_of_mem hy
  have lX : x.1 ∈ Ls.map (·.1) := List.mem_map_of_mem hx
  have toY : ∀ {a : Int × Int}, a ∈ As → a.2 = y.1 → a = (m, y.1) := fun {a} ha e => by
    have hm : (m, y.1) ∈ As := h.pk.aY
    exact cnt_one (g.up1 (a := (m, y.1)) lY hm) ha hm (by simpa using e) (by simp)
  have nK : ∀ {d : Int × Int}, d ∈ cutK As [m, g1] → d.2 ≠ y.1 := fun {d} hd e => by
    have := toY (c.KAs hd) e
    exact (c.hK d hd).1 (by rw [this]; simp)
  have lab : ∀ {Z : List (Int × Str)}, Z.Perm Ls → (∀ l ∈ Z, l.1 ∉ [m, g1]) → (Z.map fun l => (f l.1, l.2)).Perm (Ls.map fun l => (newN f m g1 f0 f1 l.1, l.2)) := fun {Z} p hz => by
    refine List.Perm.trans (List.Perm.of_eq (List.map_congr_left fun l hl => ?_)) (p.map _)
    rw [nf _ (hz l hl)]
  obtain ⟨k0, k1, e, hput⟩ := put
  rw [hfr] at e
  obtain ⟨rfl, rfl⟩ : f0 = k0 ∧ f1 = k1 := by cases e; exact ⟨rfl, rfl⟩
  have h0 := h
  rcases h with ⟨s, eG, rfl⟩ | ⟨h, s, eG, rfl⟩
  · -- sisters
    obtain rfl : g1 = x.1 := by cases eG; rfl
    have toX : ∀ {a : Int × Int}, a ∈ As → a.2 = x.1 → a = (m, x.1) := fun {a} ha e => cnt_one (g.up1 (a := (m, x.1)) lX s.aX) ha s.aX (by simpa using e) (by simp)
    rcases hput with ⟨hn, pA, pL⟩ | ⟨l, hl, el, _⟩
    · constructor
      · refine (List.perm_ext_iff_of_nodup nd3 ndA).mpr fun b => ?_
        rw [pA.mem_iff, List.mem_append, mem_onA, List.mem_singleton, List.mem_map]
        constructor
        · rintro ((rfl | ⟨z, hz, e, rfl⟩ | ⟨hz, e⟩) | rfl)
          · exact ⟨(m, y.1), s.aY, by dsimp only; rw [nm, nf _ yG]⟩
          · obtain ⟨d, hd, rfl⟩ := memB.mp hz
            have e2 : d.2 = y.1 := hf _ (inK hd).2 _ yP e
            rcases List.mem_append.mp hd with hd' | hd'
            · exact absurd e2 (nK hd')
            · obtain ⟨a, ha, rfl⟩ := List.mem_map.mp hd'
              obtain ⟨ha, ha2⟩ := List.mem_filter.mp ha
              have ha2 : a.2 = m := by simpa using ha2
              exact ⟨a, ha, by dsimp only; rw [ha2, nm, nf _ (c.hA _ hd').1.2]⟩
          · obtain ⟨d, hd, rfl⟩ := memB.mp hz
            rcases List.mem_append.mp hd with hd' | hd'
            · have := c.hK d hd'
              exact ⟨d, c.KAs hd', by rw [nf _ this.1, nf _ this.2]⟩
            · obtain ⟨a, ha, rfl⟩ := List.mem_map.mp hd'
              exact absurd rfl e
          · exact ⟨(m, x.1), s.aX, by dsimp only; rw [nm, ng]⟩
        · rintro ⟨a, ha, rfl⟩
          by_cases t : touch [m, x.1] a = true
          · have t : (a.1 = m ∨ a.1 = x.1) ∨ a.2 = m ∨ a.2 = x.1 := by simpa [touch] using t
            rcases t with (t | t) | t | t
            · have h2 := cnt_two (l := As) (q := fun c => c.1 == m) (Nat.le_of_eq c.mdn) s.aX s.aY ha (by simp) (by simp) (by simpa using t) (fun e => s.ne (Prod.mk.inj e).2)
              rcases h2 with rfl | rfl
              · exact .inr (by dsimp only; rw [nm, ng])
              · exact .inl (.inl (by dsimp only; rw [nm, nf _ yG]))
            · exact absurd (t ▸ lX) (g.inner_of ha)
            · have hA : (a.1, y.1) ∈ sisA As m y.1 := List.mem_map.mpr ⟨a, List.mem_filter.mpr ⟨ha, by simpa using t⟩, rfl⟩
              refine .inl (.inr (.inl ⟨(f a.1, f y.1), memB.mpr ⟨_, List.mem_append_right _ hA, rfl⟩, rfl, ?_⟩))
              dsimp only
              rw [t, nm, nf _ (c.hA _ hA).1.2]
            · rw [toX ha t]
              exact .inr (by dsimp only; rw [nm, ng])
          · have hk : a ∈ cutK As [m, x.1] := List.mem_filter.mpr ⟨ha, by simpa using t⟩
            have := c.hK a hk
            refine .inl (.inr (.inr ⟨memB.mpr ⟨a, List.mem_append_left _ hk, by rw [nf _ this.1, nf _ this.2]⟩, ?_⟩))
            dsimp only
            rw [nf _ this.2]
            exact fun e => nK hk (hf _ (inK (List.mem_append_left _ hk)).2 _ yP e)
      · have px : (Ls.filter fun l => decide (l.1 ∈ [m, x.1])).Perm [x] := by
          refine (List.perm_ext_iff_of_nodup ((List.Pairwise.imp (fun h e => h (congrArg (·.1) e)) (List.pairwise_map.mp g.lp) : Ls.Nodup).filter _) (by simp)).mpr fun l => ?_
          rw [List.mem_filter, List.mem_singleton]
          constructor
          · rintro ⟨hl, e⟩
            have e : l.1 = m ∨ l.1 = x.1 := by simpa using e
            rcases e with e | e
            · exact absurd (e ▸ List.mem_map_of_mem hl) (g.inner_of s.aX)
            · exact nodup_map_inj g.lp hl hx e
          · rintro rfl
            exact ⟨hx, by simp⟩
        have p1 : (cutL Ls [m, x.1] ++ [x]).Perm Ls := ((List.Perm.append_left _ px.symm).trans (filter_split (fun l => decide (l.1 ∈ [m, x.1])) Ls).symm)
        refine pL.trans ((hL'.append_right _).trans ?_)
        refine List.Perm.trans (List.Perm.of_eq ?_) (p1.map _)
        rw [List.map_append]
        refine congr (congrArg _ (List.map_congr_left fun l hl => ?_)) ?_
        · have := (List.mem_filter.mp hl).2
          rw [nf _ (by simpa using this)]
        · show _ = [(newN f m x.1 f0 f1 x.1, x.2)]
          rw [ng]
    · exfalso
      obtain ⟨l0, hl0, rfl⟩ := List.mem_map.mp (hL'.mem_iff.mp hl)
      obtain ⟨h1, h2⟩ := List.mem_filter.mp hl0
      rw [nodup_map_inj g.ln h1 hx el] at h2
      simp at h2
  · -- a freed leaf
    obtain rfl : g1 = h := by cases eG; rfl
    have xne : x.1 ≠ y.1 := Pk.ne h0.pk g
    have xG : x.1 ∉ [m, g1] := fun e => by
      simp only [List.mem_cons, List.not_mem_nil, or_false] at e
      rcases e with e | e
      · exact g.inner_of s.ah (e ▸ lX)
      · exact g.inner_of s.aX (e ▸ lX)
    have xP : x.1 ∈ cutP P [m, g1] := mem_cutP.mpr ⟨(g.leafdeg lX).1, xG⟩
    have fxy : f x.1 ≠ f y.1 := fun e => xne (hf _ xP _ yP e)
    have toX : ∀ {a : Int × Int}, a ∈ As → a.2 = x.1 → a = (g1, x.1) := fun {a} ha e => cnt_one (g.up1 (a := (g1, x.1)) lX s.aX) ha s.aX (by simpa using e) (by simp)
    have nKX : ∀ {d : Int × Int}, d ∈ cutK As [m, g1] → d.2 ≠ x.1 := fun {d} hd e => by
      have := toX (c.KAs hd) e
      exact (c.hK d hd).1 (by rw [this]; simp)
    have dnh : dnN As g1 = 1 := by
      have e := s.up
      rcases g.deg g1 gP with ⟨z, _⟩ | ⟨_, ⟨z, _⟩ | ⟨_, z⟩⟩
      · exact absurd z (g.inner_of s.aX)
      · exact z
      · omega
    have memA : ∀ {d : Int × Int}, d ∈ sisA As m y.1 ++ freA As m g1 x.1 → (d.2 = y.1 ∧ (d.1, m) ∈ As) ∨ (d.2 = x.1 ∧ (d.1, g1) ∈ As) := fun {d} hd => by
      rcases List.mem_append.mp hd with hd | hd
      · obtain ⟨a, ha, rfl⟩ := List.mem_map.mp hd
        obtain ⟨ha, e⟩ := List.mem_filter.mp ha
        have e : a.2 = m := by simpa using e
        exact .inl ⟨rfl, by rw [← e]; exact ha⟩
      · obtain ⟨a, ha, rfl⟩ := List.mem_map.mp hd
        obtain ⟨ha, e⟩ := List.mem_filter.mp ha
        have e : a.2 = g1 := by
          rw [Bool.and_eq_true] at e
          simpa using e.1
        exact .inr ⟨rfl, by rw [← e]; exact ha⟩
    have noG : ∀ l ∈ Ls, l.1 ∉ [m, g1] := fun l hl e => by
      simp only [List.mem_cons, List.not_mem_nil, or_false] at e
      rcases e with e | e
      · exact g.inner_of s.ah (e ▸ List.mem_map_of_mem hl)
      · exact g.inner_of s.aX (e ▸ List.mem_map_of_mem hl)
    have eL : cutL Ls [m, g1] = Ls := List.filter_eq_self.mpr fun l hl => by simpa using noG l hl
    rw [eL] at hL'
    rcases hput with ⟨hn, _⟩ | ⟨l, hl, el, pA, pL⟩
    · exact absurd ((hL'.map (·.2)).mem_iff.mpr (by rw [List.map_map]; exact List.mem_map.mpr ⟨x, hx, rfl⟩)) hn
    · obtain ⟨l0, hl0, rfl⟩ := List.mem_map.mp (hL'.mem_iff.mp hl)
      obtain rfl : l0 = x := nodup_map_inj g.ln hl0 hx el
      refine ⟨?_, pL.trans (hL'.trans (lab (.refl _) noG))⟩
      refine (List.perm_ext_iff_of_nodup nd3 ndA).mpr fun b => ?_
      rw [pA.mem_iff, List.mem_append, mem_onA, List.mem_singleton, List.mem_map]
      dsimp only
      constructor
      · rintro ((rfl | ⟨z, hz, e, rfl⟩ | ⟨hz, e⟩) | rfl)
        · exact ⟨(g1, l0.1), s.aX, by dsimp only; rw [ng, nf _ xG]⟩
        · rcases mem_onA.mp hz with rfl | ⟨z', hz', e', rfl⟩ | ⟨hz', e'⟩
          · exact absurd e.symm fxy
          · exact absurd e.symm (n0 _ xP)
          · obtain ⟨d, hd, rfl⟩ := memB.mp hz'
            have e2 : d.2 = l0.1 := hf _ (inK hd).2 _ xP e
            rcases List.mem_append.mp hd with hd' | hd'
            · exact absurd e2 (nKX hd')
            · rcases memA hd' with ⟨e3, _⟩ | ⟨_, ha⟩
              · exact absurd (e2.symm.trans e3) xne
              · exact ⟨(d.1, g1), ha, by dsimp only; rw [ng, nf _ (c.hA _ hd').1.2]⟩
        · rcases mem_onA.mp hz with rfl | ⟨z', hz', e', rfl⟩ | ⟨hz', e'⟩
          · exact ⟨(m, y.1), s.aY, by dsimp only; rw [nm, nf _ yG]⟩
          · obtain ⟨d, hd, rfl⟩ := memB.mp hz'
            have e2 : d.2 = y.1 := hf _ (inK hd).2 _ yP e'
            rcases List.mem_append.mp hd with hd' | hd'
            · exact absurd e2 (nK hd')
            · rcases memA hd' with ⟨_, ha⟩ | ⟨e3, _⟩
              · exact ⟨(d.1, m), ha, by dsimp only; rw [nm, nf _ (c.hA _ hd').1.2]⟩
              · exact absurd (e3.symm.trans e2) xne
          · obtain ⟨d, hd, rfl⟩ := memB.mp hz'
            rcases List.mem_append.mp hd with hd' | hd'
            · have := c.hK d hd'
              exact ⟨d, c.KAs hd', by rw [nf _ this.1, nf _ this.2]⟩
            · rcases memA hd' with ⟨e3, _⟩ | ⟨e3, _⟩
              · exact absurd (congrArg f e3) e'
              · exact absurd (congrArg f e3) e
        · exact ⟨(m, g1), s.ah, by dsimp only; rw [nm, ng]⟩
      · rintro ⟨a, ha, rfl⟩
        by_cases t : touch [m, g1] a = true
        · have t : (a.1 = m ∨ a.1 = g1) ∨ a.2 = m ∨ a.2 = g1 := by simpa [touch] using t
          have am : a.1 = m → _ := fun t => cnt_two (l := As) (q := fun c => c.1 == m) (Nat.le_of_eq c.mdn) s.ah s.aY ha (by simp) (by simp) (by simpa using t) (fun e => s.hY g (Prod.mk.inj e).2)
          by_cases tm : a.1 = m
          · rcases am tm with rfl | rfl
            · exact .inr (by dsimp only; rw [nm, ng])
            · refine .inl (.inr (.inr ⟨mem_onA.mpr (.inl ?_), ?_⟩))
              · dsimp only
                rw [nm, nf _ yG]
              · dsimp only
                rw [nf _ yG]
                exact fxy.symm
          by_cases th : a.1 = g1
          · have := cnt_one dnh ha s.aX (by simpa using th) (by simp)
            rw [this]
            exact .inl (.inl (by dsimp only; rw [ng, nf _ xG]))
          rcases t with (t | t) | t | t
          · exact absurd t tm
          · exact absurd t th
          · have hA : (a.1, y.1) ∈ sisA As m y.1 ++ freA As m g1 l0.1 := List.mem_append_left _ (List.mem_map.mpr ⟨a, List.mem_filter.mpr ⟨ha, by simpa using t⟩, rfl⟩)
            refine .inl (.inr (.inr ⟨mem_onA.mpr (.inr (.inl ⟨(f a.1, f y.1), memB.mpr ⟨_, List.mem_append_right _ hA, rfl⟩, rfl, ?_⟩)), ?_⟩))
            · dsimp only
              rw [t, nm, nf _ (c.hA _ hA).1.2]
            · dsimp only
              rw [t, nm]
              exact (n0 _ xP).symm
          · have hA : (a.1, l0.1) ∈ sisA As m y.1 ++ freA As m g1 l0.1 := List.mem_append_right _ (List.mem_map.mpr ⟨a, List.mem_filter.mpr ⟨ha, by simp [t, tm]⟩, rfl⟩)
            refine .inl (.inr (.inl ⟨(f a.1, f l0.1), mem_onA.mpr (.inr (.inr ⟨memB.mpr ⟨_, List.mem_append_right _ hA, rfl⟩, fxy⟩)), rfl, ?_⟩))
            dsimp only
            rw [t, ng, nf _ (c.hA _ hA).1.2]
        · have hk : a ∈ cutK As [m, g1] := List.mem_filter.mpr ⟨ha, by simpa using t⟩
          have hh := c.hK a hk
          have hP2 := (inK (List.mem_append_left _ hk)).2
          refine .inl (.inr (.inr ⟨mem_onA.mpr (.inr (.inr ⟨memB.mpr ⟨a, List.mem_append_left _ hk, by rw [nf _ hh.1, nf _ hh.2]⟩, ?_⟩)), ?_⟩))
          · dsimp only
            rw [nf _ hh.2]
            exact fun e => nK hk (hf _ hP2 _ yP e)
          · dsimp only
            rw [nf _ hh.2]
            exact fun e => nKX hk (hf _ hP2 _ xP e)
end
end Lg

/-! The places of a net that was renumbered. -/
namespace Lg
open PySem PySem.Spec PyProof.Rows L2
section
variable {As As' : List (Int × Int)} {Ls Ls' : List (Int × Str)} {P P' : List Int} {f : Int → Int}
end
end Lg

/-! A row of nets, each plucked out of the one before. -/
namespace Lg
open PySem PySem.Spec PyProof.Rows L2
structure St2 where
  nv : V
  As : List (Int × Int)
  Ls : List (Int × Str)
  P : List Int
abbrev St2Ok (S : Av) (H : Hp) (a : St2) : Prop := Da S H a.nv (netD a.As a.Ls) ∧ Good a.As a.Ls a.P ∧ SrtA a.As a.As
structure Lk2 where
  t : Addr
  x : Int × Str
  y : Int × Str
  m : Int
  g1 : Int
  A : List (Int × Int)
abbrev Lk2Ok (S : Av) (H : Hp) (a b : St2) (l : Lk2) : Prop := H l.t = some (.tup [.str l.x.2, .str l.y.2]) ∧ ¬ S l.t ∧ l.x ∈ a.Ls ∧ l.y ∈ a.Ls ∧ Plk a.As a.Ls l.m l.x.1 l.y.1 [l.m, l.g1] l.A ∧ SrtA (cutK a.As [l.m, l.g1] ++ l.A) b.As ∧ b.Ls = cutL a.Ls [l.m, l.g1] ∧ b.P = cutP a.P [l.m, l.g1]
structure Chn2 (S : Av) (H : Hp) (r : Nat) (st : Nat → St2) (lk : Nat → Lk2) : Prop where
  stg : ∀ i, i ≤ r → St2Ok S H (st i)
  lnk : ∀ i, i < r → Lk2Ok S H (st i) (st (i + 1)) (lk i)
theorem Chn2.go {S : Av} {H H' : Hp} {r : Nat} {st : Nat → St2} {lk : Nat → Lk2} (h : Chn2 S H r st lk) (k : ∀ b u, ¬ S b → H b = some u → H' b = some u) : Chn2 S H' r st lk :=
  ⟨fun i hi => let ⟨a, b⟩ := h.stg i hi; ⟨a.go fun b u hb e => ⟨hb, k b u hb e⟩, b⟩, fun i hi => let ⟨a, b, c⟩ := h.lnk i hi; ⟨k _ _ b a, b, c⟩⟩
theorem Chn2.snoc {S : Av} {H : Hp} {r : Nat} {st : Nat → St2} {lk : Nat → Lk2} {g : St2} {l : Lk2} (h : Chn2 S H r st lk) (hg : St2Ok S H g) (hl : Lk2Ok S H (st r) g l) :
    ∃ st' lk', Chn2 S H (r + 1) st' lk' ∧ (∀ i, i ≤ r → st' i = st i) ∧ st' (r + 1) = g ∧ (∀ i, i < r → lk' i = lk i) ∧ lk' r = l := by
  refine ⟨fun i => if i ≤ r then st i else g, fun i => if i < r then lk i else l, ⟨fun i hi => ?_, fun i hi => ?_⟩, fun i hi => if_pos hi, if_neg (by omega), fun i hi => if_pos hi, if_neg (by omega)⟩
  · by_cases c : i ≤ r
    · rw [if_pos c]
      exact h.stg i c
    · rw [if_neg c]
      exact hg
  · rw [if_pos (show i ≤ r by omega)]
    by_cases c : i < r
    · rw [if_pos c, if_pos (show i + 1 ≤ r by omega)]
      exact h.lnk i c
    · have e : i = r := by omega
      rw [if_neg c, if_neg (show ¬ i + 1 ≤ r by omega), e]
      exact hl
section
variable {As A Bs : List (Int × Int)} {Ls : List (Int × Str)} {P : List Int} {m g1 : Int} {x y : Int × Str}
end
end Lg

/-! While an exception is handled: own errors raised where nothing is handled, caught and pinned; defs that an except suite calls. -/
namespace Lg
open PySem PySem.Spec PyProof.Rows L2 L2H HotX
/-! ### the handled exception -/
/-- p is the exception that is handled, and every state bears it -/
def HotP (X : Cx) (p : Addr × Obj) : Prop := Hot1 X.A p ∧ p ∈ X.pn
theorem HotP.c {X : Cx} {p : Addr × Obj} (h : HotP X p) : HotC X := ⟨p, h⟩
theorem HotP.nox {X : Cx} {p : Addr × Obj} (h : HotP X p) : HotP X.nox p := h
/-- an own error at p: its class, its dict, its fields -/
structure ExP (K : PySem.W.Frag) (H : Hp) (p : Addr × Obj) (C dd : Addr) (fs : List (Str × V)) (ns : List Str) : Prop where
  z : Zc (.ref C) (some dd) p.2
  f : ∃ vs, p.2.data = .fields vs
  d : H dd = some (.xd fs)
  t : ExF K C ns
theorem ExP.same {K : PySem.W.Frag} {H H' : Hp} {p : Addr × Obj} {C dd : Addr} {fs : List (Str × V)} {ns : List Str} (h : ExP K H p C dd fs ns) (s : Same H H') : ExP K H' p C dd fs ns := ⟨h.z, h.f, s _ _ h.d, h.t⟩
section
variable {X : Cx} {pins : List (Addr × Obj)} {σ : L2.St} {H : Hp} {s : Shared} {p : Addr × Obj} {C dd : Addr} {fs : List (Str × V)} {ns : List Str}
end
/-- isinstance(e, c), isinstance(e, (c, ..)), e the handled own error -/
def rIsP (K : PySem.W.Frag) (p : Addr × Obj) : List V → Hp → VK → Prop := fun xs H Q => ∃ (D dd : Addr) (fs : List (Str × V)) (ns : List Str) (c : V) (b : Bool), xs = [.ref p.1, c] ∧ ExP K H p D dd fs ns ∧
  ((∃ cv, ClsV c cv ∧ PySem.W.kitOne K (.ref D) cv = some b) ∨ ∃ tp cs us, c = .ref tp ∧ H tp = some (.tup cs) ∧ Paired ClsV cs us ∧ PySem.W.kitAny K (.ref D) us = some b) ∧ Q (.bl b) H
/-- e.f, e the handled own error -/
def tXfP (K : PySem.W.Frag) (p : Addr × Obj) (f : Str) (te : TE) : TE := fun σ H Q => te σ H fun x H1 => ∃ (C dd : Addr) (fs : List (Str × V)) (v : V) (ns : List Str), x = .ref p.1 ∧ ExP K H1 p C dd fs ns ∧ f ∈ ns ∧ fs.lookup f = some v ∧ Q v H1
/-! ### defs that are told for a handled exception -/
abbrev SpT := Addr × Obj → Sp
structure FnT (P : Program) (w : World) (K : PySem.W.Frag) (mg : Str → Option Value) (base : Heap) (CX : CXT) (k : Nat) (f : Addr) (fd : FuncData) (ps : List Str) (sp : SpT) : Prop where
  len : ∀ p vs H Q E, sp p vs H Q E → vs.length = ps.length
  run : ∀ (A : Around) (outer : List Env) (s : Shared) (H : Hp) (args : Args) (us : List Value) (vs : List V) (Q : VK) (E : XK) (p : Addr × Obj), RoomH k A → Hot1 A p → PinOk outer H s p → Env0 P w K mg base A outer s H → BindsTo s fd args (ps.zip us) → Vals vs us → sp p vs H Q E →
    codeAny (model P w) A (.call (.ref f) args) (CR CX outer P w H s Q E) s
theorem FnT.mono {P : Program} {w : World} {K : PySem.W.Frag} {mg : Str → Option Value} {base : Heap} {CX : CXT} {j k : Nat} {f : Addr} {fd : FuncData} {ps : List Str} {sp : SpT} (F : FnT P w K mg base CX k f fd ps sp) (h : k ≤ j) : FnT P w K mg base CX j f fd ps sp :=
  ⟨F.len, fun A outer s H args us vs Q E p hr => F.run A outer s H args us vs Q E p (hr.mono h)⟩
theorem FnT.never {P : Program} {w : World} {K : PySem.W.Frag} {mg : Str → Option Value} {base : Heap} {CX : CXT} {k : Nat} {f : Addr} {fd : FuncData} {ps : List Str} {sp : SpT} (h : ∀ p vs H Q E, sp p vs H Q E → False) : FnT P w K mg base CX k f fd ps sp :=
  ⟨fun p vs H Q E z => (h p vs H Q E z).elim, fun _ _ _ H _ _ vs Q E p _ _ _ _ _ _ z => (h p vs H Q E z).elim⟩
section
variable {P : Program} {w : World} {K : PySem.W.Frag} {mg : Str → Option Value} {base : Heap} {x qual : Str} {st : Stmt} {f : Addr} {fd : FuncData} {N ps : List Str} {sp : SpT} {j k : Nat}
structure OwnT (P : Program) (w : World) (K : PySem.W.Frag) (mg : Str → Option Value) (base : Heap) (k : Nat) (x : Str) (ps : List Str) (sp : SpT) : Prop where
  ex : ∃ f fd, FnT P w K mg base CX0 k f fd ps sp ∧ mg x = some (.ref f) ∧ PySem.W.keepIn K (.ref f) = true ∧ Binds K fd ps []
theorem OwnT.up (O : OwnT P w K mg base k x ps sp) (h : k ≤ j) : OwnT P w K mg base j x ps sp := by
  obtain ⟨f, fd, F, r⟩ := O.ex
  exact ⟨f, fd, F.mono h, r⟩
theorem OwnT.mk' (F : Fun K x qual st f fd) (ok : FnT P w K mg base CX0 k f fd ps sp) (g : mg x = some (.ref f)) (b : Binds K fd ps []) : OwnT P w K mg base k x ps sp := ⟨f, fd, ok, g, F.kp, b⟩
end
section
variable {X : Cx} {k : Nat} {x : Str} {ps : List Str} {sp : SpT} {e : Expr} {es : List Expr} {t : L2.TA} {p' pos : Pos} {p : Addr × Obj}
end
/-! ### lists, walked there -/
section
variable {prog : Program} {w : World} {A : Around} {E : Value → Shared → Prop} {s : Shared}
end
end Lg

/-! Comprehensions within a hot def, their blocks bearing the pin of the exception that is handled; own errors with the context None: made, raised, caught. -/
namespace Lg
open PySem PySem.Spec PyProof.Rows L2 L2H HotX
/-- the block's context, with the pin -/
abbrev blkH (X : Cx) (s : Shared) (H : Hp) (scope : Scope) (ce : Env) (fp : List Addr) (p : Addr × Obj) : Cx := (X.blk s H scope ce fp).tr [p] (fun _ _ => False)
section
variable {X : Cx} {tg iter elt : Expr} {ifs : List Expr} {scope : Scope} {own : List (Str × Nat)} {pos : Pos} {wi : TI} {g : TG} {tt : TT} {te : TE}
end

/-! ### own errors with the context None -/
theorem fnok_calmN {P : Program} {w : World} {K : PySem.W.Frag} {mg : Str → Option Value} {base : Heap} {k : Nat} {f : Addr} {fd : FuncData} {ps : List Str} {sp : Sp} (F : FnOk P w K mg base (L2N.CX P w) k f fd ps sp) : FnOk P w K mg base CX0 k f fd ps (noE sp) := by
  refine ⟨fun vs H Q E h => F.len vs H Q E0 h, fun A outer s H args us vs Q E hr e0 hb hv hs => codeAny_mono (F.run A outer s H args us vs Q E0 hr e0 hb hv hs) fun r s' hq => ?_⟩
  cases r with
  | error e =>
    obtain ⟨_, _, _, _, _, _, _, _, _, _, _, _, z⟩ := hq
    exact z.elim
  | ok fl => cases fl <;> exact hq
structure OwnXN (P : Program) (w : World) (K : PySem.W.Frag) (mg : Str → Option Value) (base : Heap) (k : Nat) (x : Str) (ps : List Str) (sp : Sp) : Prop where
  ex : ∃ f fd, FnOk P w K mg base (L2N.CX P w) k f fd ps sp ∧ mg x = some (.ref f) ∧ PySem.W.keepIn K (.ref f) = true ∧ Binds K fd ps [] ∧ KBn K fd ps 0 ps (fun _ ws => ws) (fun _ zs => zs)
section
variable {P : Program} {w : World} {K : PySem.W.Frag} {mg : Str → Option Value} {base : Heap} {k j : Nat} {x qual : Str} {st : Stmt} {f : Addr} {fd : FuncData} {N ps : List Str} {sp : Sp}
theorem OwnXN.up (O : OwnXN P w K mg base k x ps sp) (h : k ≤ j) : OwnXN P w K mg base j x ps sp := by
  obtain ⟨f, fd, F, r⟩ := O.ex
  exact ⟨f, fd, F.mono h, r⟩
theorem OwnXN.calm (O : OwnXN P w K mg base k x ps sp) : Own P w K mg base k x ps (noE sp) := by
  obtain ⟨f, fd, F, r⟩ := O.ex
  exact ⟨f, fd, fnok_calmN F, r⟩
theorem OwnXN.mk' (F : Fun K x qual st f fd) (ok : FnOk P w K mg base (L2N.CX P w) k f fd ps sp) (g : mg x = some (.ref f)) (b : Binds K fd ps []) (kb : KBn K fd ps 0 ps (fun _ ws => ws) (fun _ zs => zs)) : OwnXN P w K mg base k x ps sp := ⟨f, fd, ok, g, F.kp, b, kb⟩
end
section
variable {X : Cx} {k : Nat} {x : Str} {C : Addr} {ps fs : List Str} {sp : Sp} {e : Expr} {es : List Expr} {t : L2.TA} {p pos pos' : Pos} {W : WX}
end

/-! ### try: .. except C: .. except D as n: .., the exception pinned -/
abbrev TSp := Addr × Obj → TS
def wMixP (K : PySem.W.Frag) (Wout : WX) (D : Ends) : List (Value × Option Nat × TSp) → WX
  | [] => Wout
  | (c, none, ts) :: r => fun cls d σ H => ∃ b, PySem.W.exmOne K cls c = some b ∧ (b = true → ∀ p : Addr × Obj, H p.1 = none → Zc cls d p.2 → (∃ vs, p.2.data = .fields vs) → ts p D σ H) ∧ (b = false → wMixP K Wout D r cls d σ H)
  | (c, some i, ts) :: r => fun cls d σ H => ∃ b, PySem.W.exmOne K cls c = some b ∧ (b = true → ∀ p : Addr × Obj, H p.1 = none → Zc cls d p.2 → (∃ vs, p.2.data = .fields vs) → ts p (endI i D) (σ.set i (some (.ref p.1))) H) ∧ (b = false → wMixP K Wout D r cls d σ H)
inductive HdsP (X : Cx) : List ExceptHandler → List (Value × Option Nat × TSp) → Prop
  | nil : HdsP X [] []
  | one {x : Str} {c : Value} {ts : TSp} {b₀ : Stmt} {suite : List Stmt} {np pos' : Pos} {hds : List ExceptHandler} {l : List (Value × Option Nat × TSp)} (hc : Names X x c) (hsu : ∀ (p : Addr × Obj) (pn : List (Addr × Obj)), HotP (X.suite p.1 (p :: pn)) p → PSs (X.suite p.1 (p :: pn)) (b₀ :: suite) (ts p)) (r : HdsP X hds l) :
      HdsP X (.ExceptHandler (some (.Name x np)) none (b₀ :: suite) pos' :: hds) ((c, none, ts) :: l)
  | as_ {x n : Str} {c : Value} {i : Nat} {ts : TSp} {b₀ : Stmt} {suite : List Stmt} {np pos' : Pos} {hds : List ExceptHandler} {l : List (Value × Option Nat × TSp)} (hi : X.N[i]? = some n) (hln : X.env.kindOf n = some .local) (hc : Names X x c) (hsu : ∀ (p : Addr × Obj) (pn : List (Addr × Obj)), HotP (X.suite p.1 (p :: pn)) p → PSs (X.suite p.1 (p :: pn)) (b₀ :: suite) (ts p)) (r : HdsP X hds l) :
      HdsP X (.ExceptHandler (some (.Name x np)) (some n) (b₀ :: suite) pos' :: hds) ((c, some i, ts) :: l)
section
variable {X : Cx} {body : List Stmt} {h₀ : ExceptHandler} {hds : List ExceptHandler} {l : List (Value × Option Nat × TSp)} {pos : Pos} {tb : WX → TS} {Wout : WX}
end

/-! ### methods that may raise -/
structure OwnMX (P : Program) (w : World) (K : PySem.W.Frag) (mg : Str → Option Value) (base : Heap) (k : Nat) (C : Addr) (m : Str) (ps : List Str) (sp : Sp) : Prop where
  ex : ∃ f fd, FnOk P w K mg base (L2N.CX P w) k f fd ps sp ∧ Meth K C m f ∧ Binds K fd ps []
theorem OwnMX.up {P : Program} {w : World} {K : PySem.W.Frag} {mg : Str → Option Value} {base : Heap} {C : Addr} {m : Str} {ps : List Str} {sp : Sp} {j k : Nat} (O : OwnMX P w K mg base k C m ps sp) (h : k ≤ j) : OwnMX P w K mg base j C m ps sp := by
  obtain ⟨f, fd, F, r⟩ := O.ex
  exact ⟨f, fd, F.mono h, r⟩
theorem OwnMX.calm {P : Program} {w : World} {K : PySem.W.Frag} {mg : Str → Option Value} {base : Heap} {C : Addr} {m : Str} {ps : List Str} {sp : Sp} {k : Nat} (O : OwnMX P w K mg base k C m ps sp) : OwnM P w K mg base k C m ps (noE sp) := by
  obtain ⟨f, fd, F, r⟩ := O.ex
  exact ⟨f, fd, fnok_calmN F, r⟩
def tMethX (C : Addr) (m : Str) (sp : Sp) (W : WX) (ta : TE) (t : L2.TA) : TE := fun σ H Q => ta σ H fun x H1 => ∃ a dx fs, x = .ref a ∧ H1 a = some (.ins C dx fs) ∧ fs.lookup m = none ∧ t σ H1 fun vs H2 => sp (x :: vs) H2 Q (WE W σ)
end Lg

/-! What classes a handled own error is of. -/
namespace Lg
open PySem PySem.Spec PyProof.Rows L2 L2H HotX
/-! ### gifts -/
/-- the arrows at whose ends stands one moment -/
def GF (Bs : List (Int × Int)) (f : Int → Int) : List (Int × Int) := Bs.filter fun b => decide (f b.1 = f b.2)
/-! ### a list of new rows, each a text and a truth -/
abbrev kd (z : Str × Bool) : PyData := .tuple [.str z.1, .bool z.2]
/-- ys: the rows of the list at R; xs: rows that are not in it yet -/
structure KI (K : PySem.W.Frag) (H0 H : Hp) (p : Addr × Obj) (C dd : Addr) (fs : List (Str × V)) (ns : List Str) (R : Addr) (ys : List V) (es : List (Str × Bool)) (xs : List V) (ds : List (Str × Bool)) : Prop where
  s : Same H0 H
  ex : ExP K H p C dd fs ns
  r : H R = some (.lst ys)
  da : DaAll (fun _ => False) H ys (es.map kd)
  db : DaAll (fun _ => False) H xs (ds.map kd)
section
variable {K : PySem.W.Frag} {H0 H : Hp} {p : Addr × Obj} {C dd R : Addr} {fs : List (Str × V)} {ns : List Str} {ys xs : List V} {es ds : List (Str × Bool)}
theorem KI.tup (I : KI K H0 H p C dd fs ns R ys es xs ds) {t : Addr} {k : Str} {b : Bool} (n : H t = none) : KI K H0 (upd H t (.tup [.str k, .bl b])) p C dd fs ns R ys es (xs ++ [.ref t]) (ds ++ [(k, b)]) := by
  have z := same_snoc (o := .tup [.str k, .bl b]) (Same.refl H) n
  refine ⟨I.s.trans z, I.ex.same z, z _ _ I.r, I.da.same z, ?_⟩
  rw [List.map_append]
  exact (I.db.same z).app (.one (.tup (fun h => h) upd_same (.cons (.str _) (.one (.bl _)))))
theorem KI.lst (I : KI K H0 H p C dd fs ns R ys es xs ds) {L P : Addr} (n : H L = none) (m : upd H L (.lst xs) P = none) : upd H L (.lst xs) R = some (.lst ys) ∧ upd H L (.lst xs) L = some (.lst xs) ∧ KI K H0 (upd (upd H L (.lst xs)) P (.lst (ys ++ xs))) p C dd fs ns P (ys ++ xs) (es ++ ds) [] [] := by
  have z1 := same_snoc (o := .lst xs) (Same.refl H) n
  have z2 := same_snoc (o := .lst (ys ++ xs)) z1 m
  refine ⟨z1 _ _ I.r, upd_same, I.s.trans z2, I.ex.same z2, upd_same, ?_, .nil⟩
  rw [List.map_append]
  exact (I.da.same z2).app (I.db.same z2)
theorem KI.start (ex : ExP K H p C dd fs ns) (s : Same H0 H) (db : DaAll (fun _ => False) H xs (ds.map kd)) {L : Addr} (n : H L = none) : KI K H0 (upd H L (.lst xs)) p C dd fs ns L xs ds [] [] := by
  have z := same_snoc (o := .lst xs) (Same.refl H) n
  exact ⟨s.trans z, ex.same z, upd_same, db.same z, .nil⟩
end
section
variable {P : List Int} {As Bs : List (Int × Int)} {Ls : List (Int × Str)} {f : Int → Int}
/-- who gives to a mixing: the later one of its two mothers -/
def gvr (Bs : List (Int × Int)) (f : Int → Int) (p : Int) : Int := match upsOf Bs p with
  | [a, b] => if f a < f b then b else a
  | _ => 0
/-- the places with one child -/
abbrev mixP (P : List Int) (Bs : List (Int × Int)) : List Int := P.filter fun p => (downsOf Bs p).length == 1
end
end Lg

/-! Defs with a calm promise and one for what they raise; own errors that keep a copy; what may be put back. -/
namespace Lg
open PySem PySem.Spec PyProof.Rows L2 L2H HotX
abbrev spOr (s1 s2 : Sp) : Sp := fun vs H Q E => s1 vs H Q E ∨ s2 vs H Q E
theorem _root_.L2.FnOk.or {P : Program} {w : World} {K : PySem.W.Frag} {mg : Str → Option Value} {base : Heap} {k : Nat} {f : Addr} {fd : FuncData} {ps : List Str} {s1 s2 : Sp} (F1 : FnOk P w K mg base (L2N.CX P w) k f fd ps s1) (F2 : FnOk P w K mg base CX0 k f fd ps s2) : FnOk P w K mg base (L2N.CX P w) k f fd ps (spOr s1 s2) := by
  refine ⟨fun vs H Q E h => h.elim (F1.len vs H Q E) (F2.len vs H Q E), fun A outer s H args us vs Q E hr e0 hb hv h => ?_⟩
  rcases h with h | h
  · exact F1.run A outer s H args us vs Q E hr e0 hb hv h
  · refine codeAny_mono (F2.run A outer s H args us vs Q E hr e0 hb hv h) fun r s' hq => ?_
    cases r with
    | error e => exact (show False from hq).elim
    | ok fl => cases fl <;> exact hq
mutual
/-- lists and tuples stay -/
theorem Da.lt {S : Av} {H H' : Hp} (k1 : ∀ b xs, H b = some (.lst xs) → H' b = some (.lst xs)) (k2 : ∀ b xs, H b = some (.tup xs) → H' b = some (.tup xs)) : ∀ {v : V} {d : PyData}, Da S H v d → Da S H' v d
  | _, _, .non => .non
  | _, _, .bl b => .bl b
  | _, _, .int i => .int i
  | _, _, .str x => .str x
  | _, _, .lst n e r => .lst n (k1 _ _ e) (DaAll.lt k1 k2 r)
  | _, _, .tup n e r => .tup n (k2 _ _ e) (DaAll.lt k1 k2 r)
theorem DaAll.lt {S : Av} {H H' : Hp} (k1 : ∀ b xs, H b = some (.lst xs) → H' b = some (.lst xs)) (k2 : ∀ b xs, H b = some (.tup xs) → H' b = some (.tup xs)) : ∀ {vs : List V} {ds : List PyData}, DaAll S H vs ds → DaAll S H' vs ds
  | _, _, .nil => .nil
  | _, _, .cons a r => .cons (Da.lt k1 k2 a) (DaAll.lt k1 k2 r)
end
/-! ### an own error that keeps a copy of what is passed -/
def spExcF (K : PySem.W.Frag) (f : Str) : Sp := fun vs H Q _ => ∃ (a C : Addr) (x : V) (S : Av) (d0 : PyData), vs = [.ref a, x] ∧ OexC K C ∧ PySem.W.findIn K (.ref C) f = some none ∧ H a = some (exo a C none) ∧ Al S H ∧ Da S H x d0 ∧ Dd 1000000 70 d0 ∧
  ∀ (d : Addr) (H' : Hp) (v : V), H d = none → d ≠ a → (∀ b o, b ≠ a → H b = some o → H' b = some o) → H' a = some (exo a C (some d)) → H' d = some (exd d [(f, v)]) → Da S H' v d0 → Q .non H'
structure OwnEG (P : Program) (w : World) (K : PySem.W.Frag) (mg : Str → Option Value) (base : Heap) (k : Nat) (x : Str) (C : Addr) (ps fs : List Str) (sp : Sp) : Prop where
  ex : ∃ i fd, i + 1 ≤ k ∧ FnOk P w K mg base CX0 i (He.ma K C "__init__") fd ps sp ∧ mg x = some (.ref C) ∧ ExF K C fs ∧ Binds K fd ps []
theorem OwnEG.up {P : Program} {w : World} {K : PySem.W.Frag} {mg : Str → Option Value} {base : Heap} {x : Str} {C : Addr} {ps fs : List Str} {sp : Sp} {j k : Nat} (O : OwnEG P w K mg base k x C ps fs sp) (h : k ≤ j) : OwnEG P w K mg base j x C ps fs sp := by
  obtain ⟨i, fd, l, r⟩ := O.ex
  exact ⟨i, fd, Nat.le_trans l h, r⟩
def tRaiseG (C : Addr) (sp : Sp) (W : WX) (t : L2.TA) : TS := fun _ σ H => tMkO C sp [] t σ H fun cls d H' => W cls d σ H'
/-! ### which one of the classes -/
def fau16 : List Str := ["BadNet", "BadText", "BadTree", "BadName", "BadValue", "NoLeaf", "NoPlace", "NoArrow", "NoPair", "BadRow", "BadMoments", "BadPaper", "Unlike", "NoRow", "BadEdit", "TooMany"]
abbrev boolsD (l : List Bool) : PyData := .list (l.map PyData.bool)
/-! ### what may be put back, and the refusals in their order -/
def dueP (As : List (Int × Int)) (Ls : List (Int × Str)) (P : List Int) (x y : Str) : PyData :=
  if nameL x.cps.toList = false then .tuple [.str "BadName", .str x, .bool true] else
  if y ∉ Ls.map (·.2) then .tuple [.str "NoLeaf", .str y, .bool true] else
  if x = y then .tuple [.str "NoPair", ssd (x, y), .bool true] else
  if x ∉ Ls.map (·.2) ∧ Ls.length = 12 then .tuple [.str "TooMany", .tuple [.str "leaves", .int 13], .bool true] else
  if x ∈ Ls.map (·.2) ∧ mixs As P = 8 then .tuple [.str "TooMany", .tuple [.str "mixings", .int 9], .bool true] else .none
end Lg

/-! Smoothing away: what is left after a pair is plucked, drawn twice. -/
namespace Lg
open PySem PySem.Spec PyProof.Rows L2
/-! ### smoothing away -/
section
variable {C As : List (Int × Int)} {Ls : List (Int × Str)} {P : List Int} {g k p m h X Y : Int}
def gnP (C : List (Int × Int)) (p : Int) : Bool := decide (dnN C p = 1) && decide (upN C p < 2)
def goneL (C : List (Int × Int)) : List Int := (C.map (·.1)).filter (gnP C)
def kidOf (C : List (Int × Int)) (g : Int) : Int := ((C.filter fun a => a.1 == g).map (·.2)).headD 0
def smT (C : List (Int × Int)) (g k : Int) : List (Int × Int) := ((C.filter fun a => a.2 == g).map fun a => (a.1, k)) ++ C.filter fun a => !(a.1 == g) && !(a.2 == g)
def sm1 (C : List (Int × Int)) : List (Int × Int) := match goneL C with
  | [] => C
  | g :: _ => smT C g (kidOf C g)
theorem Good.mixed (g : Good As Ls P) (h : dnN As p = 1) : upN As p = 2 := by
  obtain ⟨a, ha, e⟩ := of_dn (As := As) (p := p) (by omega)
  rcases g.deg p (e ▸ (g.ends a ha).1) with ⟨_, h1, _⟩ | ⟨_, ⟨_, h1⟩ | ⟨h1, _⟩⟩
  · omega
  · exact h1
  · omega
end
end Lg

/-! A list comprehension whose elements may raise: the exception leaves the block for the def around it. -/
namespace Lg
open PySem PySem.Spec PyProof.Rows L2 L2N
/-- what a block that is let go leaves; its frame is known -/
def postX (M : Model) (A : Around) (E : Value → Shared → Prop) (Q : Value → Shared → Prop) (acc : Value) (C : Addr) (F : Option Addr) (r : Result) (s' : Shared) : Prop :=
  match r with
  | .ok _ => ∃ m, s'.heap.Ns C m ∧ ∀ h', Heap.SameBut C s'.heap h' → Q acc { s' with heap := h' }
  | .error x => ∃ m, s'.heap.Ns C m ∧ ∀ h', Heap.SameBut C s'.heap h' → ∀ c : Env, c.locals = C → c.frame = F → wpAny M A (passOn "comprehension.variables-let-go" x c : Sem Value) (fun _ _ => False) E { s' with heap := h' }
section
variable {X : Cx} {tg iter elt : Expr} {ifs : List Expr} {scope : Scope} {own : List (Str × Nat)} {pos : Pos} {wi : TI} {g : TG} {tt : TT} {te : WX → TE} {Wout : WX}
/-- as tLc; what an element raises is wished in the outer names -/
def tLcE (wi : TI) (g : TG) (tt : TT) (te : WX → TE) (vs : List Nat) (Wout : WX) : TE := fun σ H Q => tLc wi g tt (te fun c d _ H' => Wout c d σ H') vs σ H Q
end
structure OwnKX (P : Program) (w : World) (K : PySem.W.Frag) (mg : Str → Option Value) (base : Heap) (k : Nat) (x : Str) (ps ks : List Str) (is : List Nat) (sp : Sp) : Prop where
  ex : ∃ f fd, FnOk P w K mg base (L2N.CX P w) k f fd ps sp ∧ mg x = some (.ref f) ∧ PySem.W.keepIn K (.ref f) = true ∧ KBn K fd ps 0 ks (fun _ ws => permL is ws) (fun _ zs => permL is zs)
theorem OwnKX.up {P : Program} {w : World} {K : PySem.W.Frag} {mg : Str → Option Value} {base : Heap} {x : Str} {ps ks : List Str} {is : List Nat} {sp : Sp} {j k : Nat} (O : OwnKX P w K mg base k x ps ks is sp) (h : k ≤ j) : OwnKX P w K mg base j x ps ks is sp := by
  obtain ⟨f, fd, F, r⟩ := O.ex
  exact ⟨f, fd, F.mono h, r⟩
end Lg

/-! The knots: the five rules by which a place is held. -/
namespace Lg
open PySem PySem.Spec PyProof.Rows L2 L2N
abbrev kds (Bs : List (Int × Int)) (c : Int) : Nat := (downsOf Bs c).length
def splC (Bs : List (Int × Int)) (M : List Int) (p : Int) : Bool := decide (kds Bs p = 2) && (downsOf Bs p).any fun c => decide (kds Bs c = 2) && decide (c ∈ M)
def mixC (Bs : List (Int × Int)) (M : List Int) (p : Int) : Bool := decide (kds Bs p = 2) && (downsOf Bs p).all fun c => decide (kds Bs c = 1) && decide (c ∈ M)
def belC (Bs : List (Int × Int)) (M : List Int) (p : Int) : Bool := decide (kds Bs p = 2) && ((downsOf Bs p).filter fun c => decide (kds Bs c = 1)).any fun m => (downsOf Bs m).any fun c => decide (c ∈ M)
def chiC (Bs : List (Int × Int)) (M : List Int) (p : Int) : Bool := decide (kds Bs p = 1) && (downsOf Bs p).all fun c => decide (c ∈ M)
def motC (Bs : List (Int × Int)) (M : List Int) (p : Int) : Bool := decide (kds Bs p = 1) && (upsOf Bs p).all fun m => (downsOf Bs m).all fun c => decide (c = p) || decide (c ∈ M)
/-- members and a place of a net, asked by a rule -/
def spRule (r : List (Int × Int) → List Int → Int → Bool) (K : PySem.W.Frag) : Sp := fun vs H Q _ => ∃ (S : Av) (o a : Addr) (As Bs : List (Int × Int)) (Ls Ms : List (Int × Str)) (P : List Int) (root : Int) (M : List Int) (p : Int),
  vs = [.ref o, .ref a, .int p] ∧ NetAt S K H o Bs Ls Ms P root ∧ Good As Ls P ∧ SrtA As Bs ∧ H a = some (.lst (M.map V.int)) ∧ M.length ≤ 1000 ∧ p ∈ P ∧ ∀ H' : Hp, Same H H' → Q (.bl (r Bs M p)) H'
theorem kds_split {Bs : List (Int × Int)} {c : Int} {z : Str} (h : (["leaf", "mixing", "split"] : List Str)[kds Bs c]? = some z) : decide (V.str z = V.str "split") = decide (kds Bs c = 2) := by
  match kds Bs c, h with
  | 0, h => cases h; decide +kernel
  | 1, h => cases h; decide +kernel
  | 2, h => cases h; decide +kernel
theorem kds_mix {Bs : List (Int × Int)} {c : Int} {z : Str} (h : (["leaf", "mixing", "split"] : List Str)[kds Bs c]? = some z) : decide (V.str z = V.str "mixing") = decide (kds Bs c = 1) := by
  match kds Bs c, h with
  | 0, h => cases h; decide +kernel
  | 1, h => cases h; decide +kernel
  | 2, h => cases h; decide +kernel
/-- a comprehension of two fors over whole numbers, whose elements are asked one by one -/
theorem lc2_intM {K : PySem.W.Frag} {td td1 te : TE} {a : Addr} {ns : List Int} {ia ie : Nat} {vs vs1 : List Nat} {σ : L2.St} {H : Hp} {Q : VK} (htd : ∀ R : V → Hp → Prop, R (.ref a) H → td σ H R) (ea : H a = some (.lst (ns.map V.int))) (val : Int → List Int) (y : Int → Int → V) (hc : ∀ m ∈ ns, (val m).length ≤ 100) (hn : ns.length ≤ 100)
    (hw : ∀ v, wipe ((wipe σ vs).set ia (some v)) vs = wipe σ vs)
    (hw1 : ∀ v u, wipe ((wipe ((wipe σ vs).set ia (some v)) vs1).set ie (some u)) vs1 = wipe ((wipe σ vs).set ia (some v)) vs1)
    (h1 : ∀ m ∈ ns, ∀ (H1 : Hp) (R : V → Hp → Prop), Same H H1 → (∀ (b : Addr) (H2 : Hp), Same H1 H2 → (H1 b = none ∨ H b ≠ none) → H2 b = some (.lst ((val m).map V.int)) → R (.ref b) H2) → td1 ((wipe σ vs).set ia (some (.int m))) H1 R)
    (h2 : ∀ m ∈ ns, ∀ q ∈ val m, ∀ (H1 : Hp) (A : VK), Same H H1 → (∀ H2, Same H1 H2 → A (y m q) H2) → te ((wipe ((wipe σ vs).set ia (some (.int m))) vs1).set ie (some (.int q))) H1 A)
    (hd : ∀ D H', H D = none → Same H H' → H' D = some (.lst (ns.flatMap fun m => (val m).map (y m))) → Q (.ref D) H') :
    tLc2 (iList K td) (gName ia) tYes (iList K td1) (gName ie) tYes te vs vs1 σ H Q := by
  refine htd _ ⟨a, rfl, ⟨_, .of ea⟩, fun D nD => ?_⟩
  refine loop_it (walk_list (K := K) (a := a) (xs := ns.map V.int)) (fun i H' => Same H H' ∧ H' D = some (.lst ((ns.take i).flatMap fun m => (val m).map (y m)))) ⟨same_new (Same.refl H) nD, upd_same⟩ (fun i H' _ hp => .of (hp.1 _ _ ea))
    (Step := fun Nx x H' => gName ia x (wipe σ vs) H' fun σ2 H2 => wipe σ2 vs = wipe σ vs ∧ tYes σ2 H2 fun b H3 => if b = true then iList K td1 σ2 H3 fun J1 H4 => ∃ W1 : Nat → Nat → Hp → Prop, (∃ m, W1 0 m H4) ∧ ∀ j k H, W1 j k H →
      (J1.stop j H ∧ Nx H) ∨ (J1.go j H ∧ ∃ Nx1 : Hp → Prop, (∀ H', Nx1 H' → ∃ k', k' < k ∧ W1 (j + 1) k' H') ∧ ∀ x H', J1.yld j H x H' → gName ie x (wipe σ2 vs1) H' fun σ3 H5 => wipe σ3 vs1 = wipe σ2 vs1 ∧ tYes σ3 H5 fun b H6 =>
        if b = true then te σ3 H6 fun y H7 => ∃ acc, H7 D = some (.lst acc) ∧ acc.length < sizeLine ∧ Nx1 (upd H7 D (.lst (acc ++ [y]))) else Nx1 H6) else Nx H3) ?_ ?_
  · rintro i x H1 H2 hi ⟨sm, eD⟩ ⟨rfl, hxi⟩
    obtain ⟨m, em, rfl⟩ := int_at hxi
    have hm := List.mem_of_getElem? em
    refine ⟨hw _, ?_⟩
    unfold tYes
    dsimp only
    rw [if_pos rfl]
    refine h1 m hm _ _ sm fun b H3 s3 hb eb => ⟨b, rfl, ⟨_, .of eb⟩, ?_⟩
    have eD3 := s3 _ _ eD
    have nbD : b ≠ D := fun z => by
      rcases hb with h | h
      · rw [z, eD] at h
        cases h
      · exact h (z ▸ nD)
    refine loop_it (walk_list (K := K) (a := b) (xs := (val m).map V.int)) (fun k H' => Same H H' ∧ H' b = some (.lst ((val m).map V.int)) ∧ H' D = some (.lst ((ns.take i).flatMap (fun m => (val m).map (y m)) ++ ((val m).take k).map (y m)))) ⟨sm.trans s3, eb, by rw [List.take_zero, List.map_nil, List.append_nil]; exact eD3⟩
      (fun k H' _ hp => .of hp.2.1)
      (Step := fun Nx1 x H' => gName ie x (wipe ((wipe σ vs).set ia (some (.int m))) vs1) H' fun σ3 H5 => wipe σ3 vs1 = wipe ((wipe σ vs).set ia (some (.int m))) vs1 ∧ tYes σ3 H5 fun b H6 =>
        if b = true then te σ3 H6 fun y H7 => ∃ acc, H7 D = some (.lst acc) ∧ acc.length < sizeLine ∧ Nx1 (upd H7 D (.lst (acc ++ [y]))) else Nx1 H6) ?_ ?_
    · rintro k x H4 H5 hk ⟨sm4, eb4, eD4⟩ ⟨rfl, hxk⟩
      obtain ⟨q, eq, rfl⟩ := int_at hxk
      refine ⟨hw1 _ _, ?_⟩
      unfold tYes
      dsimp only
      rw [if_pos rfl]
      refine h2 m hm q (List.mem_of_getElem? eq) _ _ sm4 fun H6 s6 => ?_
      have s46 := sm4.trans s6
      refine ⟨_, s6 _ _ eD4, ?_, fun c o e => ?_, ?_, ?_⟩
      · have h1 := flat_len (g := fun m => (val m).map (y m)) (c := 100) (l := ns.take i) fun m hm => by rw [List.length_map]; exact hc m (List.mem_of_mem_take hm)
        have h3 := hc m hm
        have h4 : (ns.take i).length ≤ 100 := by rw [List.length_take]; omega
        have sz : 100000 < sizeLine := by decide
        rw [List.length_append, List.length_map, List.length_take]
        have h5 : 100 * (ns.take i).length ≤ 100 * 100 := Nat.mul_le_mul_left _ h4
        omega
      · rw [upd_ne (ne_of_none e nD)]
        exact s46 _ _ e
      · rw [upd_ne nbD]
        exact s6 _ _ eb4
      · rw [upd_same, ← take_snoc eq, List.map_append, ← List.append_assoc]
        rfl
    · rintro H' ⟨sm4, _, eD4⟩
      rw [List.length_map, List.take_length] at eD4
      refine ⟨sm4, ?_⟩
      rw [← take_snoc em, List.flatMap_append, List.flatMap_cons, List.flatMap_nil, List.append_nil]
      exact eD4
  · rintro H' ⟨sm, eD⟩
    rw [List.length_map, List.take_length] at eD
    exact hd D H' nD sm eD
/-! the first rule that holds -/
def ruleL (Bs : List (Int × Int)) (M : List Int) (p : Int) : List (Str × Bool) := [("split", splC Bs M p), ("below", belC Bs M p), ("mixings", mixC Bs M p), ("child", chiC Bs M p), ("mothers", motC Bs M p)]
def ruleV (Bs : List (Int × Int)) (M : List Int) (p : Int) : V := match (ruleL Bs M p).find? (·.2) with
  | some z => .str z.1
  | none => .non
theorem find_first : ∀ {L : List (Str × Bool)} {i : Nat} {k : Str}, L[i]? = some (k, true) → (∀ j, j < i → ∀ z, L[j]? = some z → z.2 = false) → L.find? (·.2) = some (k, true)
  | [], _, _, h, _ => by simp at h
  | _ :: _, 0, _, h, _ => by cases h; rfl
  | z :: L, i + 1, k, h, hp => by
    rw [List.find?_cons_of_neg (by rw [hp 0 (by omega) z rfl]; decide)]
    exact find_first h fun j hj z hz => hp (j + 1) (by omega) z hz
theorem find_nobody {L : List (Str × Bool)} (h : ∀ (j : Nat) (z : Str × Bool), L[j]? = some z → z.2 = false) : L.find? (·.2) = none := List.find?_eq_none.mpr fun z hz => by
  obtain ⟨j, hj⟩ := List.mem_iff_getElem?.mp hz
  rw [h j z hj]
  decide
def heldB (Bs : List (Int × Int)) (M : List Int) (p : Int) : Bool := (ruleL Bs M p).any (·.2)
theorem ruleV_held {Bs : List (Int × Int)} {M : List Int} {p : Int} : heldB Bs M p = true → ∃ z : Str, ruleV Bs M p = .str z := fun h => by
  obtain ⟨z, hz, h⟩ := List.any_eq_true.mp h
  unfold ruleV
  cases hf : (ruleL Bs M p).find? (·.2) with
  | some z => exact ⟨_, rfl⟩
  | none => exact absurd h (List.find?_eq_none.mp hf z hz)
theorem ruleV_free {Bs : List (Int × Int)} {M : List Int} {p : Int} (h : heldB Bs M p = false) : ruleV Bs M p = .non := by
  have : (ruleL Bs M p).find? (·.2) = none := List.find?_eq_none.mpr fun z hz => by
    have := List.any_eq_false.mp h z hz
    exact this
  unfold ruleV
  rw [this]
/-- the members peeled: those that aren't held go, round by round -/
def peel (Bs : List (Int × Int)) : Nat → List Int → List Int
  | 0, M => M
  | n + 1, M => peel Bs n (M.filter fun p => heldB Bs M p)
theorem peel_fix {Bs : List (Int × Int)} {M : List Int} (h : (M.filter fun p => heldB Bs M p) = M) : ∀ n, peel Bs n M = M
  | 0 => rfl
  | n + 1 => by
    show peel Bs n (M.filter fun p => heldB Bs M p) = M
    rw [h]
    exact peel_fix h n
theorem peel_ge {Bs : List (Int × Int)} : ∀ (n : Nat) {M : List Int}, M.length ≤ n → peel Bs n M = peel Bs M.length M := fun n => by
  induction n using Nat.strongRecOn with
  | ind n ih =>
    intro M h
    by_cases c : (M.filter fun p => heldB Bs M p) = M
    · rw [peel_fix c, peel_fix c]
    · have lt : (M.filter fun p => heldB Bs M p).length < M.length := by
        rcases Nat.lt_or_eq_of_le (List.length_filter_le (fun p => heldB Bs M p) M) with h | h
        · exact h
        · exact absurd (List.filter_eq_self.mpr (List.length_filter_eq_length_iff.mp h)) c
      obtain ⟨l, hl⟩ : ∃ l, M.length = l + 1 := ⟨M.length - 1, by omega⟩
      obtain ⟨k, rfl⟩ : ∃ k, n = k + 1 := ⟨n - 1, by omega⟩
      rw [hl]
      show peel Bs k (M.filter fun p => heldB Bs M p) = peel Bs l (M.filter fun p => heldB Bs M p)
      rw [ih k (by omega) (by omega), ih l (by omega) (by omega)]
theorem peel_step {Bs : List (Int × Int)} {M : List Int} (c : (M.filter fun p => heldB Bs M p) ≠ M) : (M.filter fun p => heldB Bs M p).length < M.length ∧ peel Bs (M.filter fun p => heldB Bs M p).length (M.filter fun p => heldB Bs M p) = peel Bs M.length M := by
  have lt : (M.filter fun p => heldB Bs M p).length < M.length := by
    rcases Nat.lt_or_eq_of_le (List.length_filter_le (fun p => heldB Bs M p) M) with h | h
    · exact h
    · exact absurd (List.filter_eq_self.mpr (List.length_filter_eq_length_iff.mp h)) c
  refine ⟨lt, ?_⟩
  obtain ⟨l, hl⟩ : ∃ l, M.length = l + 1 := ⟨M.length - 1, by omega⟩
  rw [hl]
  exact (peel_ge l (by omega)).symm
end Lg

/-! The woven nets of the knots' laws, and what is peeled. -/
namespace Lg
open PySem PySem.Spec PyProof.Rows L2 L2N
/-- a net woven from its leaves up: c tells how many lines still stand open at a place, U the places that are used -/
structure Wov (c : Int → Nat) (As : List (Int × Int)) (Ls : List (Int × Str)) (U : List Int) (k : Nat) : Prop where
  nd : As.Nodup
  und : U.Nodup
  lnd : (Ls.map (·.1)).Nodup
  ends : ∀ a ∈ As, a.1 ∈ U ∧ a.2 ∈ U
  leaf : ∀ l ∈ Ls, l.1 ∈ U
  c0 : ∀ p, p ∉ U → c p = 0
  rank : ∃ rk : Int → Nat, ∀ a ∈ As, rk a.2 < rk a.1
  deg : ∀ p ∈ U, (p ∈ Ls.map (·.1) ∧ dnN As p = 0 ∧ upN As p + c p = 1) ∨ (p ∉ Ls.map (·.1) ∧ ((dnN As p = 2 ∧ upN As p + c p = 1) ∨ (dnN As p = 1 ∧ upN As p + c p = 2)))
  mix : U.countP (fun p => dnN As p == 1) = k
theorem upN_perm {As Bs : List (Int × Int)} (h : Bs.Perm As) (p : Int) : upN Bs p = upN As p := h.countP_eq _
theorem dnN_perm {As Bs : List (Int × Int)} (h : Bs.Perm As) (p : Int) : dnN Bs p = dnN As p := h.countP_eq _
theorem Wov.perm {c : Int → Nat} {As Bs : List (Int × Int)} {Ls : List (Int × Str)} {U V : List Int} {k : Nat} (g : Wov c As Ls U k) (h : Bs.Perm As) (hU : V.Perm U) : Wov c Bs Ls V k where
  nd := h.nodup_iff.mpr g.nd
  und := hU.nodup_iff.mpr g.und
  lnd := g.lnd
  ends a ha := by have := g.ends a (h.mem_iff.mp ha); exact ⟨hU.mem_iff.mpr this.1, hU.mem_iff.mpr this.2⟩
  leaf l hl := hU.mem_iff.mpr (g.leaf l hl)
  c0 p hp := g.c0 p fun z => hp (hU.mem_iff.mpr z)
  rank := let ⟨rk, hr⟩ := g.rank; ⟨rk, fun a ha => hr a (h.mem_iff.mp ha)⟩
  deg p hp := by rw [upN_perm h, dnN_perm h]; exact g.deg p (hU.mem_iff.mp hp)
  mix := by
    rw [hU.countP_eq]
    have : (fun p => dnN Bs p == 1) = fun p => dnN As p == 1 := funext fun p => by rw [dnN_perm h]
    rw [this]
    exact g.mix
theorem dn_map {n p : Int} (es : List Int) : dnN (es.map fun e => (n, e)) p = if n = p then es.length else 0 := by
  unfold dnN
  rw [List.countP_map]
  by_cases h : n = p
  · rw [if_pos h, List.countP_eq_length]
    intro e _
    show (n == p) = true
    rw [h]
    exact beq_self_eq_true p
  · rw [if_neg h, List.countP_eq_zero]
    intro e _ z
    exact h (by simpa using z)
theorem up_map {n p : Int} (es : List Int) : upN (es.map fun e => (n, e)) p = es.count p := by
  unfold upN
  rw [List.countP_map]
  rfl
theorem Wov.add {c c' : Int → Nat} {As : List (Int × Int)} {Ls : List (Int × Str)} {U : List Int} {k : Nat} {n : Int} {es : List Int} (g : Wov c As Ls U k) (hn : n ∉ U) (he : ∀ e ∈ es, 0 < c e) (hnd : es.Nodup) (hl : es.length = 1 ∨ es.length = 2) (hc : ∀ p, p ≠ n → c' p + es.count p = c p) (hcn : c' n + es.length = 3) :
    Wov c' (As ++ es.map fun e => (n, e)) Ls (n :: U) (k + (2 - es.length)) := by
  have eU : ∀ e ∈ es, e ∈ U := fun e h => Classical.byContradiction fun z => by
    have := g.c0 e z
    have := he e h
    omega
  have en : ∀ e ∈ es, e ≠ n := fun e h z => hn (z ▸ eU e h)
  have dn : ∀ p, dnN (As ++ es.map fun e => (n, e)) p = dnN As p + if n = p then es.length else 0 := fun p => by
    rw [← dn_map es]
    exact List.countP_append
  have up : ∀ p, upN (As ++ es.map fun e => (n, e)) p = upN As p + es.count p := fun p => by
    rw [← up_map (n := n) es]
    exact List.countP_append
  have dn0 : dnN As n = 0 := List.countP_eq_zero.mpr fun a ha z => hn (by
    have : a.1 = n := by simpa using z
    exact this ▸ (g.ends a ha).1)
  have up0 : upN As n = 0 := List.countP_eq_zero.mpr fun a ha z => hn (by
    have : a.2 = n := by simpa using z
    exact this ▸ (g.ends a ha).2)
  have cn0 : es.count n = 0 := List.count_eq_zero.mpr fun h => en n h rfl
  refine ⟨?_, List.nodup_cons.mpr ⟨hn, g.und⟩, g.lnd, fun a ha => ?_, fun l hl => List.mem_cons_of_mem _ (g.leaf l hl), fun p hp => ?_, ?_, fun p hp => ?_, ?_⟩
  · refine List.nodup_append.mpr ⟨g.nd, ?_, fun a ha b hb z => ?_⟩
    · refine List.pairwise_map.mpr (hnd.imp fun h e => h ?_)
      injection e
    · obtain ⟨e, _, rfl⟩ := List.mem_map.mp hb
      rw [z] at ha
      exact hn (g.ends _ ha).1
  · rcases List.mem_append.mp ha with h | h
    · exact ⟨List.mem_cons_of_mem _ (g.ends a h).1, List.mem_cons_of_mem _ (g.ends a h).2⟩
    · obtain ⟨e, h2, rfl⟩ := List.mem_map.mp h
      exact ⟨by simp, List.mem_cons_of_mem _ (eU e h2)⟩
  · have h1 : p ≠ n := fun z => hp (z ▸ by simp)
    have h2 := g.c0 p fun z => hp (List.mem_cons_of_mem _ z)
    have := hc p h1
    omega
  · obtain ⟨rk, hr⟩ := g.rank
    obtain ⟨B, hB⟩ : ∃ B : Nat, ∀ p ∈ U, rk p < B := by
      generalize U = L
      induction L with
      | nil => exact ⟨0, by simp⟩
      | cons x l ih =>
        obtain ⟨B, hB⟩ := ih
        refine ⟨max B (rk x + 1), fun p hp => ?_⟩
        rcases List.mem_cons.mp hp with rfl | hp
        · omega
        · have := hB p hp
          omega
    refine ⟨fun p => if p = n then B else rk p, fun a ha => ?_⟩
    dsimp only
    rcases List.mem_append.mp ha with h | h
    · rw [if_neg (fun z : a.2 = n => hn (z ▸ (g.ends a h).2)), if_neg (fun z : a.1 = n => hn (z ▸ (g.ends a h).1))]
      exact hr a h
    · obtain ⟨e, h2, rfl⟩ := List.mem_map.mp h
      rw [if_neg (en e h2), if_pos rfl]
      exact hB e (eU e h2)
  · rw [dn, up]
    rcases List.mem_cons.mp hp with rfl | hp
    · rw [dn0, up0, cn0, if_pos rfl]
      refine .inr ⟨fun h => ?_, ?_⟩
      · obtain ⟨l, hl, e⟩ := List.mem_map.mp h
        exact hn (e ▸ g.leaf l hl)
      · rcases hl with h | h
        · exact .inr ⟨by omega, by omega⟩
        · exact .inl ⟨by omega, by omega⟩
    · have h1 : p ≠ n := fun z => hn (z ▸ hp)
      rw [if_neg h1.symm]
      have h2 := hc p h1
      rcases g.deg p hp with ⟨h, d⟩ | ⟨h, d⟩
      · exact .inl ⟨h, by omega⟩
      · exact .inr ⟨h, by omega⟩
  · rw [List.countP_cons]
    have h1 : U.countP (fun p => dnN (As ++ es.map fun e => (n, e)) p == 1) = U.countP fun p => dnN As p == 1 := List.countP_congr fun p hp => by
      rw [dn, if_neg (fun z : n = p => hn (z ▸ hp)), Nat.add_zero]
    rw [h1, g.mix, dn, dn0, if_pos rfl]
    rcases hl with h | h <;> rw [h] <;> rfl
theorem Wov.good {c : Int → Nat} {As : List (Int × Int)} {Ls : List (Int × Str)} {U P : List Int} {k : Nat} {x : Int} (g : Wov c As Ls U k) (c1 : ∀ p, c p = if p = x then 1 else 0) (hx : upN As x = 0) (hk : k ≤ 8) (ha : As.length ≤ 46) (hU : U.length < 64) (hr : ∀ p ∈ U, 0 ≤ p ∧ p ≤ 9999)
    (hl : 1 ≤ Ls.length ∧ Ls.length ≤ 12) (hln : (Ls.map (·.2)).Nodup) (hP : Asc P U) (hnm : ∀ l ∈ Ls, nameL l.2.cps.toList = true ∧ l.2.length ≤ 8) : Good As Ls P := by
  have xU : x ∈ U := Classical.byContradiction fun z => by
    have h1 := g.c0 x z
    have h2 := c1 x
    rw [if_pos rfl] at h2
    omega
  have deg : ∀ p ∈ U, (p ∈ Ls.map (·.1) ∧ dnN As p = 0 ∧ upN As p ≤ 1) ∨ (p ∉ Ls.map (·.1) ∧ ((dnN As p = 1 ∧ upN As p = 2) ∨ (dnN As p = 2 ∧ upN As p ≤ 1))) := fun p hp => by
    have h1 := c1 p
    rcases g.deg p hp with ⟨h, d⟩ | ⟨h, d⟩
    · exact .inl ⟨h, by omega, by omega⟩
    · refine .inr ⟨h, ?_⟩
      rcases d with d | d
      · exact .inr ⟨d.1, by omega⟩
      · refine .inl ⟨d.1, ?_⟩
        by_cases e : p = x
        · rw [if_pos e] at h1
          rw [e] at d h1
          omega
        · rw [if_neg e] at h1
          omega
  have pm : P.Perm U := (List.perm_ext_iff_of_nodup (hP.1.imp fun h e => by omega) g.und).mpr hP.2
  refine ⟨⟨hP.1, fun p => ⟨fun h => ?_, fun h => ?_⟩⟩, by rw [pm.length_eq]; exact hU, fun p hp => hr p (pm.mem_iff.mp hp), ha, g.nd, hl, g.lnd, hln, hnm, ?_, fun p hp => deg p (pm.mem_iff.mp hp), ⟨x, pm.mem_iff.mpr xU, fun p hp => ?_⟩, ?_⟩
  · rcases deg p (pm.mem_iff.mp h) with ⟨h, _⟩ | ⟨_, d⟩
    · exact List.mem_append_right _ h
    · have h3 : 0 < dnN As p := by omega
      obtain ⟨a, ha, e⟩ := List.countP_pos_iff.mp h3
      refine List.mem_append_left _ (List.mem_flatMap.mpr ⟨a, ha, ?_⟩)
      have e : a.1 = p := by simpa using e
      rw [← e]
      simp
  · refine pm.mem_iff.mpr ?_
    rcases List.mem_append.mp h with h | h
    · obtain ⟨a, ha, hk⟩ := List.mem_flatMap.mp h
      have := g.ends a ha
      simp only [List.mem_cons, List.not_mem_nil, or_false] at hk
      rcases hk with rfl | rfl
      · exact this.1
      · exact this.2
    · obtain ⟨l, hl, rfl⟩ := List.mem_map.mp h
      exact g.leaf l hl
  · obtain ⟨rk, hr⟩ := g.rank
    obtain ⟨B, hB⟩ : ∃ B : Nat, ∀ a ∈ As, rk a.1 ≤ B := by
      generalize As = L
      induction L with
      | nil => exact ⟨0, by simp⟩
      | cons x l ih =>
        obtain ⟨B, hB⟩ := ih
        refine ⟨max B (rk x.1), fun p hp => ?_⟩
        rcases List.mem_cons.mp hp with rfl | hp
        · omega
        · have := hB p hp
          omega
    refine ⟨fun p => B - rk p, fun a ha => ?_⟩
    have := hr a ha
    have := hB a ha
    show B - rk a.1 < B - rk a.2
    omega
  · constructor
    · intro h
      refine Classical.byContradiction fun e => ?_
      have h1 := c1 p
      rw [if_neg e] at h1
      rcases g.deg p (pm.mem_iff.mp hp) with ⟨_, d⟩ | ⟨_, d⟩ <;> omega
    · rintro rfl
      exact hx
  · rw [← List.countP_eq_length_filter, pm.countP_eq]
    have : U.countP (fun p => upN As p == 2) = U.countP fun p => dnN As p == 1 := List.countP_congr fun p hp => by
      rw [beq_iff_eq, beq_iff_eq]
      rcases deg p hp with ⟨_, d⟩ | ⟨_, d⟩ <;> omega
    rw [this, g.mix]
    exact hk
/-! the knots: what holds itself, and that no more is peeled off -/
theorem heldB_iff {Bs : List (Int × Int)} {M : List Int} {p : Int} : heldB Bs M p = true ↔ splC Bs M p = true ∨ belC Bs M p = true ∨ mixC Bs M p = true ∨ chiC Bs M p = true ∨ motC Bs M p = true := by
  show ((((((splC Bs M p || (belC Bs M p || (mixC Bs M p || (chiC Bs M p || (motC Bs M p || false)))))))))) = true ↔ _
  simp only [Bool.or_eq_true, Bool.or_false]
theorem heldB_mono {Bs : List (Int × Int)} {M M' : List Int} {p : Int} (h : ∀ x ∈ M, x ∈ M') (hp : heldB Bs M p = true) : heldB Bs M' p = true := by
  have dm : ∀ {x : Int}, decide (x ∈ M) = true → decide (x ∈ M') = true := fun e => decide_eq_true (h _ (of_decide_eq_true e))
  rw [heldB_iff] at hp ⊢
  rcases hp with e | e | e | e | e
  · refine .inl ?_
    unfold splC at e ⊢
    obtain ⟨e1, e2⟩ := Bool.and_eq_true_iff.mp e
    obtain ⟨x, hx, e3⟩ := List.any_eq_true.mp e2
    obtain ⟨e4, e5⟩ := Bool.and_eq_true_iff.mp e3
    exact Bool.and_eq_true_iff.mpr ⟨e1, List.any_eq_true.mpr ⟨x, hx, Bool.and_eq_true_iff.mpr ⟨e4, dm e5⟩⟩⟩
  · refine .inr (.inl ?_)
    unfold belC at e ⊢
    obtain ⟨e1, e2⟩ := Bool.and_eq_true_iff.mp e
    obtain ⟨x, hx, e3⟩ := List.any_eq_true.mp e2
    obtain ⟨y, hy, e4⟩ := List.any_eq_true.mp e3
    exact Bool.and_eq_true_iff.mpr ⟨e1, List.any_eq_true.mpr ⟨x, hx, List.any_eq_true.mpr ⟨y, hy, dm e4⟩⟩⟩
  · refine .inr (.inr (.inl ?_))
    unfold mixC at e ⊢
    obtain ⟨e1, e2⟩ := Bool.and_eq_true_iff.mp e
    refine Bool.and_eq_true_iff.mpr ⟨e1, List.all_eq_true.mpr fun x hx => ?_⟩
    obtain ⟨e4, e5⟩ := Bool.and_eq_true_iff.mp (List.all_eq_true.mp e2 x hx)
    exact Bool.and_eq_true_iff.mpr ⟨e4, dm e5⟩
  · refine .inr (.inr (.inr (.inl ?_)))
    unfold chiC at e ⊢
    obtain ⟨e1, e2⟩ := Bool.and_eq_true_iff.mp e
    exact Bool.and_eq_true_iff.mpr ⟨e1, List.all_eq_true.mpr fun x hx => dm (List.all_eq_true.mp e2 x hx)⟩
  · refine .inr (.inr (.inr (.inr ?_)))
    unfold motC at e ⊢
    obtain ⟨e1, e2⟩ := Bool.and_eq_true_iff.mp e
    refine Bool.and_eq_true_iff.mpr ⟨e1, List.all_eq_true.mpr fun x hx => List.all_eq_true.mpr fun y hy => ?_⟩
    rcases Bool.or_eq_true_iff.mp (List.all_eq_true.mp (List.all_eq_true.mp e2 x hx) y hy) with e3 | e3
    · exact Bool.or_eq_true_iff.mpr (.inl e3)
    · exact Bool.or_eq_true_iff.mpr (.inr (dm e3))
/-- a list that holds itself -/
def Kn (Bs : List (Int × Int)) (S : List Int) : Prop := ∀ p ∈ S, heldB Bs S p = true
abbrev knot (Bs : List (Int × Int)) (M : List Int) : List Int := peel Bs M.length M
theorem peel_sub {Bs : List (Int × Int)} : ∀ {n : Nat} {M : List Int}, (peel Bs n M).Sublist M
  | 0, _ => .refl _
  | n + 1, M => (peel_sub (n := n)).trans (List.filter_sublist (p := fun p => heldB Bs M p))
theorem peel_max {Bs : List (Int × Int)} {S : List Int} (hS : Kn Bs S) : ∀ {n : Nat} {M : List Int}, (∀ p ∈ S, p ∈ M) → ∀ p ∈ S, p ∈ peel Bs n M
  | 0, _, h => h
  | n + 1, M, h => peel_max hS (n := n) fun p hp => List.mem_filter.mpr ⟨h p hp, heldB_mono h (hS p hp)⟩
theorem peel_kn {Bs : List (Int × Int)} : ∀ (k : Nat) {M : List Int}, M.length = k → Kn Bs (knot Bs M) := fun k => by
  induction k using Nat.strongRecOn with
  | ind k ih =>
    intro M hk
    by_cases c : (M.filter fun p => heldB Bs M p) = M
    · unfold knot
      rw [peel_fix c]
      intro p hp
      have h2 : p ∈ M.filter fun p => heldB Bs M p := by rw [c]; exact hp
      exact (List.mem_filter.mp h2).2
    · obtain ⟨lt, e⟩ := peel_step c
      unfold knot
      rw [← e]
      exact ih _ (by omega) rfl
theorem knot_kn {Bs : List (Int × Int)} {M : List Int} : Kn Bs (knot Bs M) := peel_kn _ rfl
theorem knot_sub {Bs : List (Int × Int)} {M : List Int} : (knot Bs M).Sublist M := peel_sub
theorem knot_max {Bs : List (Int × Int)} {M S : List Int} (hS : Kn Bs S) (h : ∀ p ∈ S, p ∈ M) : ∀ p ∈ S, p ∈ knot Bs M := peel_max hS h
theorem asc_eq : ∀ {L M : List Int}, L.Pairwise (· < ·) → M.Pairwise (· < ·) → (∀ p, p ∈ L ↔ p ∈ M) → L = M
  | [], [], _, _, _ => rfl
  | [], y :: M, _, _, h => absurd ((h y).mpr (by simp)) (by simp)
  | x :: L, [], _, _, h => absurd ((h x).mp (by simp)) (by simp)
  | x :: L, y :: M, h1, h2, h => by
    obtain ⟨a1, b1⟩ := List.pairwise_cons.mp h1
    obtain ⟨a2, b2⟩ := List.pairwise_cons.mp h2
    have e : x = y := by
      rcases List.mem_cons.mp ((h x).mp (by simp)) with e | e
      · exact e
      · rcases List.mem_cons.mp ((h y).mpr (by simp)) with e2 | e2
        · exact e2.symm
        · have := a2 x e
          have := a1 y e2
          omega
    subst e
    congr 1
    refine asc_eq b1 b2 fun p => ⟨fun hp => ?_, fun hp => ?_⟩
    · rcases List.mem_cons.mp ((h p).mp (List.mem_cons_of_mem _ hp)) with e | e
      · have := a1 p hp
        omega
      · exact e
    · rcases List.mem_cons.mp ((h p).mpr (List.mem_cons_of_mem _ hp)) with e | e
      · have := a2 p hp
        omega
      · exact e
theorem knot_uniq {Bs : List (Int × Int)} {M L : List Int} (hM : M.Pairwise (· < ·)) (hL : L.Sublist M) (k : Kn Bs L) (mx : ∀ S : List Int, Kn Bs S → (∀ p ∈ S, p ∈ M) → ∀ p ∈ S, p ∈ L) : L = knot Bs M :=
  asc_eq (hM.sublist hL) (hM.sublist knot_sub) fun p => ⟨fun h => knot_max k (fun q hq => hL.subset hq) p h, fun h => mx _ knot_kn (fun q hq => knot_sub.subset hq) p h⟩
/-- a crown: two splits above the same two mixings -/
def Crn (As : List (Int × Int)) (cr : List Int) : Prop := cr.Pairwise (· < ·) ∧ ∃ a b c d : Int, cr.Perm [a, b, c, d] ∧ [a, b, c, d].Nodup ∧ (a, c) ∈ As ∧ (a, d) ∈ As ∧ (b, c) ∈ As ∧ (b, d) ∈ As
theorem Crn.more {As Bs : List (Int × Int)} {cr : List Int} (h : Crn As cr) (s : ∀ a ∈ As, a ∈ Bs) : Crn Bs cr := by
  obtain ⟨h1, a, b, c, d, h2, h3, h4, h5, h6, h7⟩ := h
  exact ⟨h1, a, b, c, d, h2, h3, s _ h4, s _ h5, s _ h6, s _ h7⟩
theorem two_of {x y : Int} {L : List Int} (h : L.length ≤ 2) (hx : x ∈ L) (hy : y ∈ L) (n : x ≠ y) : L.length = 2 ∧ ∀ z ∈ L, z = x ∨ z = y := by
  match L, h with
  | [a, b], _ =>
    refine ⟨rfl, fun z hz => ?_⟩
    simp only [List.mem_cons, List.not_mem_nil, or_false] at hx hy hz
    omega
  | [a], _ =>
    simp only [List.mem_cons, List.not_mem_nil, or_false] at hx hy
    omega
theorem Crn.kn {As Bs : List (Int × Int)} {Ls : List (Int × Str)} {P cr : List Int} (h : Crn As cr) (g : Good As Ls P) (hB : SrtA As Bs) : Kn Bs cr ∧ ∀ p ∈ cr, p ∈ P.filter fun p => !(downsOf Bs p).isEmpty := by
  obtain ⟨_, a, b, c, d, hp, nd, ac, ad, bc, bd⟩ := h
  have pB := hB.1
  have nab : a ≠ b := fun z => by simp [z] at nd
  have ncd : c ≠ d := fun z => by simp [z] at nd
  have m : ∀ {x y : Int}, (x, y) ∈ As → (x, y) ∈ Bs := fun h => pB.mem_iff.mpr h
  have inP : ∀ {x y : Int}, (x, y) ∈ As → x ∈ P ∧ y ∈ P := fun {x y} h => ⟨(g.asc.2 x).mpr (List.mem_append_left _ (List.mem_flatMap.mpr ⟨_, h, by simp⟩)), (g.asc.2 y).mpr (List.mem_append_left _ (List.mem_flatMap.mpr ⟨_, h, by simp⟩))⟩
  have dn2 : ∀ {x : Int}, x ∈ P → (downsOf Bs x).length ≤ 2 := fun {x} hx => by
    rw [downs_len g hB]
    rcases g.deg x hx with ⟨_, d, _⟩ | ⟨_, d⟩ <;> omega
  have up2 : ∀ {x : Int}, x ∈ P → (upsOf Bs x).length ≤ 2 := fun {x} hx => by
    rw [ups_len g hB]
    rcases g.deg x hx with ⟨_, _, d⟩ | ⟨_, d⟩ <;> omega
  have mixd : ∀ {x : Int}, x ∈ P → (upsOf Bs x).length = 2 → kds Bs x = 1 := fun {x} hx e => by
    show (downsOf Bs x).length = 1
    rw [ups_len g hB] at e
    rw [downs_len g hB]
    rcases g.deg x hx with ⟨_, _, d⟩ | ⟨_, d⟩ <;> omega
  obtain ⟨la, ha⟩ := two_of (dn2 (inP ac).1) (mem_downs.mpr (m ac)) (mem_downs.mpr (m ad)) ncd
  obtain ⟨lb, hb⟩ := two_of (dn2 (inP bc).1) (mem_downs.mpr (m bc)) (mem_downs.mpr (m bd)) ncd
  obtain ⟨lc, hc⟩ := two_of (up2 (inP ac).2) (mem_ups.mpr (m ac)) (mem_ups.mpr (m bc)) nab
  obtain ⟨ld, hd⟩ := two_of (up2 (inP ad).2) (mem_ups.mpr (m ad)) (mem_ups.mpr (m bd)) nab
  have kc := mixd (inP ac).2 lc
  have kd := mixd (inP ad).2 ld
  have mem : ∀ {x : Int}, x = a ∨ x = b ∨ x = c ∨ x = d → x ∈ cr := fun h => hp.mem_iff.mpr (by simpa using h)
  have top : ∀ {x : Int}, (downsOf Bs x).length = 2 → (∀ z ∈ downsOf Bs x, z = c ∨ z = d) → heldB Bs cr x = true := fun {x} l h => by
    rw [heldB_iff]
    refine .inr (.inr (.inl ?_))
    unfold mixC
    refine Bool.and_eq_true_iff.mpr ⟨decide_eq_true l, List.all_eq_true.mpr fun z hz => ?_⟩
    rcases h z hz with rfl | rfl
    · exact Bool.and_eq_true_iff.mpr ⟨decide_eq_true kc, decide_eq_true (mem (by simp))⟩
    · exact Bool.and_eq_true_iff.mpr ⟨decide_eq_true kd, decide_eq_true (mem (by simp))⟩
  have low : ∀ {x : Int}, kds Bs x = 1 → (∀ z ∈ upsOf Bs x, z = a ∨ z = b) → heldB Bs cr x = true := fun {x} l h => by
    rw [heldB_iff]
    refine .inr (.inr (.inr (.inr ?_)))
    unfold motC
    refine Bool.and_eq_true_iff.mpr ⟨decide_eq_true l, List.all_eq_true.mpr fun z hz => List.all_eq_true.mpr fun y hy => Bool.or_eq_true_iff.mpr (.inr (decide_eq_true (mem ?_)))⟩
    rcases h z hz with rfl | rfl
    · rcases ha y hy with e | e <;> simp [e]
    · rcases hb y hy with e | e <;> simp [e]
  have cases4 : ∀ {p : Int}, p ∈ cr → p = a ∨ p = b ∨ p = c ∨ p = d := fun h => by simpa using hp.mem_iff.mp h
  refine ⟨fun p h => ?_, fun p h => List.mem_filter.mpr ?_⟩
  · rcases cases4 h with rfl | rfl | rfl | rfl
    · exact top la ha
    · exact top lb hb
    · exact low kc hc
    · exact low kd hd
  · have em : ∀ {x : Int}, 0 < (downsOf Bs x).length → (!(downsOf Bs x).isEmpty) = true := fun {x} h => by
      cases e : downsOf Bs x with
      | nil => rw [e] at h; simp at h
      | cons _ _ => rfl
    have kc' : (downsOf Bs c).length = 1 := kc
    have kd' : (downsOf Bs d).length = 1 := kd
    rcases cases4 h with rfl | rfl | rfl | rfl
    · exact ⟨(inP ac).1, em (by omega)⟩
    · exact ⟨(inP bc).1, em (by omega)⟩
    · exact ⟨(inP ac).2, em (by omega)⟩
    · exact ⟨(inP ad).2, em (by omega)⟩
/-- the crowns as data -/
abbrev crnD (crs : List (List Int)) : PyData := .list (crs.map fun c => .list (c.map PyData.int))
/-! members peeled one by one -/
structure Peels (Bs : List (Int × Int)) (M L : List Int) : Prop where
  sub : L.Sublist M
  max : ∀ S : List Int, Kn Bs S → (∀ p ∈ S, p ∈ M) → ∀ p ∈ S, p ∈ L
theorem Peels.refl {Bs : List (Int × Int)} {M : List Int} : Peels Bs M M := ⟨.refl _, fun _ _ h => h⟩
theorem Peels.erase {Bs : List (Int × Int)} {M L : List Int} {x : Int} (h : Peels Bs M L) (hx : heldB Bs L x = false) : Peels Bs M (L.erase x) := by
  refine ⟨List.erase_sublist.trans h.sub, fun S k hS p hp => ?_⟩
  have h1 := h.max S k hS
  have h2 := heldB_mono h1 (k p hp)
  exact (List.mem_erase_of_ne fun z => by rw [z, hx] at h2; cases h2).mpr (h1 p hp)
theorem Peels.done {Bs : List (Int × Int)} {M L : List Int} (h : Peels Bs M L) (hM : M.Pairwise (· < ·)) (k : Kn Bs L) : L = knot Bs M := knot_uniq hM h.sub k h.max
/-! the core: places are taken out one by one, as long as something is left -/
def coreS (Bs : List (Int × Int)) (C : List Int) (p : Int) : List Int := if p ∈ C then (if knot Bs (C.filter fun x => decide (x ≠ p)) = [] then C else knot Bs (C.filter fun x => decide (x ≠ p))) else C
theorem erase_at {p : Int} : ∀ {L : List Int}, p ∈ L → ∃ j : Nat, L[j]? = some p ∧ (∀ m : Nat, m < j → L[m]? ≠ some p) ∧ L.eraseIdx j = L.erase p
  | x :: L, h => by
    by_cases e : x = p
    · exact ⟨0, by rw [e]; rfl, fun m hm => by omega, by rw [e, List.erase_cons_head]; rfl⟩
    · obtain ⟨j, h1, h2, h3⟩ := erase_at (L := L) ((List.mem_cons.mp h).resolve_left fun z => e z.symm)
      refine ⟨j + 1, h1, fun m hm => ?_, ?_⟩
      · match m with
        | 0 => exact fun z => e (Option.some.inj z)
        | m + 1 => exact h2 m (by omega)
      · rw [List.erase_cons_tail (by simpa using e), ← h3]
        rfl
/-- what is known of a heap is kept, the heap forgotten -/
theorem heap_h {p : Hp → Prop} {H' : Hp} (P : Hp → Prop) (hp : P H') (h : ∀ H3, P H3 → p H3) : p H' := h _ hp
end Lg

/-! The weaving of the knots' nets. -/
namespace Lg
open PySem PySem.Spec PyProof.Rows L2 L2N
theorem Wov.congr {c c' : Int → Nat} {As : List (Int × Int)} {Ls : List (Int × Str)} {U : List Int} {k : Nat} (g : Wov c As Ls U k) (h : ∀ p, c' p = c p) : Wov c' As Ls U k := by
  rw [show c' = c from funext h]
  exact g
abbrev cnt (L : List Int) : Int → Nat := fun p => L.count p
theorem Wov.addL {L M : List Int} {As : List (Int × Int)} {Ls : List (Int × Str)} {U : List Int} {k : Nat} {n : Int} {es : List Int} (g : Wov (cnt L) As Ls U k) (hn : n ∉ U) (hnd : es.Nodup) (hl : es.length = 1 ∨ es.length = 2) (hp : L.Perm (es ++ M)) :
    Wov (cnt (List.replicate (3 - es.length) n ++ M)) (As ++ es.map fun e => (n, e)) Ls (n :: U) (k + (2 - es.length)) := by
  have hc : ∀ p, L.count p = es.count p + M.count p := fun p => by rw [hp.count_eq, List.count_append]
  have n0 := g.c0 n hn
  have n0 : L.count n = 0 := n0
  have hcn := hc n
  refine g.add hn (fun e he => ?_) hnd hl (fun p hpn => ?_) ?_
  · have := List.count_pos_iff.mpr he
    have := hc e
    show 0 < L.count e
    omega
  · show (List.replicate (3 - es.length) n ++ M).count p + es.count p = L.count p
    rw [List.count_append, List.count_replicate, if_neg (by simpa using fun z => hpn z.symm), hc p]
    omega
  · show (List.replicate (3 - es.length) n ++ M).count n + es.length = 3
    rw [List.count_append, List.count_replicate_self]
    omega
/-- the state of the weaving, as it stands ahead of turn t -/
structure Wst (n m t : Nat) (sp lines : List Int) (As : List (Int × Int)) (Ls : List (Int × Str)) (U : List Int) (crs : List (List Int)) (mx : Nat) : Prop where
  wov : ∃ kk, Wov (cnt lines) As Ls U kk ∧ 2 * crs.length ≤ kk ∧ mx + kk = m
  crn : ∀ cr ∈ crs, Crn As cr
  spl : sp.length = 2 * mx + lines.length
  nd : (U ++ sp).Nodup
  rg : ∀ x ∈ U ++ sp, 0 ≤ x ∧ x ≤ 9999
  ul : U.length + sp.length = 2 * n + 2 * m
  al : As.length + 2 * lines.length + 3 * mx = 2 * n + 3 * m
  l1 : 1 ≤ lines.length
  tl : t + lines.length + 2 * mx ≤ n + 2 * m
  one : lines.length = 1 → ∀ x ∈ lines, upN As x = 0
  two : ∀ x, lines = [x, x] → 1 ≤ mx
section
variable {n m t : Nat} {sp lines : List Int} {As : List (Int × Int)} {Ls : List (Int × Str)} {U : List Int} {crs : List (List Int)} {mx : Nat}
theorem Wst.inU (w : Wst n m t sp lines As Ls U crs mx) {x : Int} (h : x ∈ lines) : x ∈ U := Classical.byContradiction fun z => by
  obtain ⟨kk, g, _⟩ := w.wov
  have := g.c0 x z
  have h2 := List.count_pos_iff.mpr h
  have : lines.count x = 0 := this
  omega
theorem Wst.join (w : Wst n m t sp lines As Ls U crs mx) {e o n0 : Int} {l2 sp' : List Int} (hp : lines.Perm (e :: o :: l2)) (ne : o ≠ e) (hs : sp = n0 :: sp') : Wst n m (t + 1) sp' (l2 ++ [n0]) (As ++ [(n0, e)] ++ [(n0, o)]) Ls (n0 :: U) crs mx := by
  subst hs
  obtain ⟨kk, g, h1, h2⟩ := w.wov
  have nd := w.nd
  have ll := hp.length_eq
  simp only [List.length_cons] at ll
  have hn : n0 ∉ U := fun z => (List.nodup_append.mp nd).2.2 n0 z n0 (by simp) rfl
  have spl := w.spl
  simp only [List.length_cons] at spl
  have ul := w.ul
  have al := w.al
  have tl := w.tl
  simp only [List.length_cons] at ul
  have g1 := g.addL (n := n0) (es := [e, o]) (M := l2) hn (by simpa using ne.symm) (.inr rfl) hp
  have eU : e ∈ U := w.inU (hp.mem_iff.mpr (by simp))
  have oU : o ∈ U := w.inU (hp.mem_iff.mpr (by simp))
  have l2U : ∀ x ∈ l2, x ∈ U := fun x hx => w.inU (hp.mem_iff.mpr (by simp [hx]))
  have pm : (n0 :: U ++ sp').Perm (U ++ n0 :: sp') := List.perm_middle.symm
  refine ⟨⟨kk, (g1.perm (by rw [List.append_assoc]; exact .refl _) (.refl _)).congr fun p => (show (l2 ++ [n0]).count p = ([n0] ++ l2).count p from (List.perm_append_comm).count_eq p), h1, h2⟩, fun cr h => (w.crn cr h).more fun a ha => by simp [ha], ?_, pm.nodup_iff.mpr nd, fun x hx => w.rg x (pm.mem_iff.mp hx), ?_, ?_, ?_, ?_, fun h x hx => ?_, fun x hx => ?_⟩
  · simp only [List.length_append, List.length_cons, List.length_nil]
    omega
  · simp only [List.length_cons]
    omega
  · simp only [List.length_append, List.length_cons, List.length_nil]
    omega
  · simp
  · simp only [List.length_append, List.length_cons, List.length_nil]
    omega
  · have l0 : l2 = [] := List.length_eq_zero_iff.mp (by simp only [List.length_append, List.length_cons, List.length_nil] at h; omega)
    subst l0
    have : x = n0 := by simpa using hx
    subst this
    refine List.countP_eq_zero.mpr fun a ha z => ?_
    have z : a.2 = x := by simpa using z
    simp only [List.mem_append, List.mem_cons, List.not_mem_nil, or_false] at ha
    rcases ha with (ha | rfl) | rfl
    · exact hn (z ▸ (g.ends a ha).2)
    · exact hn (by rw [← z]; exact eU)
    · exact hn (by rw [← z]; exact oU)
  · have h3 := congrArg List.length hx
    simp only [List.length_append, List.length_cons, List.length_nil] at h3
    obtain ⟨y, hy⟩ : ∃ y, l2 = [y] := List.length_eq_one_iff.mp (by omega)
    subst hy
    simp only [List.cons_append, List.nil_append, List.cons.injEq, and_true] at hx
    exact absurd (l2U y (by simp)) (by rw [hx.1, ← hx.2]; exact hn)
theorem Wst.mixing (w : Wst n m t sp lines As Ls U crs mx) {e n0 : Int} {l1 sp' : List Int} (hp : lines.Perm (e :: l1)) (hm : 1 ≤ mx) (h0 : l1 = [] → 2 ≤ mx) (hs : sp = n0 :: sp') : Wst n m (t + 1) sp' (l1 ++ [n0, n0]) (As ++ [(n0, e)]) Ls (n0 :: U) crs (mx - 1) := by
  subst hs
  obtain ⟨kk, g, h1, h2⟩ := w.wov
  have nd := w.nd
  have ll := hp.length_eq
  simp only [List.length_cons] at ll
  have hn : n0 ∉ U := fun z => (List.nodup_append.mp nd).2.2 n0 z n0 (by simp) rfl
  have spl := w.spl
  simp only [List.length_cons] at spl
  have ul := w.ul
  have al := w.al
  have tl := w.tl
  simp only [List.length_cons] at ul
  have g1 := g.addL (n := n0) (es := [e]) (M := l1) hn (by simp) (.inl rfl) hp
  have pm : (n0 :: U ++ sp').Perm (U ++ n0 :: sp') := List.perm_middle.symm
  refine ⟨⟨kk + 1, g1.congr fun p => (show (l1 ++ [n0, n0]).count p = ([n0, n0] ++ l1).count p from (List.perm_append_comm).count_eq p), by omega, by omega⟩, fun cr h => (w.crn cr h).more fun a ha => by simp [ha], ?_, pm.nodup_iff.mpr nd, fun x hx => w.rg x (pm.mem_iff.mp hx), ?_, ?_, ?_, ?_, fun h x hx => ?_, fun x hx => ?_⟩
  · simp only [List.length_append, List.length_cons, List.length_nil]
    omega
  · simp only [List.length_cons]
    omega
  · simp only [List.length_append, List.length_cons, List.length_nil]
    omega
  · simp
  · simp only [List.length_append, List.length_cons, List.length_nil]
    omega
  · simp only [List.length_append, List.length_cons, List.length_nil] at h
    omega
  · have h3 := congrArg List.length hx
    simp only [List.length_append, List.length_cons, List.length_nil] at h3
    have := h0 (List.length_eq_zero_iff.mp (by omega))
    omega
theorem Wst.hyb (w : Wst n m t sp lines As Ls U crs mx) {e n0 n1 n2 : Int} {l1 sp' : List Int} (hp : lines.Perm (e :: l1)) (hm : 3 ≤ mx) (hs : sp = n0 :: n1 :: n2 :: sp') : Wst n m (t + 1) sp' (l1 ++ [n1, n1, n2, n2]) (As ++ [(n0, e), (n1, n0), (n2, n0)]) Ls (n2 :: n1 :: n0 :: U) crs (mx - 3) := by
  subst hs
  obtain ⟨kk, g, h1, h2⟩ := w.wov
  have nd := w.nd
  have ll := hp.length_eq
  simp only [List.length_cons] at ll
  have pm : (n2 :: n1 :: n0 :: U ++ sp').Perm (U ++ n0 :: n1 :: n2 :: sp') := List.perm_iff_count.mpr fun p => by
    simp only [List.cons_append, List.count_append, List.count_cons]
    omega
  have nd' := pm.nodup_iff.mpr nd
  simp only [List.cons_append] at nd'
  have hn2 : n2 ∉ n1 :: n0 :: U := fun z => (List.nodup_cons.mp nd').1 (by simp only [List.mem_cons, List.mem_append] at z ⊢; rcases z with z | z | z <;> simp [z])
  have nd' := (List.nodup_cons.mp nd').2
  have hn1 : n1 ∉ n0 :: U := fun z => (List.nodup_cons.mp nd').1 (by simp only [List.mem_cons, List.mem_append] at z ⊢; rcases z with z | z <;> simp [z])
  have nd' := (List.nodup_cons.mp nd').2
  have hn0 : n0 ∉ U := fun z => (List.nodup_cons.mp nd').1 (by simp [z])
  have spl := w.spl
  simp only [List.length_cons] at spl
  have ul := w.ul
  have al := w.al
  have tl := w.tl
  simp only [List.length_cons] at ul
  have g1 := g.addL (n := n0) (es := [e]) (M := l1) hn0 (by simp) (.inl rfl) hp
  have g2 := g1.addL (n := n1) (es := [n0]) (M := n0 :: l1) hn1 (by simp) (.inl rfl) (.refl _)
  have g3 := g2.addL (n := n2) (es := [n0]) (M := [n1, n1] ++ l1) hn2 (by simp) (.inl rfl) (List.perm_iff_count.mpr fun p => by
    simp only [List.length_cons, List.length_nil, List.replicate, List.cons_append, List.nil_append, List.count_append, List.count_cons]
    omega)
  refine ⟨⟨kk + 3, (g3.perm (by simp only [List.append_assoc]; exact .refl _) (.refl _)).congr fun p => ?_, by omega, by omega⟩, fun cr h => (w.crn cr h).more fun a ha => by simp [ha], ?_, pm.nodup_iff.mpr nd, fun x hx => w.rg x (pm.mem_iff.mp hx), ?_, ?_, ?_, ?_, fun h x hx => ?_, fun x hx => ?_⟩
  · simp only [cnt, List.length_cons, List.length_nil, List.replicate, List.cons_append, List.nil_append, List.count_append, List.count_cons, List.count_nil]
    omega
  · simp only [List.length_append, List.length_cons, List.length_nil]
    omega
  · simp only [List.length_cons]
    omega
  · simp only [List.length_append, List.length_cons, List.length_nil]
    omega
  · simp
  · simp only [List.length_append, List.length_cons, List.length_nil]
    omega
  · simp only [List.length_append, List.length_cons, List.length_nil] at h
    omega
  · have h3 := congrArg List.length hx
    simp only [List.length_append, List.length_cons, List.length_nil] at h3
    omega
theorem Wst.crown (w : Wst n m t sp lines As Ls U crs mx) {e o n0 n1 n2 n3 : Int} {l2 sp' cr : List Int} (hp : lines.Perm (e :: o :: l2)) (hm : 2 ≤ mx) (hs : sp = n0 :: n1 :: n2 :: n3 :: sp') (hc : cr.Perm [n0, n1, n2, n3]) (hcs : cr.Pairwise (· ≤ ·)) :
    Wst n m (t + 1) sp' (l2 ++ [n0, n1]) (As ++ [(n0, n2), (n0, n3), (n1, n2), (n1, n3)] ++ [(n2, e), (n3, o)]) Ls (n1 :: n0 :: n3 :: n2 :: U) (crs ++ [cr]) (mx - 2) := by
  subst hs
  obtain ⟨kk, g, h1, h2⟩ := w.wov
  have nd := w.nd
  have ll := hp.length_eq
  simp only [List.length_cons] at ll
  have pm : (n1 :: n0 :: n3 :: n2 :: U ++ sp').Perm (U ++ n0 :: n1 :: n2 :: n3 :: sp') := List.perm_iff_count.mpr fun p => by
    simp only [List.cons_append, List.count_append, List.count_cons]
    omega
  have nd0 := pm.nodup_iff.mpr nd
  have nd' := nd0
  simp only [List.cons_append] at nd'
  have hn1 : n1 ∉ n0 :: n3 :: n2 :: U := fun z => (List.nodup_cons.mp nd').1 (by simp only [List.mem_cons, List.mem_append] at z ⊢; rcases z with z | z | z | z <;> simp [z])
  have nd' := (List.nodup_cons.mp nd').2
  have hn0 : n0 ∉ n3 :: n2 :: U := fun z => (List.nodup_cons.mp nd').1 (by simp only [List.mem_cons, List.mem_append] at z ⊢; rcases z with z | z | z <;> simp [z])
  have nd' := (List.nodup_cons.mp nd').2
  have hn3 : n3 ∉ n2 :: U := fun z => (List.nodup_cons.mp nd').1 (by simp only [List.mem_cons, List.mem_append] at z ⊢; rcases z with z | z <;> simp [z])
  have nd' := (List.nodup_cons.mp nd').2
  have hn2 : n2 ∉ U := fun z => (List.nodup_cons.mp nd').1 (by simp [z])
  have n23 : n2 ≠ n3 := fun z => hn3 (by simp [z])
  have n4 : [n0, n1, n2, n3].Nodup := by
    have h := (List.nodup_append.mp nd).2.1
    exact h.sublist (show [n0, n1, n2, n3].Sublist ([n0, n1, n2, n3] ++ sp') from List.sublist_append_left _ _)
  have spl := w.spl
  simp only [List.length_cons] at spl
  have ul := w.ul
  have al := w.al
  have tl := w.tl
  simp only [List.length_cons] at ul
  have g1 := g.addL (n := n2) (es := [e]) (M := o :: l2) hn2 (by simp) (.inl rfl) hp
  have g2 := g1.addL (n := n3) (es := [o]) (M := n2 :: n2 :: l2) hn3 (by simp) (.inl rfl) (List.perm_iff_count.mpr fun p => by
    simp only [List.length_cons, List.length_nil, List.replicate, List.cons_append, List.nil_append, List.count_append, List.count_cons]
    omega)
  have g3 := g2.addL (n := n0) (es := [n2, n3]) (M := n2 :: n3 :: l2) hn0 (by simpa using n23) (.inr rfl) (List.perm_iff_count.mpr fun p => by
    simp only [List.length_cons, List.length_nil, List.replicate, List.cons_append, List.nil_append, List.count_append, List.count_cons]
    omega)
  have g4 := g3.addL (n := n1) (es := [n2, n3]) (M := n0 :: l2) hn1 (by simpa using n23) (.inr rfl) (List.perm_iff_count.mpr fun p => by
    simp only [List.length_cons, List.length_nil, List.replicate, List.cons_append, List.nil_append, List.count_append, List.count_cons]
    omega)
  have pa : (As ++ [(n0, n2), (n0, n3), (n1, n2), (n1, n3)] ++ [(n2, e), (n3, o)]).Perm (As ++ [(n2, e)] ++ [(n3, o)] ++ [(n0, n2), (n0, n3)] ++ [(n1, n2), (n1, n3)]) := by
    simp only [List.append_assoc]
    refine List.Perm.append_left _ ?_
    exact List.perm_append_comm (l₁ := [(n0, n2), (n0, n3), (n1, n2), (n1, n3)]) (l₂ := [(n2, e), (n3, o)])
  refine ⟨⟨kk + 2, (g4.perm pa (.refl _)).congr fun p => ?_, by rw [List.length_append, List.length_singleton]; omega, by omega⟩, fun c h => ?_, ?_, nd0, fun x hx => w.rg x (pm.mem_iff.mp hx), ?_, ?_, ?_, ?_, fun h x hx => ?_, fun x hx => ?_⟩
  · simp only [cnt, List.length_cons, List.length_nil, List.replicate, List.cons_append, List.nil_append, List.count_append, List.count_cons, List.count_nil]
    omega
  · rcases List.mem_append.mp h with h | h
    · exact (w.crn c h).more fun a ha => by simp [ha]
    · rw [List.mem_singleton.mp h]
      refine ⟨?_, n0, n1, n2, n3, hc, n4, by simp, by simp, by simp, by simp⟩
      have ndc := hc.nodup_iff.mpr n4
      exact (List.pairwise_and_iff.mpr ⟨hcs, ndc⟩).imp fun h => by omega
  · simp only [List.length_append, List.length_cons, List.length_nil]
    omega
  · simp only [List.length_cons]
    omega
  · simp only [List.length_append, List.length_cons, List.length_nil]
    omega
  · simp
  · simp only [List.length_append, List.length_cons, List.length_nil]
    omega
  · simp only [List.length_append, List.length_cons, List.length_nil] at h
    omega
  · have h3 := congrArg List.length hx
    simp only [List.length_append, List.length_cons, List.length_nil] at h3
    have l0 : l2 = [] := List.length_eq_zero_iff.mp (by omega)
    subst l0
    simp only [List.nil_append, List.cons.injEq, and_true] at hx
    exact absurd (hx.1.trans hx.2.symm) fun z => hn1 (by simp [z])
theorem Wst.good (w : Wst n m t sp lines As Ls U crs mx) (h1 : lines.length = 1) (hn : 1 ≤ n ∧ n ≤ 12) (hm : m ≤ 8) (hl : Ls.length = n) (hln : (Ls.map (·.2)).Nodup) (hnm : ∀ l ∈ Ls, nameL l.2.cps.toList = true ∧ l.2.length ≤ 8) : ∃ P, Good As Ls P := by
  obtain ⟨kk, g, h2, h3⟩ := w.wov
  obtain ⟨x, hx⟩ := List.length_eq_one_iff.mp h1
  subst hx
  obtain ⟨P, hP⟩ : ∃ P, Asc P U := asc_exists U
  have al := w.al
  have ul := w.ul
  simp only [List.length_cons, List.length_nil] at al
  refine ⟨P, g.good (x := x) (fun p => ?_) (w.one h1 x (by simp)) (by omega) (by omega) (by omega) (fun p hp => w.rg p (List.mem_append_left _ hp)) (by omega) hln hP hnm⟩
  show [x].count p = _
  rw [List.count_singleton]
  by_cases e : p = x
  · rw [if_pos (by simpa using e.symm), if_pos e]
  · rw [if_neg (by simpa using fun z => e z.symm), if_neg e]
/-- where two are left and they are no twins, there is another one to join -/
theorem Wst.other (w : Wst n m t sp lines As Ls U crs mx) {e : Int} {l1 : List Int} (hp : lines.Perm (e :: l1)) (h0 : l1 ≠ []) (h2 : ∀ x, lines ≠ [x, x]) : l1.filter (fun x => decide (x ≠ e)) ≠ [] := fun z => by
  obtain ⟨kk, g, _, _⟩ := w.wov
  have all : ∀ x ∈ l1, x = e := fun x hx => by
    have := List.filter_eq_nil_iff.mp z x hx
    simpa using this
  have c1 : l1.count e = l1.length := List.count_eq_length.mpr fun x hx => (all x hx).symm
  have c2 : lines.count e = l1.length + 1 := by rw [hp.count_eq, List.count_cons_self, c1]
  have eU : e ∈ U := w.inU (hp.mem_iff.mpr (by simp))
  have c3 : lines.count e ≤ 2 := by
    have : cnt lines e = lines.count e := rfl
    rcases g.deg e eU with ⟨_, _, d⟩ | ⟨_, d⟩ <;> omega
  have l0 := List.length_pos_iff.mpr h0
  have ll := hp.length_eq
  rw [List.length_cons] at ll
  match lines, ll, h2, hp with
  | [x, y], _, h2, hp =>
    have hx : x = e := (List.mem_cons.mp (hp.mem_iff.mp (show x ∈ [x, y] by simp))).elim id (all x)
    have hy : y = e := (List.mem_cons.mp (hp.mem_iff.mp (show y ∈ [x, y] by simp))).elim id (all y)
    exact h2 e (by rw [hx, hy])
  | [x], ll, _, _ => simp only [List.length_cons, List.length_nil] at ll; omega
  | [], ll, _, _ => simp at ll
  | _ :: _ :: _ :: _, ll, _, _ => simp only [List.length_cons] at ll; omega
end
theorem wzip_fst {α β : Type} : ∀ {L : List α} {ns : List β}, ns.length ≤ L.length → (L.zip ns).map (·.1) = L.take ns.length
  | _, [], _ => by simp
  | [], _ :: _, h => by simp at h
  | x :: L, y :: ns, h => by
    have := wzip_fst (L := L) (ns := ns) (by simpa using h)
    simp [this]
theorem wzip_snd {α β : Type} : ∀ {L : List α} {ns : List β}, ns.length ≤ L.length → (L.zip ns).map (·.2) = ns
  | _, [], _ => by simp
  | [], _ :: _, h => by simp at h
  | x :: L, y :: ns, h => by
    have := wzip_snd (L := L) (ns := ns) (by simpa using h)
    simp [this]
theorem Wst.start {L : List Int} {ns : List Str} {m : Nat} {Ls : List (Int × Str)} (nd : L.Nodup) (hLs : Ls = L.zip ns) (hl : L.length = 2 * ns.length + 2 * m) (h1 : 1 ≤ ns.length) (rg : ∀ x ∈ L, 0 ≤ x ∧ x ≤ 9999) : Wst ns.length m 0 (L.drop ns.length) (L.take ns.length) [] Ls (L.take ns.length) [] m := by
  have hf : Ls.map (·.1) = L.take ns.length := by rw [hLs]; exact wzip_fst (by omega)
  have ndt : (L.take ns.length).Nodup := nd.sublist (List.take_sublist _ _)
  have lt : (L.take ns.length).length = ns.length := by rw [List.length_take]; omega
  have ld : (L.drop ns.length).length = ns.length + 2 * m := by rw [List.length_drop]; omega
  have wv : Wov (cnt (L.take ns.length)) [] Ls (L.take ns.length) 0 := by
    refine ⟨List.nodup_nil, ndt, by rw [hf]; exact ndt, fun a ha => (by cases ha), fun l hl => ?_, fun p hp => List.count_eq_zero.mpr hp, ⟨fun _ => 0, fun a ha => by cases ha⟩, fun p hp => .inl ⟨by rw [hf]; exact hp, rfl, ?_⟩, ?_⟩
    · rw [← hf]
      exact List.mem_map_of_mem hl
    · show 0 + (L.take ns.length).count p = 1
      rw [ndt.count, if_pos hp]
    · exact List.countP_eq_zero.mpr fun p _ => by show ¬ ((0 : Nat) == 1) = true; decide
  have ta := List.take_append_drop ns.length L
  exact { wov := ⟨0, wv, Nat.le_refl _, by omega⟩, crn := fun cr h => (by cases h), spl := by omega, nd := (by rw [ta]; exact nd), rg := (by rw [ta]; exact rg), ul := by omega, al := by rw [lt]; simp, l1 := by omega, tl := by omega, one := fun _ _ _ => rfl, two := fun x hx => by rw [hx] at ndt; simp at ndt }
/-- the crowns in the heap: new lists, none of them the two that still change -/
def CrA (H H' : Hp) (L A : Addr) : List V → List (List Int) → Prop
  | [], [] => True
  | v :: vs, c :: cs => (∃ ca, v = .ref ca ∧ H ca = none ∧ ca ≠ L ∧ ca ≠ A ∧ H' ca = some (.lst (c.map V.int))) ∧ CrA H H' L A vs cs
  | [], _ :: _ => False
  | _ :: _, [] => False
theorem CrA.go {H H1 H2 : Hp} {L A L2 A2 : Addr} : ∀ {vs : List V} {cs : List (List Int)}, CrA H H1 L A vs cs → (∀ ca xs, H ca = none → ca ≠ L → ca ≠ A → H1 ca = some (.lst xs) → H2 ca = some (.lst xs) ∧ ca ≠ L2 ∧ ca ≠ A2) → CrA H H2 L2 A2 vs cs
  | [], [], _, _ => trivial
  | _ :: _, _ :: _, ⟨⟨ca, e, n, h1, h2, h3⟩, r⟩, g => by
    obtain ⟨g1, g2, g3⟩ := g ca _ n h1 h2 h3
    exact ⟨⟨ca, e, n, g2, g3, g1⟩, r.go g⟩
  | [], _ :: _, h, _ => h.elim
  | _ :: _, [], h, _ => h.elim
theorem CrA.snoc {H H1 : Hp} {L A ca : Addr} {c : List Int} (n : H ca = none) (h1 : ca ≠ L) (h2 : ca ≠ A) (e : H1 ca = some (.lst (c.map V.int))) : ∀ {vs : List V} {cs : List (List Int)}, CrA H H1 L A vs cs → CrA H H1 L A (vs ++ [.ref ca]) (cs ++ [c])
  | [], [], _ => ⟨⟨ca, rfl, n, h1, h2, e⟩, trivial⟩
  | _ :: _, _ :: _, ⟨h, r⟩ => ⟨h, r.snoc n h1 h2 e⟩
  | [], _ :: _, h => h.elim
  | _ :: _, [], h => h.elim
theorem CrA.da {S : Av} {H H1 : Hp} {L A : Addr} (hS : ∀ ca, H ca = none → ¬ S ca) : ∀ {vs : List V} {cs : List (List Int)}, CrA H H1 L A vs cs → DaAll S H1 vs (cs.map fun c => .list (c.map PyData.int))
  | [], [], _ => .nil
  | _ :: _, _ :: _, ⟨⟨ca, e, n, _, _, h3⟩, r⟩ => by
    subst e
    exact .cons (.lst (hS ca n) h3 ints_daAll) (r.da hS)
  | [], _ :: _, h => h.elim
  | _ :: _, [], h => h.elim
theorem CrA.len {H H1 : Hp} {L A : Addr} : ∀ {vs : List V} {cs : List (List Int)}, CrA H H1 L A vs cs → vs.length = cs.length
  | [], [], _ => rfl
  | _ :: _, _ :: _, ⟨_, r⟩ => by rw [List.length_cons, List.length_cons, r.len]
  | [], _ :: _, h => h.elim
  | _ :: _, [], h => h.elim
/-- the heap of the weaving -/
structure WV (S : Av) (s : Addr) (H : Hp) (SP LN AR CR LV : Addr) (sp lines : List Int) (ys : List V) (As : List (Int × Int)) (zs : List V) (Ls : List (Int × Str)) (cs : List V) (crs : List (List Int)) (H' : Hp) : Prop where
  k : Keep s H H'
  so : SO S s H'
  nSP : H SP = none
  nLN : H LN = none
  nAR : H AR = none
  nCR : H CR = none
  nLV : H LV = none
  d1 : SP ≠ LN
  d2 : SP ≠ AR
  d3 : CR ≠ LN
  d4 : CR ≠ AR
  d5 : LV ≠ LN
  d6 : LV ≠ AR
  d7 : LN ≠ AR
  eSP : H' SP = some (.lst (sp.map V.int))
  eLN : H' LN = some (.lst (lines.map V.int))
  eAR : H' AR = some (.lst ys)
  hys : DaAll S H' ys (As.map pd)
  eLV : H' LV = some (.lst zs)
  hzs : DaAll S H' zs (Ls.map ld)
  eCR : H' CR = some (.lst cs)
  hcs : CrA H H' LN AR cs crs
section
variable {S : Av} {s : Addr} {H H1 H2 : Hp} {SP LN AR CR LV : Addr} {sp lines : List Int} {ys : List V} {As : List (Int × Int)} {zs : List V} {Ls : List (Int × Str)} {cs : List V} {crs : List (List Int)}
theorem WV.keep (w : WV S s H SP LN AR CR LV sp lines ys As zs Ls cs crs H1) (hS : SS S s H) (k2 : Keep s H1 H2) (so2 : SO S s H2) : WV S s H SP LN AR CR LV sp lines ys As zs Ls cs crs H2 :=
  ⟨w.k.trans k2, so2, w.nSP, w.nLN, w.nAR, w.nCR, w.nLV, w.d1, w.d2, w.d3, w.d4, w.d5, w.d6, w.d7, k2 _ _ (hS.ne w.nSP) w.eSP, k2 _ _ (hS.ne w.nLN) w.eLN, k2 _ _ (hS.ne w.nAR) w.eAR, w.hys.keep k2 hS.at_, k2 _ _ (hS.ne w.nLV) w.eLV, w.hzs.keep k2 hS.at_, k2 _ _ (hS.ne w.nCR) w.eCR, w.hcs.go fun ca _ hn h1 h2 e => ⟨k2 _ _ (hS.ne hn) e, h1, h2⟩⟩
theorem WV.same (w : WV S s H SP LN AR CR LV sp lines ys As zs Ls cs crs H1) (hS : SS S s H) (s2 : Same H1 H2) : WV S s H SP LN AR CR LV sp lines ys As zs Ls cs crs H2 := w.keep hS (Keep.of s2) (w.so.same s2)
theorem WV.ss (w : WV S s H SP LN AR CR LV sp lines ys As zs Ls cs crs H1) (hS : SS S s H) : SS S s H1 := hS.keep w.k w.so
theorem WV.free (w : WV S s H SP LN AR CR LV sp lines ys As zs Ls cs crs H1) {X : Addr} (n : H1 X = none) : H X = none := w.k.free (w.so.ne n) n
theorem WV.setLN (w : WV S s H SP LN AR CR LV sp lines ys As zs Ls cs crs H1) (hS : SS S s H) (l2 : List Int) : WV S s H SP LN AR CR LV sp l2 ys As zs Ls cs crs (upd H1 LN (.lst (l2.map V.int))) := by
  have nt : ∀ xs, H1 LN ≠ some (.tup xs) := fun xs z => by rw [w.eLN] at z; cases z
  exact ⟨w.k.new w.nLN, w.so.put (hS.free w.nLN), w.nSP, w.nLN, w.nAR, w.nCR, w.nLV, w.d1, w.d2, w.d3, w.d4, w.d5, w.d6, w.d7, by rw [upd_ne w.d1]; exact w.eSP, upd_same, by rw [upd_ne w.d7.symm]; exact w.eAR, pd_ne nt w.hys, by rw [upd_ne w.d5]; exact w.eLV, ld_ne nt w.hzs, by rw [upd_ne w.d3]; exact w.eCR, w.hcs.go fun ca _ _ h1 h2 e => ⟨by rw [upd_ne h1]; exact e, h1, h2⟩⟩
theorem WV.appAR (w : WV S s H SP LN AR CR LV sp lines ys As zs Ls cs crs H1) (hS : SS S s H) (p : Int × Int) {T : Addr} (nT : H1 T = none) : WV S s H SP LN AR CR LV sp lines (ys ++ [.ref T]) (As ++ [p]) zs Ls cs crs (upd (upd H1 T (.tup [.int p.1, .int p.2])) AR (.lst (ys ++ [.ref T]))) := by
  obtain ⟨H8, e8, k8, so8, eA8, hy8, kp⟩ := app_pd p hS w.k w.so w.nAR w.eAR w.hys nT
  have nt : ∀ xs, (upd H1 T (.tup [.int p.1, .int p.2])) AR ≠ some (.tup xs) := fun xs z => by
    rw [upd_ne (fun e => by rw [← e, w.eAR] at nT; cases nT), w.eAR] at z
    cases z
  have hz : DaAll S (upd (upd H1 T (.tup [.int p.1, .int p.2])) AR (.lst (ys ++ [.ref T]))) zs (Ls.map ld) := ld_ne nt (w.hzs.new nT)
  rw [show upd (upd H1 T (.tup [.int p.1, .int p.2])) AR (.lst (ys ++ [.ref T])) = H8 from e8] at hz ⊢
  exact ⟨k8, so8, w.nSP, w.nLN, w.nAR, w.nCR, w.nLV, w.d1, w.d2, w.d3, w.d4, w.d5, w.d6, w.d7, kp _ _ w.d2 w.eSP, kp _ _ w.d7 w.eLN, eA8, hy8, kp _ _ w.d6 w.eLV, hz, kp _ _ w.d4 w.eCR, w.hcs.go fun ca _ _ h1 h2 e => ⟨kp _ _ h2 e, h1, h2⟩⟩
theorem WV.toLN (w : WV S s H SP LN AR CR LV sp lines ys As zs Ls cs crs H1) (hS : SS S s H) {X : Addr} (n : H1 X = none) (l2 : List Int) : WV S s H SP X AR CR LV sp l2 ys As zs Ls cs crs (upd H1 X (.lst (l2.map V.int))) := by
  have v := w.same hS (same_new (o := .lst (l2.map V.int)) (Same.refl H1) n)
  exact ⟨v.k, v.so, v.nSP, w.free n, v.nAR, v.nCR, v.nLV, ne_of_none w.eSP n, v.d2, ne_of_none w.eCR n, v.d4, ne_of_none w.eLV n, v.d6, (ne_of_none w.eAR n).symm, v.eSP, upd_same, v.eAR, v.hys, v.eLV, v.hzs, v.eCR, w.hcs.go fun ca _ _ h1 h2 e => ⟨by rw [upd_ne (ne_of_none e n)]; exact e, ne_of_none e n, h2⟩⟩
theorem WV.toSP (w : WV S s H SP LN AR CR LV sp lines ys As zs Ls cs crs H1) (hS : SS S s H) {X : Addr} (n : H1 X = none) (l2 : List Int) : WV S s H X LN AR CR LV l2 lines ys As zs Ls cs crs (upd H1 X (.lst (l2.map V.int))) := by
  have v := w.same hS (same_new (o := .lst (l2.map V.int)) (Same.refl H1) n)
  exact ⟨v.k, v.so, w.free n, v.nLN, v.nAR, v.nCR, v.nLV, (ne_of_none w.eLN n).symm, (ne_of_none w.eAR n).symm, v.d3, v.d4, v.d5, v.d6, v.d7, upd_same, v.eLN, v.eAR, v.hys, v.eLV, v.hzs, v.eCR, v.hcs⟩
theorem WV.toAR (w : WV S s H SP LN AR CR LV sp lines ys As zs Ls cs crs H1) (hS : SS S s H) {X : Addr} (n : H1 X = none) {ts : List V} {Bs : List (Int × Int)} (h : DaAll S H1 ts (Bs.map pd)) : WV S s H SP LN X CR LV sp lines (ys ++ ts) (As ++ Bs) zs Ls cs crs (upd H1 X (.lst (ys ++ ts))) := by
  have v := w.same hS (same_new (o := .lst (ys ++ ts)) (Same.refl H1) n)
  have hy : DaAll S (upd H1 X (.lst (ys ++ ts))) (ys ++ ts) ((As ++ Bs).map pd) := by
    rw [List.map_append]
    exact v.hys.app (h.same (same_new (o := .lst (ys ++ ts)) (Same.refl H1) n))
  exact ⟨v.k, v.so, v.nSP, v.nLN, w.free n, v.nCR, v.nLV, v.d1, ne_of_none w.eSP n, v.d3, ne_of_none w.eCR n, v.d5, ne_of_none w.eLV n, ne_of_none w.eLN n, v.eSP, v.eLN, upd_same, hy, v.eLV, v.hzs, v.eCR, w.hcs.go fun ca _ _ h1 _ e => ⟨by rw [upd_ne (ne_of_none e n)]; exact e, h1, ne_of_none e n⟩⟩
theorem WV.toCR (w : WV S s H SP LN AR CR LV sp lines ys As zs Ls cs crs H1) (hS : SS S s H) {X ca : Addr} {c : List Int} (n : H1 X = none) (hca : H ca = none) (h1 : ca ≠ LN) (h2 : ca ≠ AR) (e : H1 ca = some (.lst (c.map V.int))) : WV S s H SP LN AR X LV sp lines ys As zs Ls (cs ++ [.ref ca]) (crs ++ [c]) (upd H1 X (.lst (cs ++ [.ref ca]))) := by
  have s2 := same_new (o := .lst (cs ++ [.ref ca])) (Same.refl H1) n
  have v := w.same hS s2
  exact ⟨v.k, v.so, v.nSP, v.nLN, v.nAR, w.free n, v.nLV, v.d1, v.d2, (ne_of_none w.eLN n).symm, (ne_of_none w.eAR n).symm, v.d5, v.d6, v.d7, v.eSP, v.eLN, v.eAR, v.hys, v.eLV, v.hzs, upd_same, v.hcs.snoc hca h1 h2 (s2 _ _ e)⟩
end
theorem tand_h {c1 c2 : TT} {σ : L2.St} {H : Hp} {Q : Bool → Hp → Prop} {b1 b2 : Bool} (h1 : ∀ R : Bool → Hp → Prop, R b1 H → c1 σ H R) (h2 : ∀ R : Bool → Hp → Prop, R b2 H → c2 σ H R) (h : Q (b1 && b2) H) : tAnd c1 c2 σ H Q := by
  refine h1 _ ?_
  cases b1 with
  | true => exact ite2 (fun _ => h2 _ h) fun e => absurd rfl e
  | false => exact ite2 (fun e => absurd e (by decide)) fun _ => h
theorem tor_h {c1 c2 : TT} {σ : L2.St} {H : Hp} {Q : Bool → Hp → Prop} {b1 b2 : Bool} (h1 : ∀ R : Bool → Hp → Prop, R b1 H → c1 σ H R) (h2 : ∀ R : Bool → Hp → Prop, R b2 H → c2 σ H R) (h : Q (b1 || b2) H) : tOr c1 c2 σ H Q := by
  refine h1 _ ?_
  cases b1 with
  | true => exact ite2 (fun _ => h) fun e => absurd rfl e
  | false => exact ite2 (fun e => absurd e (by decide)) fun _ => h2 _ h
theorem WV.tup {S : Av} {s : Addr} {H H1 : Hp} {SP LN AR CR LV : Addr} {sp lines : List Int} {ys : List V} {As : List (Int × Int)} {zs : List V} {Ls : List (Int × Str)} {cs : List V} {crs : List (List Int)} (w : WV S s H SP LN AR CR LV sp lines ys As zs Ls cs crs H1) (hS : SS S s H) (p : Int × Int) {T : Addr} (n : H1 T = none) :
    ∃ H2, upd H1 T (.tup [.int p.1, .int p.2]) = H2 ∧ WV S s H SP LN AR CR LV sp lines ys As zs Ls cs crs H2 ∧ Same H1 H2 ∧ Da S H2 (.ref T) (pd p) :=
  have s2 := same_new (o := .tup [.int p.1, .int p.2]) (Same.refl H1) n
  ⟨_, rfl, w.same hS s2, s2, da_ofpd ((w.ss hS).free n) upd_same⟩
theorem WV.any {S : Av} {s : Addr} {H H1 : Hp} {SP LN AR CR LV : Addr} {sp lines : List Int} {ys : List V} {As : List (Int × Int)} {zs : List V} {Ls : List (Int × Str)} {cs : List V} {crs : List (List Int)} (w : WV S s H SP LN AR CR LV sp lines ys As zs Ls cs crs H1) (hS : SS S s H) (o : HO) {T : Addr} (n : H1 T = none) :
    ∃ H2, upd H1 T o = H2 ∧ WV S s H SP LN AR CR LV sp lines ys As zs Ls cs crs H2 ∧ Same H1 H2 ∧ H2 T = some o :=
  have s2 := same_new (o := o) (Same.refl H1) n
  ⟨_, rfl, w.same hS s2, s2, upd_same⟩
theorem erase_perm {e : Int} : ∀ {L : List Int} {i : Nat}, L[i]? = some e → L.Perm (e :: L.eraseIdx i)
  | x :: L, 0, h => by
    cases h
    exact .refl _
  | x :: L, i + 1, h => by
    have ih := erase_perm (L := L) (i := i) h
    exact (ih.cons x).trans (.swap _ _ _)
  | [], i, h => by simp at h
theorem two_els {α : Type} : ∀ {L : List α}, L.length = 2 → ∃ x y, L = [x, y]
  | [x, y], _ => ⟨x, y, rfl⟩
theorem one_of {α : Type} : ∀ {L : List α}, 1 ≤ L.length → ∃ a r, L = a :: r
  | a :: r, _ => ⟨a, r, rfl⟩
theorem four_of {α : Type} : ∀ {L : List α}, 4 ≤ L.length → ∃ a b c d r, L = a :: b :: c :: d :: r
  | a :: b :: c :: d :: r, _ => ⟨a, b, c, d, r, rfl⟩
  | [], h => by simp at h
  | [_], h => by simp at h
  | [_, _], h => by simp at h
  | [_, _, _], h => by simp at h
end Lg

/-! Calls of defs with keyword-only defaults. -/
namespace Lg
open PySem PySem.Spec PyProof.Rows L2 L2N
theorem FunD.plain {K : PySem.W.Frag} {x qual : Str} {params : Arguments} {body : List Stmt} {scope : Scope} {dvs : List V} {kws : List (Str × V)} {f : Addr} {fd : FuncData} (F : FunD K x qual params body scope dvs kws f fd) (h : dvs = []) : FunD K x qual params body scope [] [] f fd := by
  subst h
  obtain ⟨oc, od, dV, kV, doc, pm, an, cdv, ct, osl, e, lk, hcd, hD, _⟩ := F.ex
  exact ⟨⟨oc, od, dV, kV, doc, pm, an, cdv, ct, osl, e, lk, hcd, hD, .inl rfl⟩, F.kp⟩
/-- f(e, ..) where defaults fill up -/
structure OwnD (P : Program) (w : World) (K : PySem.W.Frag) (mg : Str → Option Value) (base : Heap) (k : Nat) (x : Str) (ps : List Str) (dvs : List V) (sp : Sp) : Prop where
  ex : ∃ f fd ds, FnOk P w K mg base CX0 k f fd ps sp ∧ mg x = some (.ref f) ∧ PySem.W.keepIn K (.ref f) = true ∧ Vals dvs ds ∧ Binds K fd ps ds
theorem OwnD.up {P : Program} {w : World} {K : PySem.W.Frag} {mg : Str → Option Value} {base : Heap} {x : Str} {ps : List Str} {dvs : List V} {sp : Sp} {j k : Nat} (O : OwnD P w K mg base k x ps dvs sp) (h : k ≤ j) : OwnD P w K mg base j x ps dvs sp := by
  obtain ⟨f, fd, ds, F, r⟩ := O.ex
  exact ⟨f, fd, ds, F.mono h, r⟩
/-- f(e, .., k = v, ..): n values stand ahead of the keywords -/
structure OwnKN (P : Program) (w : World) (K : PySem.W.Frag) (mg : Str → Option Value) (base : Heap) (k : Nat) (n : Nat) (x : Str) (ps ks : List Str) (is : List Nat) (sp : Sp) : Prop where
  ex : ∃ f fd, FnOk P w K mg base CX0 k f fd ps sp ∧ mg x = some (.ref f) ∧ PySem.W.keepIn K (.ref f) = true ∧ KBn K fd ps n ks (fun us ws => us ++ permL is ws) (fun us zs => us ++ permL is zs)
theorem OwnKN.up {P : Program} {w : World} {K : PySem.W.Frag} {mg : Str → Option Value} {base : Heap} {n : Nat} {x : Str} {ps ks : List Str} {is : List Nat} {sp : Sp} {j k : Nat} (O : OwnKN P w K mg base k n x ps ks is sp) (h : k ≤ j) : OwnKN P w K mg base j n x ps ks is sp := by
  obtain ⟨f, fd, F, r⟩ := O.ex
  exact ⟨f, fd, F.mono h, r⟩
section
variable {X : Cx} {k n : Nat} {x : Str} {ps ks : List Str} {dvs : List V} {is : List Nat} {sp : Sp} {e : Expr} {es : List Expr} {t tk : L2.TA} {p pos : Pos} {kws : List Keyword}
theorem pe_ownD (O : OwnD X.prog X.w X.K X.mg X.base k x ps dvs sp) (hr : Room k X.A) (hg : Gl X x) (ha : PA X (e :: es) t) (hdb : (x == ("__debug__" : Str)) = false := by decide)
    (he : starEach (e :: es) X.env = (false, eval e X.env) :: starEach es X.env := by rfl) (hpl : (backTo pos (starEach es X.env)).any (·.1) = false := by rfl) :
    PE X (.Call (.Name x p) (e :: es) [] pos) (tCall sp dvs E0 t) := by
  obtain ⟨f, fd, ds, F, gm, kp, rv, hb⟩ := O.ex
  exact pe_call F hr hg gm kp hb rv pass0 ha hdb he hpl
end
end Lg

/-! Where moments fit there is no knot; the cases of the knots' laws. -/
namespace Lg
open PySem PySem.Spec PyProof.Rows L2 L2N
theorem filter_self {M : List Int} : M.filter (fun p => decide (p ∈ M)) = M := List.filter_eq_self.mpr fun p hp => decide_eq_true hp
/-- a case of the knots' laws: a net made, its lists, the crowns -/
def CaseK (S : Av) (K : PySem.W.Frag) (H : Hp) (v : V) : Prop := ∃ (c o : Addr) (x y : V) (As : List (Int × Int)) (Ls Ls' Ms : List (Int × Str)) (P : List Int) (root : Int) (crs : List (List Int)),
  v = .ref c ∧ ¬ S c ∧ H c = some (.lst [.ref o, x, y]) ∧ NetAt S K H o As Ls' Ms P root ∧ Da S H x (netD As Ls) ∧ Da S H y (crnD crs) ∧ (∀ cr ∈ crs, Crn As cr) ∧ crs.length ≤ 4 ∧ Good As Ls P ∧ SrtA As As ∧ SrtL Ls Ms ∧ Ls'.Perm Ls
theorem CaseK.keep {S : Av} {K : PySem.W.Frag} {s : Addr} {H H' : Hp} {v : V} (h : CaseK S K H v) (k : Keep s H H') (hs : S s) : CaseK S K H' v := by
  obtain ⟨c, o, x, y, As, Ls, Ls', Ms, P, root, crs, rfl, nc, ec, hN, hx, hy, h1, h2, g, hB, hL, hp⟩ := h
  exact ⟨c, o, x, y, As, Ls, Ls', Ms, P, root, crs, rfl, nc, k _ _ (fun z => nc (z ▸ hs)) ec, hN.go fun b u hb e => ⟨hb, k _ _ (fun z => hb (by rw [z]; exact hs)) e⟩, hx.keep k hs, hy.keep k hs, h1, h2, g, hB, hL, hp⟩
theorem CaseK.go {S : Av} {K : PySem.W.Frag} {H H' : Hp} {v : V} (h : CaseK S K H v) (k : ∀ b o, ¬ S b → H b = some o → H' b = some o) : CaseK S K H' v := by
  obtain ⟨c, o, x, y, As, Ls, Ls', Ms, P, root, crs, rfl, nc, ec, hN, hx, hy, h1, h2, g, hB, hL, hp⟩ := h
  exact ⟨c, o, x, y, As, Ls, Ls', Ms, P, root, crs, rfl, nc, k _ _ nc ec, hN.go fun b u hb e => ⟨hb, k _ _ hb e⟩, hx.go fun b u hb e => ⟨hb, k _ _ hb e⟩, hy.go fun b u hb e => ⟨hb, k _ _ hb e⟩, h1, h2, g, hB, hL, hp⟩
end Lg

/-! The core of a knot. -/
namespace Lg
open PySem PySem.Spec PyProof.Rows L2 L2N
def coreL (Bs : List (Int × Int)) (M : List Int) : List Int := (knot Bs M).foldl (coreS Bs) (knot Bs M)
section
variable {Bs : List (Int × Int)}
theorem coreS_sub {C : List Int} {p : Int} : (coreS Bs C p).Sublist C := by
  unfold coreS
  by_cases h : p ∈ C
  · rw [if_pos h]
    by_cases e : knot Bs (C.filter fun x => decide (x ≠ p)) = []
    · rw [if_pos e]
      exact .refl _
    · rw [if_neg e]
      exact knot_sub.trans List.filter_sublist
  · rw [if_neg h]
    exact .refl _
theorem coreS_kn {C : List Int} {p : Int} (k : Kn Bs C) : Kn Bs (coreS Bs C p) := by
  unfold coreS
  by_cases h : p ∈ C
  · rw [if_pos h]
    by_cases e : knot Bs (C.filter fun x => decide (x ≠ p)) = []
    · rw [if_pos e]
      exact k
    · rw [if_neg e]
      exact knot_kn
  · rw [if_neg h]
    exact k
theorem coreS_ne {C : List Int} {p : Int} (k : C ≠ []) : coreS Bs C p ≠ [] := by
  unfold coreS
  by_cases h : p ∈ C
  · rw [if_pos h]
    by_cases e : knot Bs (C.filter fun x => decide (x ≠ p)) = []
    · rw [if_pos e]
      exact k
    · rw [if_neg e]
      exact e
  · rw [if_neg h]
    exact k
theorem fold_sub : ∀ {L C : List Int}, (L.foldl (coreS Bs) C).Sublist C
  | [], _ => .refl _
  | _ :: L, _ => (fold_sub (L := L)).trans coreS_sub
theorem fold_kn : ∀ {L C : List Int}, Kn Bs C → Kn Bs (L.foldl (coreS Bs) C)
  | [], _, k => k
  | _ :: L, _, k => fold_kn (L := L) (coreS_kn k)
theorem fold_ne : ∀ {L C : List Int}, C ≠ [] → L.foldl (coreS Bs) C ≠ []
  | [], _, k => k
  | _ :: L, _, k => fold_ne (L := L) (coreS_ne k)
theorem knot_mono {M M' : List Int} (h : ∀ p ∈ M, p ∈ M') : ∀ p ∈ knot Bs M, p ∈ knot Bs M' := knot_max knot_kn fun p hp => h p (knot_sub.subset hp)
theorem fold_min : ∀ {L C : List Int} {p : Int}, p ∈ L → p ∈ L.foldl (coreS Bs) C → knot Bs ((L.foldl (coreS Bs) C).filter fun x => decide (x ≠ p)) = []
  | q :: L, C, p, hp, hf => by
    rcases List.mem_cons.mp hp with rfl | hp
    · have h1 : p ∈ coreS Bs C p := (fold_sub (L := L)).subset hf
      have h2 : p ∈ C := coreS_sub.subset h1
      have e : knot Bs (C.filter fun x => decide (x ≠ p)) = [] := Classical.byContradiction fun ne => by
        unfold coreS at h1
        rw [if_pos h2, if_neg ne] at h1
        have := (List.mem_filter.mp (knot_sub.subset h1)).2
        simp at this
      refine List.eq_nil_iff_forall_not_mem.mpr fun x hx => ?_
      have := knot_mono (Bs := Bs) (M' := C.filter fun x => decide (x ≠ p)) (fun y hy => by
        obtain ⟨a1, a2⟩ := List.mem_filter.mp hy
        exact List.mem_filter.mpr ⟨coreS_sub.subset ((fold_sub (L := L)).subset a1), a2⟩) x hx
      rw [e] at this
      cases this
    · exact fold_min (L := L) hp hf
theorem coreL_sub {M : List Int} : (coreL Bs M).Sublist (knot Bs M) := fold_sub
theorem coreL_kn {M : List Int} : Kn Bs (coreL Bs M) := fold_kn knot_kn
theorem coreL_ne {M : List Int} (h : knot Bs M ≠ []) : coreL Bs M ≠ [] := fold_ne h
theorem coreL_min {M : List Int} {p : Int} (h : p ∈ coreL Bs M) : knot Bs ((coreL Bs M).filter fun x => decide (x ≠ p)) = [] := fold_min (coreL_sub.subset h) h
theorem knot_self {M : List Int} (h : Kn Bs M) : knot Bs M = M := peel_fix (List.filter_eq_self.mpr h) _
theorem fold_snoc {L C : List Int} {i : Nat} {p : Int} (h : L[i]? = some p) : (L.take (i + 1)).foldl (coreS Bs) C = coreS Bs ((L.take i).foldl (coreS Bs) C) p := by
  rw [← take_snoc h, List.foldl_append]
  rfl
end
theorem truL {K : PySem.W.Frag} {H : Hp} {a : Addr} {xs : List V} (e : H a = some (.lst xs)) : TruV K (.ref a) H (!xs.isEmpty) := by
  exact .inl ⟨xs, .of e, rfl⟩
end Lg

/-! The head of a law with tables: a hook that also asks a test of one's own. -/
namespace Lg
open PySem PySem.Spec PyProof.Rows L2 He
section
variable {fa : List Fa} {fn : List DefD} {ts : List Tab} {ps : List DefP} {ck : PySem.W.Frag → Bool} {w : World} {K : PySem.W.Frag}
theorem SaysX.t (c : SaysX fa fn ts ps ck w K) : SaysT fa fn ts w K := congrArg (fun z : AlX => z.1) c
theorem SaysX.test (c : SaysX fa fn ts ps ck w K) : ck K = true := (Bool.and_eq_true_iff.mp (show ((ps.all fun d => d.ok K) && ck K) = true from congrArg (fun z : AlX => z.2.2) c)).2
theorem DefP.prop_ {d : DefP} (e : fnWA K (gAd K d.cls d.prop) = d.val) (c : d.ok K = true) : (∃ fd, FunD K d.name d.qual d.params d.body d.scope [] [] (gAd K d.cls d.prop) fd) ∧ PropOf K (ga K d.cls) d.prop (ma K (ga K d.cls) d.prop) (gAd K d.cls d.prop) := by
  obtain ⟨c1, c⟩ := ba c
  obtain ⟨c2, c⟩ := ba c
  obtain ⟨c3, c⟩ := ba c
  obtain ⟨c4, c⟩ := ba c
  obtain ⟨kp, c2'⟩ := ba c
  refine ⟨?_, eqO_ok c1, eqO_ok c2, of_decide_eq_true c3, ?_⟩
  · clear c1 c2 c3 c4
    generalize gAd K d.cls d.prop = G at e kp c2'
    unfold fnWA at e
    cases q : K.lookup G with
    | none =>
      rw [q] at c2'
      cases c2'
    | some o =>
      obtain ⟨oc, od, dt, osl⟩ := o
      rw [q] at c2' e
      cases dt with
      | func fd =>
        obtain ⟨n1, n2, n3, n4, n5, n6, n7, n8, n9, n10, n11, n12, n13, n14, n15⟩ := fd
        have e2 : (some (n1, n2, n3, n4, n5, n6, n7, n15) : FnW) = some (d.name, d.qual, d.params, .stmts d.body, d.scope, mainGlobals, [], builtinsNs) := e
        simp only [Option.some.injEq, Prod.mk.injEq] at e2
        obtain ⟨h1, h2, h3, h4, h5, h6, h7, h8⟩ := e2
        subst h1 h2 h3 h4 h5 h6 h7 h8
        have c3 : (PySem.W.codeIn K n13 d.qual && (dflB K n8 [] && kwdB K n9 [])) = true := c2'
        obtain ⟨k1, k2⟩ := ba c3
        obtain ⟨k3, k4⟩ := ba k2
        exact ⟨_, ⟨oc, od, n8, n9, n10, n11, n12, n13, n14, osl, rfl, q, k1, dflB_ok k3, kwdB_ok k4⟩, kp⟩
      | _ => cases c2'
  · unfold gAd
    cases q : PySem.W.recIn K (ma K (ga K d.cls) d.prop) "property" with
    | none => rw [q] at c4; cases c4
    | some l =>
      rw [q] at c4
      cases l with
      | nil => cases c4
      | cons v r =>
        cases v with
        | ref g => exact ⟨r, rfl⟩
        | _ => cases c4
theorem SaysX.prop (c : SaysX fa fn ts ps ck w K) (i : Nat) {d : DefP} (h : ps[i]? = some d := by rfl) : (∃ fd, FunD K d.name d.qual d.params d.body d.scope [] [] (gAd K d.cls d.prop) fd) ∧ PropOf K (ga K d.cls) d.prop (ma K (ga K d.cls) d.prop) (gAd K d.cls d.prop) := by
  have e : ps.map (fun d => fnWA K (gAd K d.cls d.prop)) = ps.map DefP.val := congrArg (fun z : AlX => z.2.1) c
  have e2 : (ps.map fun d => fnWA K (gAd K d.cls d.prop))[i]? = (ps.map DefP.val)[i]? := by rw [e]
  rw [List.getElem?_map, List.getElem?_map, h] at e2
  have c2 := (Bool.and_eq_true_iff.mp (show ((ps.all fun d => d.ok K) && ck K) = true from congrArg (fun z : AlX => z.2.2) c)).1
  exact DefP.prop_ (Option.some.inj e2) (List.all_eq_true.mp c2 d (List.mem_of_getElem? h))
/-- a table's keys -/
theorem SaysX.keys (c : SaysX fa fn ts ps ck w K) (i : Nat) {t : Tab} (h : ts[i]? = some t := by rfl) : dicW K (t.1 K) = some (keysIn w.params t.2) := by
  have e : ts.map (fun t => dicW K (t.1 K)) = ts.map fun t => some (keysIn w.params t.2) := congrArg (fun z : AlT => z.2) (congrArg (fun z : AlX => z.1) c)
  have e2 : (ts.map fun t => dicW K (t.1 K))[i]? = (ts.map fun t => some (keysIn w.params t.2))[i]? := by rw [e]
  rw [List.getElem?_map, List.getElem?_map, h] at e2
  exact Option.some.inj e2
end
theorem dicW_keys {K : PySem.W.Frag} {w : World} {a : Addr} {ks : List Str} (h : dicW K a = some (keysIn w.params ks)) : ∃ es n, K.lookup a = some ⟨.type "dict", none, .dict es n, #[]⟩ ∧ es.toList.map He.keyOf = keysIn w.params ks ∧ (a == sysModules) = false := by
  unfold dicW at h
  cases q : K.lookup a with
  | none => rw [q] at h; cases h
  | some o =>
    obtain ⟨oc, od, dt, osl⟩ := o
    rw [q] at h
    cases oc with
    | type c =>
      cases od with
      | none =>
        cases dt with
        | dict es n =>
          have h1 : (match decide (c = "dict") && (osl.isEmpty && !(a == sysModules)) with
            | true => some (es.toList.map keyOf)
            | false => none) = some (keysIn w.params ks) := h
          cases z : decide (c = "dict") && (osl.isEmpty && !(a == sysModules)) with
          | false => rw [z] at h1; cases h1
          | true =>
            rw [z] at h1
            obtain ⟨z1, z2⟩ := Bool.and_eq_true_iff.mp z
            obtain ⟨z3, z4⟩ := Bool.and_eq_true_iff.mp z2
            obtain rfl : c = "dict" := of_decide_eq_true z1
            obtain rfl : osl = #[] := Array.isEmpty_iff.mp z3
            exact ⟨es, n, rfl, Option.some.inj h1, by simpa using z4⟩
        | _ => cases h
      | some b => cases dt <;> cases h
    | _ => cases od <;> cases dt <;> cases h
theorem ktab_of {K : PySem.W.Frag} {w : World} {a : Addr} {ks : List Str} (h : dicW K a = some (keysIn w.params ks)) (nd : ks.Nodup) : KTab K w a ks :=
  let ⟨es, n, h1, h2, h3⟩ := dicW_keys h
  ⟨⟨es, n, h1, h2⟩, h3, nd⟩
theorem kdct_of {K : PySem.W.Frag} {w : World} {a : Addr} {ks : List Str} (h : dicW K a = some (keysIn w.params ks)) {kvs : List (Str × Dv)} (hv : valsB K a kvs = true) {q : Str × Dv} (hq : q ∈ kvs) : KDct K w a q.1 (q.2.v K) := by
  obtain ⟨es, n, h1, h2, _⟩ := dicW_keys h
  obtain ⟨u, hu, r⟩ := valsB_ok hv hq
  exact ⟨es, n, u, h1, keysLit_of h2, hu, r⟩
end Lg

namespace Pf
open PySem PySem.Spec PyProof.Rows L2
open Lg
local macro_rules | `(tactic| walk_at "gs") => `(tactic| first | rfl | assumption | (apply And.intro) | (apply Exists.intro) | (exact upd_same) | (exact SqL.of (by assumption)) | (exact SqL.of upd_same) | (exact (show (0 : Int) < _ from by decide)) | (exact Or.inr ⟨by decide, by decide⟩) | (exact Or.inl ⟨by decide, by decide⟩) | decide | (exact line_le (Nat.le_of_ble_eq_true rfl)) | (refine Or.inl ?_))
local macro_rules | `(tactic| walk_at "go") => `(tactic| repeat' (walk_at "gs"))
theorem sc_is_name : FnScope ["value", "sign"] ["value"] (defScope s_is_name) := ⟨rfl, rfl, rfl, by decide +kernel, rfl, by decide +kernel, by decide +kernel⟩
theorem sc_is_whole : FnScope ["value"] ["value"] (defScope s_is_whole) := ⟨rfl, rfl, rfl, by decide +kernel, rfl, by decide +kernel, by decide +kernel⟩
theorem sc_is_place : FnScope ["value"] ["value"] (defScope s_is_place) := ⟨rfl, rfl, rfl, by decide +kernel, rfl, by decide +kernel, by decide +kernel⟩
theorem sc_is_place_pair : FnScope ["value"] ["value"] (defScope s_is_place_pair) := ⟨rfl, rfl, rfl, by decide +kernel, rfl, by decide +kernel, by decide +kernel⟩
theorem sc_is_labelled_place : FnScope ["value"] ["value"] (defScope s_is_labelled_place) := ⟨rfl, rfl, rfl, by decide +kernel, rfl, by decide +kernel, by decide +kernel⟩
theorem sc_all_places : FnScope ["arrows", "leaves", "ends", "arrow", "end", "leaf"] ["arrows", "leaves"] (defScope s_all_places) := ⟨rfl, rfl, rfl, by decide +kernel, rfl, by decide +kernel, by decide +kernel⟩
theorem sc_relatives : FnScope ["arrows", "leaves", "places", "mothers", "children", "mother", "child", "place"] ["arrows", "leaves"] (defScope s_relatives) := ⟨rfl, rfl, rfl, by decide +kernel, rfl, by decide +kernel, by decide +kernel⟩
theorem sc_places_below : FnScope ["place", "children", "found", "waiting", "lower"] ["place", "children"] (defScope s_places_below) := ⟨rfl, rfl, rfl, by decide +kernel, rfl, by decide +kernel, by decide +kernel⟩
theorem sc_long_lists : FnScope ["arrows", "leaves", "lengths", "at", "length", "most"] ["arrows", "leaves"] (defScope s_long_lists) := ⟨rfl, rfl, rfl, by decide +kernel, rfl, by decide +kernel, by decide +kernel⟩
theorem sc_bad_arrows : FnScope ["arrows", "leaves", "at", "arrow"] ["arrows", "leaves"] (defScope s_bad_arrows) := ⟨rfl, rfl, rfl, by decide +kernel, rfl, by decide +kernel, by decide +kernel⟩
theorem sc_bad_leaves : FnScope ["arrows", "leaves", "at", "leaf"] ["arrows", "leaves"] (defScope s_bad_leaves) := ⟨rfl, rfl, rfl, by decide +kernel, rfl, by decide +kernel, by decide +kernel⟩
theorem sc_bad_names : FnScope ["arrows", "leaves", "at", "leaf"] ["arrows", "leaves"] (defScope s_bad_names) := ⟨rfl, rfl, rfl, by decide +kernel, rfl, by decide +kernel, by decide +kernel⟩
theorem sc_leaves_again : FnScope ["arrows", "leaves", "places", "names", "leaf", "at"] ["arrows", "leaves"] (defScope s_leaves_again) := ⟨rfl, rfl, rfl, by decide +kernel, rfl, by decide +kernel, by decide +kernel⟩
theorem sc_arrows_again : FnScope ["arrows", "leaves", "at", "arrow"] ["arrows", "leaves"] (defScope s_arrows_again) := ⟨rfl, rfl, rfl, by decide +kernel, rfl, by decide +kernel, by decide +kernel⟩
theorem sc_no_leaves : FnScope ["arrows", "leaves"] ["arrows", "leaves"] (defScope s_no_leaves) := ⟨rfl, rfl, rfl, by decide +kernel, rfl, by decide +kernel, by decide +kernel⟩
theorem sc_bad_degrees : FnScope ["mothers", "children", "labelled", "place"] ["mothers", "children", "labelled"] (defScope s_bad_degrees) := ⟨rfl, rfl, rfl, by decide +kernel, rfl, by decide +kernel, by decide +kernel⟩
theorem sc_bad_roots : FnScope ["mothers", "children", "labelled", "roots", "place"] ["mothers", "children", "labelled"] (defScope s_bad_roots) := ⟨rfl, rfl, rfl, by decide +kernel, rfl, by decide +kernel, by decide +kernel⟩
theorem sc_ring_places : FnScope ["mothers", "children", "labelled", "place"] ["mothers", "children", "labelled"] (defScope s_ring_places) := ⟨rfl, rfl, rfl, by decide +kernel, rfl, by decide +kernel, by decide +kernel⟩
theorem sc_bad_labels : FnScope ["mothers", "children", "labelled", "place"] ["mothers", "children", "labelled"] (defScope s_bad_labels) := ⟨rfl, rfl, rfl, by decide +kernel, rfl, by decide +kernel, by decide +kernel⟩
theorem sc_too_many_mixings : FnScope ["mothers", "children", "labelled", "many", "place"] ["mothers", "children", "labelled"] (defScope s_too_many_mixings) := ⟨rfl, rfl, rfl, by decide +kernel, rfl, by decide +kernel, by decide +kernel⟩
theorem sc_first_fault : FnScope ["finders", "given", "word", "finder", "found"] ["finders", "given"] (defScope s_first_fault) := ⟨rfl, rfl, rfl, by decide +kernel, rfl, by decide +kernel, by decide +kernel⟩
theorem sc_net_fault : FnScope ["arrows", "leaves", "fault", "mothers", "children", "leaf"] ["arrows", "leaves"] (defScope s_net_fault) := ⟨rfl, rfl, rfl, by decide +kernel, rfl, by decide +kernel, by decide +kernel⟩
theorem sc_split_child : FnScope ["net", "members", "place", "child"] ["net", "members", "place"] (defScope s_split_child) := ⟨rfl, rfl, rfl, by decide +kernel, rfl, by decide +kernel, by decide +kernel⟩
theorem sc_member_below_mixing : FnScope ["net", "members", "place", "between", "child", "mixing", "lower"] ["net", "members", "place"] (defScope s_member_below_mixing) := ⟨rfl, rfl, rfl, by decide +kernel, rfl, by decide +kernel, by decide +kernel⟩
theorem sc_mixing_children : FnScope ["net", "members", "place", "child"] ["net", "members", "place"] (defScope s_mixing_children) := ⟨rfl, rfl, rfl, by decide +kernel, rfl, by decide +kernel, by decide +kernel⟩
theorem sc_member_child : FnScope ["net", "members", "place"] ["net", "members", "place"] (defScope s_member_child) := ⟨rfl, rfl, rfl, by decide +kernel, rfl, by decide +kernel, by decide +kernel⟩
theorem sc_bound_mothers : FnScope ["net", "members", "place", "beside", "mother", "child"] ["net", "members", "place"] (defScope s_bound_mothers) := ⟨rfl, rfl, rfl, by decide +kernel, rfl, by decide +kernel, by decide +kernel⟩
theorem sc_greatest_knot : FnScope ["net", "members", "inner", "place"] ["net", "members"] (defScope s_greatest_knot) := ⟨rfl, rfl, rfl, by decide +kernel, rfl, by decide +kernel, by decide +kernel⟩
theorem sc_knot_core : FnScope ["net", "knot", "core", "place", "smaller", "member"] ["net"] (defScope s_knot_core) := ⟨rfl, rfl, rfl, by decide +kernel, rfl, by decide +kernel, by decide +kernel⟩
theorem sc_demand_inner : FnScope ["net", "places", "inner", "place"] ["net", "places"] (defScope s_demand_inner) := ⟨rfl, rfl, rfl, by decide +kernel, rfl, by decide +kernel, by decide +kernel⟩
theorem sc_rule : FnScope ["net", "members", "place", "rules", "word", "holds"] ["net", "members", "place"] (defScope s_rule) := ⟨rfl, rfl, rfl, by decide +kernel, rfl, by decide +kernel, by decide +kernel⟩
theorem sc_held : FnScope ["net", "members", "place"] ["net", "members"] (defScope s_held) := ⟨rfl, rfl, rfl, by decide +kernel, rfl, by decide +kernel, by decide +kernel⟩
theorem sc_greatest_part : FnScope ["net", "members", "held"] ["net", "members"] (defScope s_greatest_part) := ⟨rfl, rfl, rfl, by decide +kernel, rfl, by decide +kernel, by decide +kernel⟩
theorem sc_Net___init : FnScope ["self", "arrows", "leaves", "fault", "word", "at", "mothers", "children", "place", "name"] ["self", "arrows", "leaves"] (defScope s_Net___init) := ⟨rfl, rfl, rfl, by decide +kernel, rfl, by decide +kernel, by decide +kernel⟩
theorem sc_Net_places : FnScope ["self"] ["self"] (defScope s_Net_places) := ⟨rfl, rfl, rfl, by decide +kernel, rfl, by decide +kernel, by decide +kernel⟩
theorem sc_Net_inner : FnScope ["self", "place"] ["self"] (defScope s_Net_inner) := ⟨rfl, rfl, rfl, by decide +kernel, rfl, by decide +kernel, by decide +kernel⟩
theorem sc_Net_splits : FnScope ["self", "place"] ["self"] (defScope s_Net_splits) := ⟨rfl, rfl, rfl, by decide +kernel, rfl, by decide +kernel, by decide +kernel⟩
theorem sc_Net_mixings : FnScope ["self", "place"] ["self"] (defScope s_Net_mixings) := ⟨rfl, rfl, rfl, by decide +kernel, rfl, by decide +kernel, by decide +kernel⟩
theorem sc_Net_arrows : FnScope ["self"] ["self"] (defScope s_Net_arrows) := ⟨rfl, rfl, rfl, by decide +kernel, rfl, by decide +kernel, by decide +kernel⟩
theorem sc_Net_leaves : FnScope ["self"] ["self"] (defScope s_Net_leaves) := ⟨rfl, rfl, rfl, by decide +kernel, rfl, by decide +kernel, by decide +kernel⟩
theorem sc_Net_names : FnScope ["self"] ["self"] (defScope s_Net_names) := ⟨rfl, rfl, rfl, by decide +kernel, rfl, by decide +kernel, by decide +kernel⟩
theorem sc_Net_mothers : FnScope ["self", "place"] ["self", "place"] (defScope s_Net_mothers) := ⟨rfl, rfl, rfl, by decide +kernel, rfl, by decide +kernel, by decide +kernel⟩
theorem sc_Net_children : FnScope ["self", "place"] ["self", "place"] (defScope s_Net_children) := ⟨rfl, rfl, rfl, by decide +kernel, rfl, by decide +kernel, by decide +kernel⟩
theorem sc_Net_kind_of : FnScope ["self", "place"] ["self", "place"] (defScope s_Net_kind_of) := ⟨rfl, rfl, rfl, by decide +kernel, rfl, by decide +kernel, by decide +kernel⟩
theorem sc_Net___eq : FnScope ["self", "other"] ["self", "other"] (defScope s_Net___eq) := ⟨rfl, rfl, rfl, by decide +kernel, rfl, by decide +kernel, by decide +kernel⟩
theorem sc_Net___contains : FnScope ["self", "x"] ["self", "x"] (defScope s_Net___contains) := ⟨rfl, rfl, rfl, by decide +kernel, rfl, by decide +kernel, by decide +kernel⟩
theorem sc_Net__demand : FnScope ["self", "place"] ["self", "place"] (defScope s_Net__demand) := ⟨rfl, rfl, rfl, by decide +kernel, rfl, by decide +kernel, by decide +kernel⟩
theorem sc_law_mix : FnScope ["cell", "turn", "one"] ["cell", "turn"] (defScope s_law_mix) := ⟨rfl, rfl, rfl, by decide +kernel, rfl, by decide +kernel, by decide +kernel⟩
theorem sc_law_store : FnScope ["script", "cell", "cells", "seed"] ["script"] (defScope s_law_store) := ⟨rfl, rfl, rfl, by decide +kernel, rfl, by decide +kernel, by decide +kernel⟩
theorem sc_law_take : FnScope ["store", "many", "cell", "given"] ["store", "many"] (defScope s_law_take) := ⟨rfl, rfl, rfl, by decide +kernel, rfl, by decide +kernel, by decide +kernel⟩
theorem sc_law_pick : FnScope ["store", "things"] ["store", "things"] (defScope s_law_pick) := ⟨rfl, rfl, rfl, by decide +kernel, rfl, by decide +kernel, by decide +kernel⟩
theorem sc_law_same : FnScope ["given", "due", "k"] ["given", "due"] (defScope s_law_same) := ⟨rfl, rfl, rfl, by decide +kernel, rfl, by decide +kernel, by decide +kernel⟩
theorem sc_law_rising : FnScope ["things", "k"] ["things"] (defScope s_law_rising) := ⟨rfl, rfl, rfl, by decide +kernel, rfl, by decide +kernel, by decide +kernel⟩
theorem sc_law_all : FnScope ["net", "out", "leaf", "arrow"] ["net"] (defScope s_law_all) := ⟨rfl, rfl, rfl, by decide +kernel, rfl, by decide +kernel, by decide +kernel⟩
theorem sc_law_ups : FnScope ["net", "ups", "place", "arrow"] ["net"] (defScope s_law_ups) := ⟨rfl, rfl, rfl, by decide +kernel, rfl, by decide +kernel, by decide +kernel⟩
theorem sc_law_downs : FnScope ["net", "downs", "place", "arrow"] ["net"] (defScope s_law_downs) := ⟨rfl, rfl, rfl, by decide +kernel, rfl, by decide +kernel, by decide +kernel⟩
theorem sc_law_inner : FnScope ["net", "many", "downs", "place"] ["net", "many"] (defScope s_law_inner) := ⟨rfl, rfl, rfl, by decide +kernel, rfl, by decide +kernel, by decide +kernel⟩
theorem sc_law_is_net : FnScope ["given", "net"] ["given", "net"] (defScope s_law_is_net) := ⟨rfl, rfl, rfl, by decide +kernel, rfl, by decide +kernel, by decide +kernel⟩
theorem sc_law_rule : FnScope ["ups", "downs", "held", "at", "kids", "kid", "mother"] ["ups", "downs", "held", "at"] (defScope s_law_rule) := ⟨rfl, rfl, rfl, by decide +kernel, rfl, by decide +kernel, by decide +kernel⟩
theorem sc_law_spots : FnScope ["store", "many", "room", "base", "out", "turn", "number", "step"] ["store", "many"] (defScope s_law_spots) := ⟨rfl, rfl, rfl, by decide +kernel, rfl, by decide +kernel, by decide +kernel⟩
theorem sc_law_named : FnScope ["store", "many", "stem", "front", "out", "turn", "name", "step", "k"] ["store", "many"] (defScope s_law_named) := ⟨rfl, rfl, rfl, by decide +kernel, rfl, by decide +kernel, by decide +kernel⟩
theorem sc_law_size : FnScope ["store", "how"] ["store"] (defScope s_law_size) := ⟨rfl, rfl, rfl, by decide +kernel, rfl, by decide +kernel, by decide +kernel⟩
theorem sc_law_woven : FnScope ["store", "names", "mixings", "spots", "leaves", "lines", "arrows", "crowned", "turn", "how", "twin", "end", "new", "other", "others", "k", "leaf", "line"] ["store", "names", "mixings"] (defScope s_law_woven) := ⟨rfl, rfl, rfl, by decide +kernel, rfl, by decide +kernel, by decide +kernel⟩
theorem sc_law_tangled : FnScope ["store", "size", "mixings"] ["store"] (defScope s_law_tangled) := ⟨rfl, rfl, rfl, by decide +kernel, rfl, by decide +kernel, by decide +kernel⟩
theorem sc_law_peeled : FnScope ["net", "begin", "ups", "downs", "held", "turn", "before", "at"] ["net", "begin"] (defScope s_law_peeled) := ⟨rfl, rfl, rfl, by decide +kernel, rfl, by decide +kernel, by decide +kernel⟩
theorem sc_law_core : FnScope ["net", "left", "place", "less", "at"] ["net"] (defScope s_law_core) := ⟨rfl, rfl, rfl, by decide +kernel, rfl, by decide +kernel, by decide +kernel⟩
theorem sc_law_is_core : FnScope ["net", "told", "place", "at"] ["net", "told"] (defScope s_law_is_core) := ⟨rfl, rfl, rfl, by decide +kernel, rfl, by decide +kernel, by decide +kernel⟩
theorem sc_law_holds : FnScope ["made", "net", "crowned", "due", "told"] ["made", "net", "crowned"] (defScope s_law_holds) := ⟨rfl, rfl, rfl, by decide +kernel, rfl, by decide +kernel, by decide +kernel⟩
theorem sc_law : FnScope ["script", "store", "cases", "turn", "drawn", "case"] ["script"] (defScope s_law) := ⟨rfl, rfl, rfl, by decide +kernel, rfl, by decide +kernel, by decide +kernel⟩
structure Txt (w : World) (K : PySem.W.Frag) (mg : Str → Option Value) : Prop where
  len : mg "len" = none
  LONGEST_NAME : ∃ t, mg "LONGEST_NAME" = some (.int 8 t)
  isinstance : mg "isinstance" = none
  str : mg "str" = none
  all : mg "all" = none
  LETTERS : ∃ t, mg "LETTERS" = some (.str "abcdefghijklmnopqrstuvwxyz" t)
  DIGITS : ∃ t, mg "DIGITS" = some (.str "0123456789" t)
  bool : mg "bool" = none
  int : mg "int" = none
  LAST_PLACE : ∃ t, mg "LAST_PLACE" = some (.int 9999 t)
  tuple : mg "tuple" = none
  sorted : mg "sorted" = none
  set : mg "set" = none
  list : mg "list" = none
  MOST_LEAVES : ∃ t, mg "MOST_LEAVES" = some (.int 12 t)
  MOST_ARROWS : ∃ t, mg "MOST_ARROWS" = some (.int 46 t)
  enumerate : mg "enumerate" = none
  range : mg "range" = none
  DEGREES : mg "DEGREES" = some (.ref (He.ga K "DEGREES")) ∧ TupD K (He.ga K "DEGREES") [[0, 0], [0, 2], [1, 2], [2, 1], [1, 0]]
  MOST_MIXINGS : ∃ t, mg "MOST_MIXINGS" = some (.int 8 t)
  LIST_FAULTS : mg "LIST_FAULTS" = some (.ref (He.ga K "LIST_FAULTS")) ∧ KTab K w (He.ga K "LIST_FAULTS") ["long", "arrow", "leaf", "name", "again", "double", "none"] ∧ KVals K (He.ga K "LIST_FAULTS") [He.ga K "_long_lists", He.ga K "_bad_arrows", He.ga K "_bad_leaves", He.ga K "_bad_names", He.ga K "_leaves_again", He.ga K "_arrows_again", He.ga K "_no_leaves"] ∧ KDct K w (He.ga K "LIST_FAULTS") "long" (.ref (He.ga K "_long_lists")) ∧ mg "_long_lists" = some (.ref (He.ga K "_long_lists")) ∧ KDct K w (He.ga K "LIST_FAULTS") "arrow" (.ref (He.ga K "_bad_arrows")) ∧ mg "_bad_arrows" = some (.ref (He.ga K "_bad_arrows")) ∧ KDct K w (He.ga K "LIST_FAULTS") "leaf" (.ref (He.ga K "_bad_leaves")) ∧ mg "_bad_leaves" = some (.ref (He.ga K "_bad_leaves")) ∧ KDct K w (He.ga K "LIST_FAULTS") "name" (.ref (He.ga K "_bad_names")) ∧ mg "_bad_names" = some (.ref (He.ga K "_bad_names")) ∧ KDct K w (He.ga K "LIST_FAULTS") "again" (.ref (He.ga K "_leaves_again")) ∧ mg "_leaves_again" = some (.ref (He.ga K "_leaves_again")) ∧ KDct K w (He.ga K "LIST_FAULTS") "double" (.ref (He.ga K "_arrows_again")) ∧ mg "_arrows_again" = some (.ref (He.ga K "_arrows_again")) ∧ KDct K w (He.ga K "LIST_FAULTS") "none" (.ref (He.ga K "_no_leaves")) ∧ mg "_no_leaves" = some (.ref (He.ga K "_no_leaves"))
  PLACE_FAULTS : mg "PLACE_FAULTS" = some (.ref (He.ga K "PLACE_FAULTS")) ∧ KTab K w (He.ga K "PLACE_FAULTS") ["degree", "roots", "ring", "label", "mixings"] ∧ KVals K (He.ga K "PLACE_FAULTS") [He.ga K "_bad_degrees", He.ga K "_bad_roots", He.ga K "_ring_places", He.ga K "_bad_labels", He.ga K "_too_many_mixings"] ∧ KDct K w (He.ga K "PLACE_FAULTS") "degree" (.ref (He.ga K "_bad_degrees")) ∧ mg "_bad_degrees" = some (.ref (He.ga K "_bad_degrees")) ∧ KDct K w (He.ga K "PLACE_FAULTS") "roots" (.ref (He.ga K "_bad_roots")) ∧ mg "_bad_roots" = some (.ref (He.ga K "_bad_roots")) ∧ KDct K w (He.ga K "PLACE_FAULTS") "ring" (.ref (He.ga K "_ring_places")) ∧ mg "_ring_places" = some (.ref (He.ga K "_ring_places")) ∧ KDct K w (He.ga K "PLACE_FAULTS") "label" (.ref (He.ga K "_bad_labels")) ∧ mg "_bad_labels" = some (.ref (He.ga K "_bad_labels")) ∧ KDct K w (He.ga K "PLACE_FAULTS") "mixings" (.ref (He.ga K "_too_many_mixings")) ∧ mg "_too_many_mixings" = some (.ref (He.ga K "_too_many_mixings"))
  dict : mg "dict" = none
  any : mg "any" = none
  RULES : mg "RULES" = some (.ref (He.ga K "RULES")) ∧ KTab K w (He.ga K "RULES") ["split", "below", "mixings", "child", "mothers"] ∧ KVals K (He.ga K "RULES") [He.ga K "_split_child", He.ga K "_member_below_mixing", He.ga K "_mixing_children", He.ga K "_member_child", He.ga K "_bound_mothers"] ∧ KDct K w (He.ga K "RULES") "split" (.ref (He.ga K "_split_child")) ∧ mg "_split_child" = some (.ref (He.ga K "_split_child")) ∧ KDct K w (He.ga K "RULES") "below" (.ref (He.ga K "_member_below_mixing")) ∧ mg "_member_below_mixing" = some (.ref (He.ga K "_member_below_mixing")) ∧ KDct K w (He.ga K "RULES") "mixings" (.ref (He.ga K "_mixing_children")) ∧ mg "_mixing_children" = some (.ref (He.ga K "_mixing_children")) ∧ KDct K w (He.ga K "RULES") "child" (.ref (He.ga K "_member_child")) ∧ mg "_member_child" = some (.ref (He.ga K "_member_child")) ∧ KDct K w (He.ga K "RULES") "mothers" (.ref (He.ga K "_bound_mothers")) ∧ mg "_bound_mothers" = some (.ref (He.ga K "_bound_mothers"))
  KIND_BY_CHILDREN : mg "KIND_BY_CHILDREN" = some (.ref (He.ga K "KIND_BY_CHILDREN")) ∧ ∀ H : Hp, SqT K H (He.ga K "KIND_BY_CHILDREN") [.str "leaf", .str "mixing", .str "split"]
  max : mg "max" = none
  abs : mg "abs" = none
  min : mg "min" = none
  Net_cls : Cls K (He.ga K "Net")
  Net_no : ∀ f ∈ (["_arrows", "_leaves", "_mothers", "_children", "_name_at", "_place_at", "_names", "_root"] : List Str), NoAttr K (He.ga K "Net") f
  Net_glo : mg "Net" = some (.ref (He.ga K "Net"))
  Net_ixs : InsX K (He.ga K "Net")
def sp_is_name : Sp := fun vs H Q _ => ∃ (S : Av) (x : V) (d : PyData) (L m : Nat), vs = [x] ∧ Da S H x d ∧ Dd L m d ∧ L ≤ 1000000 ∧ ∀ H', Same H H' → Q (.bl (nameD d)) H'
def wholeD : PyData → Bool
  | .int _ => true
  | _ => false
def sp_is_whole : Sp := fun vs H Q _ => ∃ (S : Av) (x : V) (d : PyData), vs = [x] ∧ Da S H x d ∧ Q (.bl (wholeD d)) H
def sp_is_place : Sp := fun vs H Q _ => ∃ (S : Av) (x : V) (d : PyData), vs = [x] ∧ Da S H x d ∧ Q (.bl (placeD d)) H
def sp_is_place_pair : Sp := fun vs H Q _ => ∃ (S : Av) (x : V) (d : PyData), vs = [x] ∧ Da S H x d ∧ Q (.bl (pairD d)) H
def sp_is_labelled_place : Sp := fun vs H Q _ => ∃ (S : Av) (x : V) (d : PyData), vs = [x] ∧ Da S H x d ∧ Q (.bl (labD d)) H
def sp_all_places : Sp := fun vs H Q _ => ∃ (S : Av) (x y : V) (As : List (Int × Int)) (Ls : List (Int × Str)) (P : List Int), vs = [x, y] ∧ Da S H x (.list (As.map pd)) ∧ Da S H y (.list (Ls.map ld)) ∧ 2 * As.length + Ls.length ≤ 1000 ∧
  Asc P (endsOf As ++ Ls.map (·.1)) ∧ P.length < 64 ∧ ∀ H' D, Same H H' → H D = none → H' D = some (.lst (P.map V.int)) → Q (.ref D) H'
def sp_relatives : Sp := fun vs H Q _ => ∃ (S : Av) (x y : V) (As Bs : List (Int × Int)) (Ls : List (Int × Str)) (P : List Int), vs = [x, y] ∧ Da S H x (.list (As.map pd)) ∧ Da S H y (.list (Ls.map ld)) ∧ 2 * As.length + Ls.length ≤ 1000 ∧
  Asc P (endsOf As ++ Ls.map (·.1)) ∧ P.length < 64 ∧ SrtA As Bs ∧ ∀ H' D M C am ac, Same H H' → H D = none → H' D = some (.tup [.ref M, .ref C]) → DiN H H' M P am (upsOf Bs) → DiN H H' C P ac (downsOf Bs) → (∀ p ∈ P, ∀ q ∈ P, am p ≠ ac q) → Q (.ref D) H'
def sp_places_below : Sp := fun vs H Q _ => ∃ (C : Addr) (P : List Int) (ac : Int → Addr) (val : Int → List Int) (p0 : Int), vs = [.int p0, .ref C] ∧ DiR H C P ac val ∧ p0 ∈ P ∧ P.length < 64 ∧ (∀ p ∈ P, (val p).length ≤ 1000 ∧ ∀ q ∈ val p, q ∈ P) ∧
  ∀ H' D (R : List Int), Same H H' → H D = none → H' D = some (.lst (R.map V.int)) → R.Pairwise (· < ·) → (∀ q, q ∈ R ↔ Und val p0 q) → Q (.ref D) H'
def sp_long_lists : Sp := fun vs H Q _ => ∃ (S : Av) (x y : V) (ds es : List PyData), vs = [x, y] ∧ Da S H x (.list ds) ∧ Da S H y (.list es) ∧
  ∀ H' D, Same H H' → H D = none → H' D = some (ixs ((List.range 2).filter fun i => if i = 0 then decide (46 < ds.length) else decide (12 < es.length))) → Q (.ref D) H'
def sp_bad_arrows : Sp := fun vs H Q _ => ∃ (S : Av) (x y : V) (ds : List PyData), vs = [x, y] ∧ Da S H x (.list ds) ∧ ds.length ≤ 1000 ∧
  ∀ H' D, Same H H' → H D = none → H' D = some (.lst ((atB (fun d => !pairD d) ds).map fun i : Nat => V.int i)) → Q (.ref D) H'
def sp_bad_leaves : Sp := fun vs H Q _ => ∃ (S : Av) (y x : V) (ds : List PyData), vs = [y, x] ∧ Da S H x (.list ds) ∧ ds.length ≤ 1000 ∧
  ∀ H' D, Same H H' → H D = none → H' D = some (.lst ((atB (fun d => !labD d) ds).map fun i : Nat => V.int i)) → Q (.ref D) H'
def sp_bad_names : Sp := fun vs H Q _ => ∃ (S : Av) (y x : V) (Ls : List (Int × Str)), vs = [y, x] ∧ Da S H x (.list (Ls.map ld)) ∧ Ls.length < sizeLine ∧ (∀ p ∈ Ls, p.2.length ≤ 1000000) ∧
  ∀ H' D, Same H H' → H D = none → H' D = some (ixs (atB (fun p => !nameL p.2.cps.toList) Ls)) → Q (.ref D) H'
def sp_leaves_again : Sp := fun vs H Q _ => ∃ (S : Av) (y x : V) (Ls : List (Int × Str)), vs = [y, x] ∧ Da S H x (.list (Ls.map ld)) ∧ Ls.length < sizeLine ∧
  ∀ H' D, Same H H' → H D = none → H' D = some (ixs ((List.range Ls.length).filter fun i => (Ls[i]?).any fun p => decide (p.1 ∈ (Ls.map (·.1)).take i) || decide (p.2 ∈ (Ls.map (·.2)).take i))) → Q (.ref D) H'
def sp_arrows_again : Sp := fun vs H Q _ => ∃ (S : Av) (y x : V) (As : List (Int × Int)), vs = [x, y] ∧ Da S H x (.list (As.map pd)) ∧ As.length < sizeLine ∧
  ∀ H' D, Same H H' → H D = none → H' D = some (ixs ((List.range As.length).filter fun i => (As[i]?).any fun p => decide (p ∈ As.take i))) → Q (.ref D) H'
def sp_no_leaves : Sp := fun vs H Q _ => ∃ (S : Av) (y x : V) (ds : List PyData), vs = [y, x] ∧ Da S H x (.list ds) ∧
  ∀ H' D, Same H H' → H D = none → H' D = some (ixs (if ds = [] then [0] else [])) → Q (.ref D) H'
def sp_bad_degrees : Sp := fun vs H Q _ => ∃ (D C : Addr) (z : V) (P : List Int) (am ac : Int → Addr) (up dn : Int → List Int), vs = [.ref D, .ref C, z] ∧ DiR H D P am up ∧ DiR H C P ac dn ∧ H D = some (dKs P am) ∧ P.length < 64 ∧
  ∀ H' R, Same H H' → H R = none → H' R = some (.lst ((P.filter (badDeg up dn)).map V.int)) → Q (.ref R) H'
def sp_bad_roots : Sp := fun vs H Q _ => ∃ (y z : V) (D : Addr) (P : List Int) (am : Int → Addr) (val : Int → List Int), vs = [.ref D, y, z] ∧ DiR H D P am val ∧ H D = some (dKs P am) ∧ P.length < 64 ∧
  ∀ H' R, Same H H' → H R = none → H' R = some (.lst ((if (P.filter fun p => (val p).isEmpty) = [] then P else (P.filter fun p => (val p).isEmpty).drop 1).map V.int)) → Q (.ref R) H'
def sp_ring_places : Sp := fun vs H Q _ => ∃ (M C : V) (D : Addr) (z : V) (P : List Int) (ac : Int → Addr) (val : Int → List Int) (ring : Int → Bool), vs = [M, .ref D, z] ∧ DiR H D P ac val ∧ H D = some (dKs P ac) ∧ P.length < 64 ∧ (∀ p ∈ P, (val p).length ≤ 1000 ∧ ∀ q ∈ val p, q ∈ P) ∧ (∀ p ∈ P, ring p = true ↔ Und val p p) ∧
  ∀ H' R, Same H H' → H R = none → H' R = some (.lst ((P.filter ring).map V.int)) → Q (.ref R) H'
def sp_bad_labels : Sp := fun vs H Q _ => ∃ (M : V) (D : Addr) (lb : Addr) (P : List Int) (ac : Int → Addr) (val : Int → List Int) (Lb : List Int), vs = [M, .ref D, .ref lb] ∧ DiR H D P ac val ∧ H D = some (dKs P ac) ∧ P.length < 64 ∧ H lb = some (.lst (Lb.map V.int)) ∧
  ∀ H' R, Same H H' → H R = none → H' R = some (.lst ((P.filter fun p => (val p).isEmpty != decide (p ∈ Lb)).map V.int)) → Q (.ref R) H'
def sp_too_many_mixings : Sp := fun vs H Q _ => ∃ (y z : V) (D : Addr) (P : List Int) (am : Int → Addr) (val : Int → List Int), vs = [.ref D, y, z] ∧ DiR H D P am val ∧ H D = some (dKs P am) ∧ P.length < 64 ∧
  ∀ H' R, Same H H' → H R = none → H' R = some (.lst (if 8 < (P.filter fun p => (val p).length == 2).length then [.int (P.filter fun p => (val p).length == 2).length] else [])) → Q (.ref R) H'
def FinL (K : PySem.W.Frag) (H : Hp) (ks : List Str) (as : List Addr) (gs : List V) (ls : List (Str × List Int)) : Prop :=
  (∃ (S : Av) (x y : V) (ds es : List PyData), gs = [x, y] ∧ ks = (["long", "arrow", "leaf", "name", "again", "double", "none"] : List Str) ∧
    as = [He.ga K "_long_lists", He.ga K "_bad_arrows", He.ga K "_bad_leaves", He.ga K "_bad_names", He.ga K "_leaves_again", He.ga K "_arrows_again", He.ga K "_no_leaves"] ∧
    Da S H x (.list ds) ∧ Da S H y (.list es) ∧ ds.length ≤ 1000 ∧ es.length ≤ 1000 ∧ (∀ p ∈ lsOf es, p.2.length ≤ 1000000) ∧ ls = (lfinds ds es).map fun p => (p.1, p.2.map fun n : Nat => (n : Int))) ∨
  ∃ (M C lb : Addr) (P Lb : List Int) (am ac : Int → Addr) (Bs : List (Int × Int)) (ring : Int → Bool), gs = [.ref M, .ref C, .ref lb] ∧ ks = (["degree", "roots", "ring", "label", "mixings"] : List Str) ∧
    as = [He.ga K "_bad_degrees", He.ga K "_bad_roots", He.ga K "_ring_places", He.ga K "_bad_labels", He.ga K "_too_many_mixings"] ∧
    DiR H M P am (upsOf Bs) ∧ DiR H C P ac (downsOf Bs) ∧ H M = some (dKs P am) ∧ H C = some (dKs P ac) ∧ H lb = some (.lst (Lb.map V.int)) ∧ P.length < 64 ∧
    (∀ p ∈ P, (downsOf Bs p).length ≤ 1000 ∧ ∀ q ∈ downsOf Bs p, q ∈ P) ∧ (∀ p ∈ P, ring p = true ↔ Und (downsOf Bs) p p) ∧ ls = pfinds P (upsOf Bs) (downsOf Bs) ring Lb
def sp_first_fault (K : PySem.W.Frag) : Sp := fun vs H Q _ => ∃ (H0 : Hp) (D G : Addr) (ks : List Str) (as : List Addr) (gs : List V) (ls : List (Str × List Int)), vs = [.ref D, .ref G] ∧ FinL K H0 ks as gs ls ∧ Same H0 H ∧ H0 D = none ∧ H D = some (tabO ks as) ∧ H G = some (.tup gs) ∧
  (firstF ls = none → ∀ H', Same H0 H' → Q .non H') ∧ ∀ wd i, firstF ls = some (wd, i) → ∀ H' R, Same H0 H' → H0 R = none → H' R = some (.tup [.str wd, .int i]) → Q (.ref R) H'
def sp_net_fault (K : PySem.W.Frag) : Sp := fun vs H Q _ => ∃ (S : Av) (x y : V) (As Bs : List (Int × Int)) (Ls : List (Int × Str)) (P : List Int) (ring : Int → Bool), vs = [x, y] ∧ Da S H x (.list (As.map pd)) ∧ Da S H y (.list (Ls.map ld)) ∧ 2 * As.length + Ls.length ≤ 1000 ∧
  Asc P (endsOf As ++ Ls.map (·.1)) ∧ P.length < 64 ∧ SrtA As Bs ∧ (∀ p ∈ P, ring p = true ↔ Und (downsOf Bs) p p) ∧ (∀ p ∈ Ls, p.2.length ≤ 1000000) ∧ firstF (lfinds (As.map pd) (Ls.map ld)) = none ∧
  (firstF (pfinds P (upsOf Bs) (downsOf Bs) ring (Ls.map (·.1))) = none → ∀ H', Same H H' → Q .non H') ∧ ∀ wd i, firstF (pfinds P (upsOf Bs) (downsOf Bs) ring (Ls.map (·.1))) = some (wd, i) → ∀ H' R, Same H H' → H R = none → H' R = some (.tup [.str wd, .int i]) → Q (.ref R) H'
abbrev sp_split_child (K : PySem.W.Frag) : Sp := spRule splC K
abbrev sp_member_below_mixing (K : PySem.W.Frag) : Sp := spRule belC K
abbrev sp_mixing_children (K : PySem.W.Frag) : Sp := spRule mixC K
abbrev sp_member_child (K : PySem.W.Frag) : Sp := spRule chiC K
abbrev sp_bound_mothers (K : PySem.W.Frag) : Sp := spRule motC K
def sp_greatest_knot (K : PySem.W.Frag) : Sp := fun vs H Q _ => ∃ (S : Av) (o : Addr) (m : V) (As Bs : List (Int × Int)) (Ls Ms : List (Int × Str)) (P : List Int) (root : Int) (M : List Int),
  vs = [.ref o, m] ∧ NetAt S K H o Bs Ls Ms P root ∧ Good As Ls P ∧ SrtA As Bs ∧ (∀ p ∈ M, p ∈ P.filter (fun p => !(downsOf Bs p).isEmpty)) ∧ ((m = .non ∧ M = P.filter (fun p => !(downsOf Bs p).isEmpty)) ∨ ∃ a, m = .ref a ∧ H a = some (.lst (M.map V.int))) ∧
  ∀ (H' : Hp) (R : Addr) (I : List Int), Same H H' → H R = none → I = (P.filter fun p => !(downsOf Bs p).isEmpty).filter (fun p => decide (p ∈ M)) → H' R = some (.lst ((peel Bs I.length I).map V.int)) → Q (.ref R) H'
def sp_knot_core (K : PySem.W.Frag) : Sp := fun vs H Q _ => ∃ (S : Av) (o : Addr) (As Bs : List (Int × Int)) (Ls Ms : List (Int × Str)) (P : List Int) (root : Int) (I : List Int),
  vs = [.ref o] ∧ NetAt S K H o Bs Ls Ms P root ∧ Good As Ls P ∧ SrtA As Bs ∧ I = P.filter (fun p => !(downsOf Bs p).isEmpty) ∧
  ∀ (H' : Hp) (R : Addr), Same H H' → H R = none → H' R = some (.lst ((coreL Bs I).map V.int)) → Q (.ref R) H'
def sp_demand_inner (K : PySem.W.Frag) : Sp := fun vs H Q _ => ∃ (S : Av) (o a : Addr) (Bs : List (Int × Int)) (Ls Ms : List (Int × Str)) (P : List Int) (root : Int) (M : List Int),
  vs = [.ref o, .ref a] ∧ NetAt S K H o Bs Ls Ms P root ∧ P.length < 64 ∧ H a = some (.lst (M.map V.int)) ∧ (∀ p ∈ M, p ∈ P.filter (fun p => !(downsOf Bs p).isEmpty)) ∧ ∀ H' : Hp, Same H H' → Q .non H'
def sp_rule (K : PySem.W.Frag) : Sp := fun vs H Q _ => ∃ (S : Av) (o a : Addr) (As Bs : List (Int × Int)) (Ls Ms : List (Int × Str)) (P : List Int) (root : Int) (M : List Int) (p : Int),
  vs = [.ref o, .ref a, .int p] ∧ NetAt S K H o Bs Ls Ms P root ∧ Good As Ls P ∧ SrtA As Bs ∧ H a = some (.lst (M.map V.int)) ∧ M.length ≤ 1000 ∧ p ∈ P ∧ ∀ H' : Hp, Same H H' → Q (ruleV Bs M p) H'
def sp_held (K : PySem.W.Frag) : Sp := fun vs H Q _ => ∃ (S : Av) (o a : Addr) (As Bs : List (Int × Int)) (Ls Ms : List (Int × Str)) (P : List Int) (root : Int) (M : List Int),
  vs = [.ref o, .ref a] ∧ NetAt S K H o Bs Ls Ms P root ∧ Good As Ls P ∧ SrtA As Bs ∧ H a = some (.lst (M.map V.int)) ∧ M.length ≤ 1000 ∧ (∀ p ∈ M, p ∈ P) ∧ ∀ (H' : Hp) (R : Addr), Same H H' → H R = none → H' R = some (.lst ((M.filter fun p => heldB Bs M p).map V.int)) → Q (.ref R) H'
def sp_greatest_part (K : PySem.W.Frag) : Sp := fun vs H Q _ => ∃ (S : Av) (o a : Addr) (As Bs : List (Int × Int)) (Ls Ms : List (Int × Str)) (P : List Int) (root : Int) (M : List Int),
  vs = [.ref o, .ref a] ∧ NetAt S K H o Bs Ls Ms P root ∧ Good As Ls P ∧ SrtA As Bs ∧ H a = some (.lst (M.map V.int)) ∧ M.length ≤ 1000 ∧ (∀ p ∈ M, p ∈ P) ∧ ∀ (H' : Hp) (R : Addr), Same H H' → (R = a ∨ H R = none) → H' R = some (.lst ((peel Bs M.length M).map V.int)) → Q (.ref R) H'
def sp_Net___init (K : PySem.W.Frag) : Sp := fun vs H Q _ => ∃ (S : Av) (o dx : Addr) (x y : V) (As Bs : List (Int × Int)) (Ls : List (Int × Str)) (P : List Int) (ring : Int → Bool) (root : Int), vs = [.ref o, x, y] ∧ H o = some (.ins (He.ga K "Net") dx []) ∧ ¬ S o ∧ (∀ b, S b → ∃ u, H b = some u) ∧ (∃ a xs, x = .ref a ∧ H a = some (.lst xs) ∧ DaAll S H xs (As.map pd)) ∧ (∃ b ys, y = .ref b ∧ H b = some (.lst ys) ∧ DaAll S H ys (Ls.map ld)) ∧ 2 * As.length + Ls.length ≤ 1000 ∧ Ls.length < 64 ∧
  Asc P (endsOf As ++ Ls.map (·.1)) ∧ P.length < 64 ∧ SrtA As Bs ∧ (∀ p ∈ P, ring p = true ↔ Und (downsOf Bs) p p) ∧ (∀ p ∈ Ls, p.2.length ≤ 1000000) ∧ firstF (lfinds (As.map pd) (Ls.map ld)) = none ∧
  firstF (pfinds P (upsOf Bs) (downsOf Bs) ring (Ls.map (·.1))) = none ∧ (Ls.map (·.1)).Nodup ∧ (Ls.map (·.2)).Nodup ∧ (P.filter fun p => (upsOf Bs p).isEmpty) = [root] ∧
  ∀ H' Ms, But o H H' → NetAt S K H' o Bs Ls Ms P root → Q .non H'
def sp_Net_places (K : PySem.W.Frag) : Sp := fun vs H Q _ => ∃ (S : Av) (o : Addr) (Bs : List (Int × Int)) (Ls Ms : List (Int × Str)) (P : List Int) (root : Int), vs = [.ref o] ∧ NetAt S K H o Bs Ls Ms P root ∧ ∀ (H' : Hp) (R : Addr), Same H H' → H R = none → H' R = some (.lst (P.map V.int)) → Q (.ref R) H'
def sp_Net_inner (K : PySem.W.Frag) : Sp := fun vs H Q _ => ∃ (S : Av) (o : Addr) (Bs : List (Int × Int)) (Ls Ms : List (Int × Str)) (P : List Int) (root : Int), vs = [.ref o] ∧ NetAt S K H o Bs Ls Ms P root ∧ P.length < 64 ∧ ∀ (H' : Hp) (R : Addr), Same H H' → H R = none → H' R = some (.lst ((P.filter (fun p => !(downsOf Bs p).isEmpty)).map V.int)) → Q (.ref R) H'
def sp_Net_splits (K : PySem.W.Frag) : Sp := fun vs H Q _ => ∃ (S : Av) (o : Addr) (Bs : List (Int × Int)) (Ls Ms : List (Int × Str)) (P : List Int) (root : Int), vs = [.ref o] ∧ NetAt S K H o Bs Ls Ms P root ∧ P.length < 64 ∧ ∀ (H' : Hp) (R : Addr), Same H H' → H R = none → H' R = some (.lst ((P.filter (fun p => (downsOf Bs p).length == 2)).map V.int)) → Q (.ref R) H'
def sp_Net_mixings (K : PySem.W.Frag) : Sp := fun vs H Q _ => ∃ (S : Av) (o : Addr) (Bs : List (Int × Int)) (Ls Ms : List (Int × Str)) (P : List Int) (root : Int), vs = [.ref o] ∧ NetAt S K H o Bs Ls Ms P root ∧ P.length < 64 ∧ ∀ (H' : Hp) (R : Addr), Same H H' → H R = none → H' R = some (.lst ((P.filter (fun p => (upsOf Bs p).length == 2)).map V.int)) → Q (.ref R) H'
def sp_Net_arrows (K : PySem.W.Frag) : Sp := fun vs H Q _ => ∃ (S : Av) (o : Addr) (Bs : List (Int × Int)) (Ls Ms : List (Int × Str)) (P : List Int) (root : Int), vs = [.ref o] ∧ NetAt S K H o Bs Ls Ms P root ∧ ∀ (H' : Hp) (R : Addr) (ys : List V), Same H H' → H R = none → H' R = some (.lst ys) → DaAll S H' ys (Bs.map pd) → Q (.ref R) H'
def sp_Net_leaves (K : PySem.W.Frag) : Sp := fun vs H Q _ => ∃ (S : Av) (o : Addr) (Bs : List (Int × Int)) (Ls Ms : List (Int × Str)) (P : List Int) (root : Int), vs = [.ref o] ∧ NetAt S K H o Bs Ls Ms P root ∧ ∀ (H' : Hp) (R : Addr) (ys : List V), Same H H' → H R = none → H' R = some (.lst ys) → DaAll S H' ys (Ms.map ld) → Q (.ref R) H'
def sp_Net_names (K : PySem.W.Frag) : Sp := fun vs H Q _ => ∃ (S : Av) (o : Addr) (Bs : List (Int × Int)) (Ls Ms : List (Int × Str)) (P : List Int) (root : Int), vs = [.ref o] ∧ NetAt S K H o Bs Ls Ms P root ∧ ∀ (H' : Hp) (R : Addr) (ns : List Str), Same H H' → H R = none → H' R = some (.lst (ns.map V.str)) → ns.Perm (Ls.map (·.2)) → sortedS ns = true → Q (.ref R) H'
def sp_Net_mothers (K : PySem.W.Frag) : Sp := fun vs H Q _ => ∃ (S : Av) (o : Addr) (Bs : List (Int × Int)) (Ls Ms : List (Int × Str)) (P : List Int) (root : Int) (p : Int), vs = [.ref o, .int p] ∧ NetAt S K H o Bs Ls Ms P root ∧ p ∈ P ∧ ∀ (H' : Hp) (R : Addr), Same H H' → H R = none → H' R = some (.lst ((upsOf Bs p).map V.int)) → Q (.ref R) H'
def sp_Net_children (K : PySem.W.Frag) : Sp := fun vs H Q _ => ∃ (S : Av) (o : Addr) (Bs : List (Int × Int)) (Ls Ms : List (Int × Str)) (P : List Int) (root : Int) (p : Int), vs = [.ref o, .int p] ∧ NetAt S K H o Bs Ls Ms P root ∧ p ∈ P ∧ ∀ (H' : Hp) (R : Addr), Same H H' → H R = none → H' R = some (.lst ((downsOf Bs p).map V.int)) → Q (.ref R) H'
def sp_Net_kind_of (K : PySem.W.Frag) : Sp := fun vs H Q _ => ∃ (S : Av) (o : Addr) (Bs : List (Int × Int)) (Ls Ms : List (Int × Str)) (P : List Int) (root p : Int) (z : Str), vs = [.ref o, .int p] ∧ NetAt S K H o Bs Ls Ms P root ∧ p ∈ P ∧ (["leaf", "mixing", "split"] : List Str)[(downsOf Bs p).length]? = some z ∧ ∀ H', Same H H' → Q (.str z) H'
def sp_Net___eq (K : PySem.W.Frag) : Sp := fun vs H Q _ => ∃ (o1 : Addr) (y : V), vs = [.ref o1, y] ∧ ((∃ (S : Av) (o2 : Addr) (Bs1 Bs2 : List (Int × Int)) (Ls1 Ms1 Ls2 Ms2 : List (Int × Str)) (P1 P2 : List Int) (r1 r2 : Int), y = .ref o2 ∧ NetAt S K H o1 Bs1 Ls1 Ms1 P1 r1 ∧ NetAt S K H o2 Bs2 Ls2 Ms2 P2 r2 ∧
  (∀ p ∈ Ms1, nameL p.2.cps.toList = true) ∧ (∀ p ∈ Ms2, nameL p.2.cps.toList = true) ∧ Q (.bl (decide (Bs1 = Bs2) && decide (Ms1 = Ms2))) H) ∨
  ∃ (S : Av) (d : PyData), Da S H y d ∧ Q (.bl false) H)
def sp_Net___contains (K : PySem.W.Frag) : Sp := fun vs H Q _ => ∃ (S : Av) (o : Addr) (Bs : List (Int × Int)) (Ls Ms : List (Int × Str)) (P : List Int) (root : Int) (z : Str), vs = [.ref o, .str z] ∧ NetAt S K H o Bs Ls Ms P root ∧ (Ls.map (·.2)).Nodup ∧ Q (.bl (decide (z ∈ Ls.map (·.2)))) H
def sp_Net__demand (K : PySem.W.Frag) : Sp := fun vs H Q _ => ∃ (S : Av) (o : Addr) (Bs : List (Int × Int)) (Ls Ms : List (Int × Str)) (P : List Int) (root : Int) (p : Int), vs = [.ref o, .int p] ∧ NetAt S K H o Bs Ls Ms P root ∧ p ∈ P ∧ ∀ H', Same H H' → Q .non H'




def sp_law_same (n : Nat) : Sp := fun vs H Q _ => ∃ (S : Av) (x y : V) (d e : PyData) (L m : Nat), vs = [x, y] ∧ Al S H ∧ Da S H x d ∧ Da S H y e ∧ Dd L m e ∧ m < n ∧ L ≤ 1000000 ∧ ∀ (H' : Hp) (b : Bool), Same H H' → (b = true ↔ d = e) → Q (.bl b) H'
def sp_law_rising (K : PySem.W.Frag) : Sp := fun vs H Q _ => ∃ (a : Addr) (ns : List Int), vs = [.ref a] ∧ H a = some (.lst (ns.map V.int)) ∧ ns.length ≤ 1000 ∧ ∀ b : Bool, (b = true ↔ ∀ (i : Nat) (x y : Int), ns[i]? = some x → ns[i + 1]? = some y → x < y) → Q (.bl b) H
def sp_law_all : Sp := fun vs H Q _ => ∃ (S : Av) (x : V) (As : List (Int × Int)) (Ls : List (Int × Str)) (P : List Int), vs = [x] ∧ Da S H x (netD As Ls) ∧ 2 * As.length + Ls.length ≤ 1000 ∧ Asc P (endsOf As ++ Ls.map (·.1)) ∧ P.length < 64 ∧ ∀ (H' : Hp) (R : Addr), Same H H' → H R = none → H' R = some (.lst (P.map V.int)) → Q (.ref R) H'
def sp_law_ups : Sp := fun vs H Q _ => ∃ (S : Av) (x : V) (As Bs : List (Int × Int)) (Ls : List (Int × Str)) (P : List Int), vs = [x] ∧ Da S H x (netD As Ls) ∧ 2 * As.length + Ls.length ≤ 1000 ∧ Asc P (endsOf As ++ Ls.map (·.1)) ∧ P.length < 64 ∧ SrtA As Bs ∧ ∀ (H' : Hp) (D : Addr) (am : Int → Addr), Same H H' → DiN H H' D P am (upsOf Bs) → Q (.ref D) H'
def sp_law_downs : Sp := fun vs H Q _ => ∃ (S : Av) (x : V) (As Bs : List (Int × Int)) (Ls : List (Int × Str)) (P : List Int), vs = [x] ∧ Da S H x (netD As Ls) ∧ 2 * As.length + Ls.length ≤ 1000 ∧ Asc P (endsOf As ++ Ls.map (·.1)) ∧ P.length < 64 ∧ SrtA As Bs ∧ ∀ (H' : Hp) (D : Addr) (am : Int → Addr), Same H H' → DiN H H' D P am (downsOf Bs) → Q (.ref D) H'
def sp_law_inner : Sp := fun vs H Q _ => ∃ (S : Av) (x : V) (As Bs : List (Int × Int)) (Ls : List (Int × Str)) (P : List Int) (n : Nat), vs = [x, .int n] ∧ Da S H x (netD As Ls) ∧ 2 * As.length + Ls.length ≤ 1000 ∧ Asc P (endsOf As ++ Ls.map (·.1)) ∧ P.length < 64 ∧ SrtA As Bs ∧
  ∀ (H' : Hp) (R : Addr), Same H H' → H R = none → H' R = some (.lst ((P.filter fun p => if n = 0 then !(downsOf Bs p).isEmpty else (downsOf Bs p).length == n).map V.int)) → Q (.ref R) H'
def sp_law_is_net (K : PySem.W.Frag) : Sp := fun vs H Q _ => ∃ (S : Av) (o : Addr) (x : V) (As Bs : List (Int × Int)) (Ls Ls' Ms : List (Int × Str)) (P : List Int) (root : Int), vs = [.ref o, x] ∧ Al S H ∧ NetAt S K H o Bs Ls' Ms P root ∧ Da S H x (netD As Ls) ∧ Good As Ls P ∧ SrtA As Bs ∧ SrtL Ls Ms ∧ ∀ H', Same H H' → Q (.bl true) H'
def sp_law_rule (K : PySem.W.Frag) : Sp := fun vs H Q _ => ∃ (U D a : Addr) (As Bs : List (Int × Int)) (Ls : List (Int × Str)) (P : List Int) (am ac : Int → Addr) (M : List Int) (p : Int),
  vs = [.ref U, .ref D, .ref a, .int p] ∧ DiR H U P am (upsOf Bs) ∧ DiR H D P ac (downsOf Bs) ∧ Good As Ls P ∧ SrtA As Bs ∧ H a = some (.lst (M.map V.int)) ∧ M.length ≤ 1000 ∧ p ∈ P ∧ downsOf Bs p ≠ [] ∧ ∀ H' : Hp, Same H H' → Q (ruleV Bs M p) H'
def sp_law_spots (K : PySem.W.Frag) : Sp := fun vs H Q _ => ∃ (S : Av) (s : Addr) (many : Int), vs = [.ref s, .int many] ∧ SS S s H ∧ 1 ≤ many ∧ many ≤ 1000 ∧ ∀ (H' : Hp) (R : Addr) (L : List Int), Keep s H H' → SO S s H' → R ≠ s → ¬ S R → H' R = some (.lst (L.map V.int)) → L.Nodup → (L.length : Int) = many → (∀ x ∈ L, 0 ≤ x ∧ x ≤ 9999) → Q (.ref R) H'
def sp_law_named (K : PySem.W.Frag) : Sp := fun vs H Q _ => ∃ (S : Av) (s : Addr) (many : Int), vs = [.ref s, .int many] ∧ SS S s H ∧ 1 ≤ many ∧ many ≤ 12 ∧ ∀ (H' : Hp) (R : Addr) (L : List Str), Keep s H H' → SO S s H' → R ≠ s → ¬ S R → H' R = some (.lst (L.map V.str)) → L.Nodup → (L.length : Int) = many → (∀ z ∈ L, nameL z.cps.toList = true ∧ z.length ≤ 8) → Q (.ref R) H'
def sp_law_size (K : PySem.W.Frag) : Sp := fun vs H Q _ => ∃ (S : Av) (s : Addr), vs = [.ref s] ∧ SS S s H ∧ ∀ (H' : Hp) (R : Addr) (n m : Nat), Keep s H H' → SO S s H' → R ≠ s → H' R = some (.lst [.int n, .int m]) → 1 ≤ n → n ≤ 12 → m ≤ 8 → Q (.ref R) H'
def sp_law_woven (K : PySem.W.Frag) : Sp := fun vs H Q _ => ∃ (S : Av) (s a : Addr) (ns : List Str) (m : Nat), vs = [.ref s, .ref a, .int m] ∧ SS S s H ∧ a ≠ s ∧ H a = some (.lst (ns.map V.str)) ∧ 1 ≤ ns.length ∧ ns.length ≤ 12 ∧ m ≤ 8 ∧ ns.Nodup ∧ (∀ z ∈ ns, nameL z.cps.toList = true ∧ z.length ≤ 8) ∧
  ∀ (H' : Hp) (R : Addr) (v : V) (C : Addr) (As : List (Int × Int)) (Ls : List (Int × Str)) (P : List Int) (crs : List (List Int)), Keep s H H' → SO S s H' → R ≠ s → H' R = some (.lst [v, .ref C]) → Da S H' v (netD As Ls) → Da S H' (.ref C) (crnD crs) → (∀ cr ∈ crs, Crn As cr) → crs.length ≤ 4 → Good As Ls P → SrtA As As → Q (.ref R) H'
def sp_law_tangled (K : PySem.W.Frag) : Sp := fun vs H Q _ => ∃ (S : Av) (s : Addr), vs = [.ref s] ∧ SS S s H ∧
  ∀ (H' : Hp) (R : Addr) (v : V) (C : Addr) (As : List (Int × Int)) (Ls : List (Int × Str)) (P : List Int) (crs : List (List Int)), Keep s H H' → SO S s H' → R ≠ s → H' R = some (.lst [v, .ref C]) → Da S H' v (netD As Ls) → Da S H' (.ref C) (crnD crs) → (∀ cr ∈ crs, Crn As cr) → crs.length ≤ 4 → Good As Ls P → SrtA As As → Q (.ref R) H'
def sp_law_peeled (K : PySem.W.Frag) : Sp := fun vs H Q _ => ∃ (S : Av) (x : V) (a : Addr) (As Bs : List (Int × Int)) (Ls : List (Int × Str)) (P ns M : List Int), vs = [x, .ref a] ∧ Al S H ∧ Da S H x (netD As Ls) ∧ Good As Ls P ∧ SrtA As Bs ∧ H a = some (.lst (ns.map V.int)) ∧ ns.length ≤ 1000 ∧ Asc M ns ∧ (∀ p ∈ M, p ∈ P.filter fun p => !(downsOf Bs p).isEmpty) ∧
  ∀ (H' : Hp) (R : Addr), Same H H' → H R = none → H' R = some (.lst ((knot Bs M).map V.int)) → Q (.ref R) H'
def sp_law_core (K : PySem.W.Frag) : Sp := fun vs H Q _ => ∃ (S : Av) (x : V) (As Bs : List (Int × Int)) (Ls : List (Int × Str)) (P I : List Int), vs = [x] ∧ Al S H ∧ Da S H x (netD As Ls) ∧ Good As Ls P ∧ SrtA As Bs ∧ I = P.filter (fun p => !(downsOf Bs p).isEmpty) ∧
  ∀ (H' : Hp) (R : Addr), Same H H' → H R = none → H' R = some (.lst ((coreL Bs I).map V.int)) → Q (.ref R) H'
def sp_law_is_core (K : PySem.W.Frag) : Sp := fun vs H Q _ => ∃ (S : Av) (x : V) (a : Addr) (As Bs : List (Int × Int)) (Ls : List (Int × Str)) (P I : List Int), vs = [x, .ref a] ∧ Al S H ∧ Da S H x (netD As Ls) ∧ Good As Ls P ∧ SrtA As Bs ∧ I = P.filter (fun p => !(downsOf Bs p).isEmpty) ∧ H a = some (.lst ((coreL Bs I).map V.int)) ∧
  ∀ H' : Hp, Same H H' → Q (.bl true) H'
def sp_law_holds (K : PySem.W.Frag) : Sp := fun vs H Q _ => ∃ (S : Av) (o : Addr) (x y : V) (As : List (Int × Int)) (Ls Ls' Ms : List (Int × Str)) (P : List Int) (root : Int) (crs : List (List Int)), vs = [.ref o, x, y] ∧ Al S H ∧ NetAt S K H o As Ls' Ms P root ∧ Da S H x (netD As Ls) ∧ Da S H y (crnD crs) ∧ (∀ cr ∈ crs, Crn As cr) ∧ crs.length ≤ 4 ∧ Good As Ls P ∧ SrtA As As ∧ SrtL Ls Ms ∧ Ls'.Perm Ls ∧
  ∀ H' : Hp, Same H H' → Q (.bl true) H'
def sp_law (K : PySem.W.Frag) : Sp := fun vs H Q _ => ∃ (a : Addr) (ns : List Int), vs = [.ref a] ∧ SqL K H a (ns.map V.int) ∧ ns.length ≤ 63 ∧ ∀ H', Q (.bl true) H'
section
variable {P : Program} {w : World} {K : PySem.W.Frag} {mg : Str → Option Value} {base : Heap} {f : Addr} {fd : FuncData} {k : Nat}

set_option maxHeartbeats 4000000 in
theorem ok_is_name  (F : Fun K "is_name" "is_name" s_is_name f fd) (T : Txt w K mg) : FnOk P w K mg base CX0 (k + 1) f fd ["value"] (sp_is_name) := by
  refine F.ok sc_is_name (fun vs H Q E h => ?_) (fun cdv A outer s0 H vs Q E hr h => ?_)
  · obtain ⟨S, x, d, L, m, rfl, hd, hD, hL, q⟩ := h
    rfl
  · obtain ⟨S, x, d, L, m, rfl, hd, hD, hL, q⟩ := h
    refine ⟨_, (pss_cons (ps_if (PW.pt (pw_or (pt_not (pt_val (pe_callB call_isD (by rfl) T.isinstance (by decide +kernel) (pa_cons (pv 0) (pa_cons (pe_bltn (v := .ty "str") (by rfl) T.str (by decide +kernel) rfl) pa_nil))))) (pw_or1 (pt_not (pt_chain op_le op_le pe_int (pe_callB call_len_str (by rfl) T.len PySem.boot_len (pa_cons (pv 0) pa_nil)) (pe_gint (by rfl) T.LONGEST_NAME))))))
        (pss_one (ps_ret pe_bl))
        pss_nil)
      (pss_one (ps_ret (pe_and (pe_cmpR op_in_sign (pe_ix ix_str (pv 0) pe_int (fun _ _ => rfl)) (pe_gstr (by rfl) T.LETTERS) rfl) (pe_one (pe_callB (cr_all rfl) (by rfl) T.all (by decide +kernel) (pa_cons (pe_lc (own := [("sign", 1)]) (by rfl) sc_is_name.nd (pi_str (pv 0)) (blkOk_by (own := [("sign", 1)]) (N := ["value", "sign"]) (sc := defScope s_is_name) (by decide +kernel)) (fun _ _ _ _ _ => pg_name (i := 1) sc_is_name.nd rfl (Or.inl rfl)) (fun _ _ _ _ _ => pts_nil) (fun _ _ _ _ _ => (pe_cmpR op_in_sign (pv 1) (pe_op op_add_str (pe_gstr (by rfl) T.LETTERS) (pe_gstr (by rfl) T.DIGITS)) rfl))) pa_nil))))))), ?_⟩
    refine ⟨_, rfl, ?_⟩
    refine ⟨x, "str", S, d, rfl, rfl, hd, ?_⟩
    refine ⟨_, rfl, ?_⟩
    cases hs : isD "str" d with
    | false =>
      have e : nameD d = false := by cases d <;> first | rfl | (exact absurd hs (by simp only [isD, tyN]; decide))
      rw [e] at q
      exact q _ (Same.refl _)
    | true =>
    obtain ⟨z, rfl⟩ := isD_str hs
    cases hd
    cases hD with
    | str _ hz =>
    have hzl : z.length ≤ sizeLine := line_le (by omega)
    refine ⟨_, rfl, z, rfl, hzl, _, _, rfl, rfl, _, rfl, ?_⟩
    have q0 : nameD (.str z) = false → Q (.bl false) H := fun e => by
      rw [e] at q
      exact q _ (Same.refl _)
    by_cases h1 : (1 : Int) ≤ (z.length : Int)
    case neg =>
      rw [decide_eq_false h1]
      refine ⟨_, rfl, q0 ?_⟩
      have hl : z.cps.toList.length = 0 := by rw [← str_len]; omega
      show nameL z.cps.toList = false
      rw [List.eq_nil_of_length_eq_zero hl]
      rfl
    rw [decide_eq_true h1]
    refine ⟨_, _, rfl, rfl, _, rfl, ?_⟩
    by_cases h2 : (z.length : Int) ≤ 8
    case neg =>
      rw [decide_eq_false h2]
      exact q0 (nameL_long (by rw [← str_len]; omega))
    rw [decide_eq_true h2]
    obtain ⟨c, r, hcr⟩ : ∃ c r, z.cps.toList = c :: r := by
      cases hh : z.cps.toList with
      | nil => rw [str_len, hh] at h1; exact absurd h1 (by decide)
      | cons c r => exact ⟨c, r, rfl⟩
    have e : nameD (.str z) = (isLet c && z.cps.toList.all (fun c => isLet c || isDig c)) := by
      show nameL z.cps.toList = _
      rw [hcr, nameL_cons, List.all_cons]
      have hl : (c :: r).length ≤ 8 := by
        rw [← hcr, ← str_len]
        omega
      rw [List.length_cons] at hl
      rw [show decide (r.length ≤ 7) = true from decide_eq_true (by omega), Bool.and_true]
      cases isLet c <;> rfl
    rw [e] at q
    refine ⟨_, rfl, z, 0, c, rfl, rfl, hzl, atI_nat (j := 0) (by rw [hcr]; rfl), c, _, rfl, rfl, _, rfl, ?_⟩
    rw [decide_mem_let]
    cases hc : isLet c with
    | false =>
      rw [hc] at q
      exact q _ (Same.refl _)
    | true =>
    rw [hc, Bool.true_and] at q
    refine ⟨_, rfl, z, rfl, fun D nD => ?_⟩
    refine lc_it walk_str (fun i H' => Same H H' ∧ H' D = some (.lst (((z.cps.toList.take i).map (fun c => isLet c || isDig c)).map V.bl))) ⟨same_new (Same.refl H) nD, upd_same⟩ (fun _ _ _ _ => trivial) ?_ ?_
    · rintro i x H1 H2 hi ⟨sm, eD⟩ ⟨rfl, c1, hc1, rfl⟩
      refine ⟨rfl, ?_⟩
      refine ⟨_, rfl, _, _, rfl, rfl, by decide +kernel, c1, _, rfl, rfl, _, eD, ?_, fun b o eb => ?_, ?_⟩
      · rw [List.length_map, List.length_map, List.length_take]
        exact line_lt (Nat.le_trans (Nat.min_le_right _ _) (by rw [← str_len]; omega))
      · rw [upd_ne (ne_of_none eb nD)]
        exact sm _ _ eb
      · rw [upd_same, ← take_snoc (str_at hc1), List.map_append, List.map_append]
        rw [show decide (c1 ∈ (("abcdefghijklmnopqrstuvwxyz" : Str) ++ ("0123456789" : Str)).cps.toList) = (isLet c1 || isDig c1) from decide_mem_ld c1]
        rfl
    rintro H1 ⟨sm, eD⟩
    refine ⟨D, _, rfl, SqL.of eD, ?_⟩
    rw [← Array.length_toList, List.take_length, List.all_map]
    exact q _ sm


set_option maxHeartbeats 4000000 in
theorem ok_is_whole  (F : Fun K "is_whole" "is_whole" s_is_whole f fd) (T : Txt w K mg) : FnOk P w K mg base CX0 (k + 1) f fd ["value"] (sp_is_whole) := by
  refine F.ok sc_is_whole (fun vs H Q E h => ?_) (fun cdv A outer s0 H vs Q E hr h => ?_)
  · obtain ⟨S, x, d, rfl, hd, q⟩ := h
    rfl
  · obtain ⟨S, x, d, rfl, hd, q⟩ := h
    refine ⟨_, (pss_one (ps_ret (pe_and (pe_callB call_isD (by rfl) T.isinstance (by decide +kernel) (pa_cons (pv 0) (pa_cons (pe_bltn (v := .ty "int") (by rfl) T.int (by decide +kernel) rfl) pa_nil))) (pe_one (pe_not (pe_callB call_isD (by rfl) T.isinstance (by decide +kernel) (pa_cons (pv 0) (pa_cons (pe_bltn (v := .ty "bool") (by rfl) T.bool (by decide +kernel) rfl) pa_nil)))))))), ?_⟩
    refine ⟨_, rfl, x, "int", S, d, rfl, rfl, hd, ?_⟩
    cases hs : isD "int" d with
    | false =>
      have e : wholeD d = false := by cases d <;> first | rfl | (exact absurd hs (by simp only [isD, tyN]; decide))
      rw [e] at q
      exact ⟨_, rfl, q⟩
    | true =>
    refine ⟨_, rfl, ?_⟩
    rcases isD_int hs with ⟨i, rfl⟩ | ⟨b, rfl⟩
    case inr =>
      refine ⟨_, rfl, x, "bool", S, _, rfl, rfl, hd, _, rfl, ?_⟩
      exact q
    cases hd
    refine ⟨_, rfl, .int i, "bool", S, .int i, rfl, rfl, .int i, _, rfl, ?_⟩
    exact q


set_option maxHeartbeats 4000000 in
theorem ok_is_place  (F : Fun K "is_place" "is_place" s_is_place f fd) (T : Txt w K mg)
    (O_is_whole : Own P w K mg base k "is_whole" ["value"] (sp_is_whole)) : FnOk P w K mg base CX0 (k + 1) f fd ["value"] (sp_is_place) := by
  refine F.ok sc_is_place (fun vs H Q E h => ?_) (fun cdv A outer s0 H vs Q E hr h => ?_)
  · obtain ⟨S, x, d, rfl, hd, q⟩ := h
    rfl
  · obtain ⟨S, x, d, rfl, hd, q⟩ := h
    refine ⟨_, (pss_one (ps_ret (pe_and (pe_own O_is_whole hr (by rfl) (pa_cons (pv 0) pa_nil)) (pe_one (pe_chain op_le op_le pe_int (pv 0) (pe_gint (by rfl) T.LAST_PLACE)))))), ?_⟩
    refine ⟨_, rfl, S, x, d, rfl, hd, ?_⟩
    cases hs : wholeD d with
    | false =>
      have e : placeD d = false := by cases d <;> first | rfl | cases hs
      rw [e] at q
      exact ⟨_, rfl, q⟩
    | true =>
    refine ⟨_, rfl, ?_⟩
    have ⟨i, hi⟩ : ∃ i, d = .int i := by cases d <;> first | exact ⟨_, rfl⟩ | cases hs
    subst hi
    cases hd
    refine ⟨_, rfl, _, _, rfl, rfl, _, rfl, ?_⟩
    cases h1 : decide ((0 : Int) ≤ i) with
    | false =>
      refine ?_
      have e : placeD (.int i) = false := by
        show (decide (0 ≤ i) && decide (i ≤ 9999)) = false
        rw [h1]
        rfl
      rw [e] at q
      exact q
    | true =>
      refine ⟨_, _, rfl, rfl, ?_⟩
      have e : placeD (.int i) = decide (i ≤ 9999) := by
        show (decide (0 ≤ i) && decide (i ≤ 9999)) = _
        rw [h1]
        rfl
      rw [e] at q
      exact q


set_option maxHeartbeats 4000000 in
theorem ok_is_place_pair  (F : Fun K "is_place_pair" "is_place_pair" s_is_place_pair f fd) (T : Txt w K mg)
    (O_is_place : Own P w K mg base k "is_place" ["value"] (sp_is_place)) : FnOk P w K mg base CX0 (k + 1) f fd ["value"] (sp_is_place_pair) := by
  refine F.ok sc_is_place_pair (fun vs H Q E h => ?_) (fun cdv A outer s0 H vs Q E hr h => ?_)
  · obtain ⟨S, x, d, rfl, hd, q⟩ := h
    rfl
  · obtain ⟨S, x, d, rfl, hd, q⟩ := h
    refine ⟨_, (pss_one (ps_ret (pe_and (pe_callB call_isD (by rfl) T.isinstance (by decide +kernel) (pa_cons (pv 0) (pa_cons (pe_bltn (v := .ty "tuple") (by rfl) T.tuple (by decide +kernel) rfl) pa_nil))) (pe_and (pe_cmpR op_eq (pe_callB call_len_seq (by rfl) T.len PySem.boot_len (pa_cons (pv 0) pa_nil)) pe_int (nomark _)) (pe_and (pe_own O_is_place hr (by rfl) (pa_cons (pe_ix ix_seq (pv 0) pe_int (fun _ _ => rfl)) pa_nil)) (pe_one (pe_own O_is_place hr (by rfl) (pa_cons (pe_ix ix_seq (pv 0) pe_int (fun _ _ => rfl)) pa_nil)))))))), ?_⟩
    refine ⟨_, rfl, x, "tuple", S, d, rfl, rfl, hd, ?_⟩
    cases hs : isD "tuple" d with
    | false =>
      have e : pairD d = false := by cases d <;> first | rfl | (exact absurd hs (by simp only [isD, tyN]; decide))
      rw [e] at q
      exact ⟨_, rfl, q⟩
    | true =>
    refine ⟨_, rfl, ?_⟩
    obtain ⟨ds, rfl⟩ := isD_tuple hs
    obtain ⟨a, xs, rfl, nS, ea, hA⟩ : ∃ a xs, x = .ref a ∧ ¬ S a ∧ H a = some (.tup xs) ∧ DaAll S H xs ds := by
      cases hd with
      | tup n e r => exact ⟨_, _, rfl, n, e, r⟩
    rcases two_or hA with ⟨x, y, c, e, rfl, rfl, hx, hy⟩ | ⟨h2, hne⟩
    case inr =>
      refine ⟨_, rfl, a, xs, rfl, .inr (.of ea), rfl, _, rfl, ?_⟩
      rw [h2]
      rw [pairD_no hne] at q
      exact q
    refine ⟨_, rfl, a, _, rfl, .inr (.of ea), rfl, _, rfl, ?_⟩
    refine ⟨_, rfl, .inr (.inl ⟨a, _, 0, x, rfl, rfl, .of ea, rfl, S, x, c, rfl, hx, ?_⟩)⟩
    have q : Q (.bl (placeD c && placeD e)) H := q
    refine ⟨_, rfl, ?_⟩
    cases h1 : placeD c with
    | false =>
      rw [h1] at q
      exact q
    | true =>
    rw [h1] at q
    exact ⟨_, rfl, .inr (.inl ⟨a, _, 1, y, rfl, rfl, .of ea, rfl, S, y, e, rfl, hy, q⟩)⟩


set_option maxHeartbeats 4000000 in
theorem ok_is_labelled_place  (F : Fun K "_is_labelled_place" "_is_labelled_place" s_is_labelled_place f fd) (T : Txt w K mg)
    (O_is_place : Own P w K mg base k "is_place" ["value"] (sp_is_place)) : FnOk P w K mg base CX0 (k + 1) f fd ["value"] (sp_is_labelled_place) := by
  refine F.ok sc_is_labelled_place (fun vs H Q E h => ?_) (fun cdv A outer s0 H vs Q E hr h => ?_)
  · obtain ⟨S, x, d, rfl, hd, q⟩ := h
    rfl
  · obtain ⟨S, x, d, rfl, hd, q⟩ := h
    refine ⟨_, (pss_one (ps_ret (pe_and (pe_callB call_isD (by rfl) T.isinstance (by decide +kernel) (pa_cons (pv 0) (pa_cons (pe_bltn (v := .ty "tuple") (by rfl) T.tuple (by decide +kernel) rfl) pa_nil))) (pe_and (pe_cmpR op_eq (pe_callB call_len_seq (by rfl) T.len PySem.boot_len (pa_cons (pv 0) pa_nil)) pe_int (nomark _)) (pe_and (pe_own O_is_place hr (by rfl) (pa_cons (pe_ix ix_seq (pv 0) pe_int (fun _ _ => rfl)) pa_nil)) (pe_one (pe_callB call_isD (by rfl) T.isinstance (by decide +kernel) (pa_cons (pe_ix ix_seq (pv 0) pe_int (fun _ _ => rfl)) (pa_cons (pe_bltn (v := .ty "str") (by rfl) T.str (by decide +kernel) rfl) pa_nil))))))))), ?_⟩
    refine ⟨_, rfl, x, "tuple", S, d, rfl, rfl, hd, ?_⟩
    cases hs : isD "tuple" d with
    | false =>
      have e : labD d = false := by cases d <;> first | rfl | (exact absurd hs (by simp only [isD, tyN]; decide))
      rw [e] at q
      exact ⟨_, rfl, q⟩
    | true =>
    refine ⟨_, rfl, ?_⟩
    obtain ⟨ds, rfl⟩ := isD_tuple hs
    obtain ⟨a, xs, rfl, nS, ea, hA⟩ : ∃ a xs, x = .ref a ∧ ¬ S a ∧ H a = some (.tup xs) ∧ DaAll S H xs ds := by
      cases hd with
      | tup n e r => exact ⟨_, _, rfl, n, e, r⟩
    rcases two_or hA with ⟨x, y, c, e, rfl, rfl, hx, hy⟩ | ⟨h2, hne⟩
    case inr =>
      refine ⟨_, rfl, a, xs, rfl, .inr (.of ea), rfl, _, rfl, ?_⟩
      rw [h2]
      rw [labD_no hne] at q
      exact q
    refine ⟨_, rfl, a, _, rfl, .inr (.of ea), rfl, _, rfl, ?_⟩
    refine ⟨_, rfl, .inr (.inl ⟨a, _, 0, x, rfl, rfl, .of ea, rfl, S, x, c, rfl, hx, ?_⟩)⟩
    have q : Q (.bl (placeD c && isStrD e)) H := q
    refine ⟨_, rfl, ?_⟩
    cases h1 : placeD c with
    | false =>
      rw [h1] at q
      exact q
    | true =>
    rw [h1] at q
    refine ⟨_, rfl, .inr (.inl ⟨a, _, 1, y, rfl, rfl, .of ea, rfl, y, "str", S, e, rfl, rfl, hy, ?_⟩)⟩
    rw [isStrD_eq]
    exact q


set_option maxHeartbeats 4000000 in
theorem ok_all_places  (F : Fun K "all_places" "all_places" s_all_places f fd) (T : Txt w K mg) : FnOk P w K mg base CX0 (k + 1) f fd ["arrows", "leaves"] (sp_all_places) := by
  refine F.ok sc_all_places (fun vs H Q E h => ?_) (fun cdv A outer s0 H vs Q E hr h => ?_)
  · obtain ⟨S, x, y, As, Ls, P, rfl, hx, hy, hl, hP, h64, q⟩ := h
    rfl
  · obtain ⟨S, x, y, As, Ls, P, rfl, hx, hy, hl, hP, h64, q⟩ := h
    refine ⟨_, (pss_cons (ps_setLc2 (i := 2) (own := [("arrow", 3), ("end", 4)]) (vs1 := [4]) (by rfl) sc_all_places.nd rfl rfl (sw_true rfl rfl rfl (by decide +kernel)) (pi_list (pv 0)) (blkOk_by (own := [("arrow", 3), ("end", 4)]) (N := ["arrows", "leaves", "ends", "arrow", "end", "leaf"]) (sc := defScope s_all_places) (by decide +kernel)) (by decide) (fun _ _ _ _ _ => pg_name (i := 3) sc_all_places.nd rfl (Or.inl rfl)) (fun _ _ _ _ _ => pts_nil) (fun _ _ _ _ _ => (pi_tupK K rfl (pv 3))) (fun _ _ _ _ _ => pg_name (i := 4) sc_all_places.nd rfl (Or.inl rfl)) (fun _ _ _ _ _ => pts_nil) (fun _ _ _ _ _ => (pv 4)))
      (pss_one (ps_ret (pe_callB (cr_sortedSet rfl) (by rfl) T.sorted (by decide +kernel) (pa_cons (pe_callTy (cr_setL rfl) (by rfl) T.set (by decide +kernel) (pa_cons (pe_op op_cat (pv 2) (pe_lc (own := [("leaf", 5)]) (by rfl) sc_all_places.nd (pi_list (pv 1)) (blkOk_by (own := [("leaf", 5)]) (N := ["arrows", "leaves", "ends", "arrow", "end", "leaf"]) (sc := defScope s_all_places) (by decide +kernel)) (fun _ _ _ _ _ => pg_name (i := 5) sc_all_places.nd rfl (Or.inl rfl)) (fun _ _ _ _ _ => pts_nil) (fun _ _ _ _ _ => (pe_ix (ix_tupK K rfl) (pv 5) pe_int (fun _ _ => rfl))))) pa_nil)) pa_nil))))), ?_⟩
    obtain ⟨a, xs, rfl, nS, ea, hA⟩ := hx.list
    obtain ⟨b, ys, rfl, nS2, eb, hB⟩ := hy.list
    have hn : ys.length = Ls.length := by rw [hB.length, List.length_map]
    have hz : 1002 < sizeLine := by decide
    dsimp only [tSeq, tAsg]
    refine lc2_ends rfl ea hA (by omega) (fun _ => rfl) (fun _ => rfl) (fun _ _ => rfl) (fun _ _ => rfl) ?_
    intro D1 H1 nD1 s1 e1
    dsimp only [gName]
    refine ⟨_, rfl, ?_⟩
    dsimp only
    refine lc_listM (K := K) rfl (s1 _ _ eb) ((Ls.map (·.1)).map V.int) (by rw [List.length_map, List.length_map, hn]) (by omega) ?_ ?_
    · rintro i x H2 N A z hz sm hx hA5
      obtain ⟨p, t, ed, rfl, nt, et⟩ := hB.ldS (fun b o e => sm _ _ (s1 _ _ e)) hx
      rw [List.map_map, List.getElem?_map, ed] at hz
      cases hz
      exact ⟨rfl, _, rfl, t, _, 0, _, rfl, rfl, .of et, rfl, hA5 _ (Same.refl _)⟩
    intro D2 H2 nD2 s2 e2
    have e1 := s2 _ _ e1
    have s2 : Same H H2 := fun b o e => s2 _ _ (s1 _ _ e)
    refine ⟨D1, D2, _, _, rfl, rfl, e1, e2, ?_, fun p3 n3 => ?_⟩
    · rw [List.length_map, List.length_map, List.length_map, endsOf_len]
      omega
    have s3 := same_snoc (o := .lst ((endsOf As).map V.int ++ (Ls.map (·.1)).map V.int)) s2 n3
    refine ⟨p3, endsOf As ++ Ls.map (·.1), rfl, .of (by rw [upd_same, List.map_append]), by rw [List.length_append, List.length_map, endsOf_len]; exact hl, fun p4 L n4 nd hL => ?_⟩
    refine ⟨p4, _, _, rfl, upd_same, ?_, fun ns p5 hp hm _ n5 => ?_⟩
    · refine Nat.lt_of_le_of_lt ?_ h64
      exact nodup_le nd fun k hk => (hP.2 k).mpr ((hL k).mp hk)
    have e : ns = P := asc_uniq hp hP.1 fun k => by rw [hm, hP.2, decide_eq_true_eq]
    subst e
    exact q _ p5 (same_snoc (same_snoc s3 n4) n5) ((same_snoc s3 n4).free n5) upd_same


set_option maxHeartbeats 4000000 in
theorem ok_relatives  (F : Fun K "relatives" "relatives" s_relatives f fd) (T : Txt w K mg)
    (O_all_places : Own P w K mg base k "all_places" ["arrows", "leaves"] (sp_all_places)) : FnOk P w K mg base CX0 (k + 1) f fd ["arrows", "leaves"] (sp_relatives) := by
  refine F.ok sc_relatives (fun vs H Q E h => ?_) (fun cdv A outer s0 H vs Q E hr h => ?_)
  · obtain ⟨S, x, y, As, Bs, Ls, P, rfl, hx, hy, hl, hP, h64, hB, q⟩ := h
    rfl
  · obtain ⟨S, x, y, As, Bs, Ls, P, rfl, hx, hy, hl, hP, h64, hB, q⟩ := h
    refine ⟨_, (pss_cons (ps_set (i := 2) sc_relatives.nd rfl (Or.inl rfl) (pe_own O_all_places hr (by rfl) (pa_cons (pv 0) (pa_cons (pv 1) pa_nil))))
      (pss_cons (ps_setDc (i := 3) (own := [("place", 7)]) (by rfl) sc_relatives.nd rfl rfl (sw_trueD rfl rfl rfl (by decide +kernel)) (pi_list (pv 2)) (blkOk_by (own := [("place", 7)]) (N := ["arrows", "leaves", "places", "mothers", "children", "mother", "child", "place"]) (sc := defScope s_relatives) (by decide +kernel)) (fun _ _ _ _ _ => pg_name (i := 7) sc_relatives.nd rfl (Or.inl rfl)) (fun _ _ _ _ _ => pts_nil) (fun _ _ _ _ _ => (pv 7)) (fun _ _ _ _ _ => (pe_lst pa_nil)))
      (pss_cons (ps_setDc (i := 4) (own := [("place", 7)]) (by rfl) sc_relatives.nd rfl rfl (sw_trueD rfl rfl rfl (by decide +kernel)) (pi_list (pv 2)) (blkOk_by (own := [("place", 7)]) (N := ["arrows", "leaves", "places", "mothers", "children", "mother", "child", "place"]) (sc := defScope s_relatives) (by decide +kernel)) (fun _ _ _ _ _ => pg_name (i := 7) sc_relatives.nd rfl (Or.inl rfl)) (fun _ _ _ _ _ => pts_nil) (fun _ _ _ _ _ => (pv 7)) (fun _ _ _ _ _ => (pe_lst pa_nil)))
      (pss_cons (ps_for PassesOwn.never rfl (pi_list (pe_callB cr_sortedPO (by rfl) T.sorted (by decide +kernel) (pa_cons (pv 0) pa_nil))) (pg_pairK K rfl rfl (pg_name (i := 5) sc_relatives.nd rfl (Or.inl rfl)) (pg_name (i := 6) sc_relatives.nd rfl (Or.inl rfl)) (by rfl) (by rfl) (by rfl) (by rfl))
        (pss_cons (ps_expr (pe_bm PySem.F.plainAttrs_list PySem.F.slot_list_append PySem.F.type_list_append mt_append (pe_dget (u1 hr) (pv 3) (pv 6) (fun _ _ => rfl)) (pa_cons (pv 5) pa_nil)))
        (pss_one (ps_expr (pe_bm PySem.F.plainAttrs_list PySem.F.slot_list_append PySem.F.type_list_append mt_append (pe_dget (u1 hr) (pv 4) (pv 5) (fun _ _ => rfl)) (pa_cons (pv 6) pa_nil))))))
      (pss_one (ps_ret (pe_tup (pa_cons (pv 3) (pa_cons (pv 4) pa_nil))))))))), ?_⟩
    obtain ⟨a, xs, rfl, nS, ea, hA⟩ := hx.list
    have hz : 64 < sizeLine := by decide
    refine ⟨_, rfl, _, rfl, S, _, y, As, Ls, P, rfl, hx, hy, hl, hP, h64, fun H1 D1 s1 n1 e1 => ?_⟩
    dsimp only [gName]
    refine seq_asg ?_
    refine dc_lists (K := K) rfl e1 hP.nodup (by omega) (fun _ => rfl) (fun _ => rfl) ?_
    intro M H2 am s2 m2
    refine seq_asg ?_
    refine dc_lists (K := K) rfl (s2 _ _ e1) hP.nodup (by omega) (fun _ => rfl) (fun _ => rfl) ?_
    intro C H3 ac s3 c3
    have s13 : Same H H3 := fun b o e => s3 _ _ (s2 _ _ (s1 _ _ e))
    have m3 := (m2.same s3).base s1
    have c3' := c3.base (fun b o e => s2 _ _ (s1 _ _ e) : Same H H2)
    have dis : ∀ p ∈ P, ∀ q ∈ P, am p ≠ ac q := fun p hp q hq e => by
      have := c3.na q hq
      rw [← e, m2.val p hp] at this
      cases this
    have dMC : ∀ p ∈ P, am p ≠ C := fun p hp e => by
      have := c3.nd
      rw [← e, m2.val p hp] at this
      cases this
    have dCM : ∀ p ∈ P, ac p ≠ M := fun p hp e => by
      have := c3.na p hp
      rw [e, m2.at_] at this
      cases this
    refine ⟨_, rfl, a, xs, pairAt H, rfl, .of (s13 _ _ ea), fun x hx => ?_, fun ys Y hs1 hs2 nY => ?_⟩
    · obtain ⟨i, hi⟩ := List.mem_iff_getElem?.mp hx
      obtain ⟨p, t, _, rfl, _, et⟩ := hA.pd hi
      rw [pairAt_eq et]
      exact ⟨t, rfl, s13 _ _ et⟩
    obtain ⟨hyl, hys⟩ := sorted_pd hA hB hs1 hs2
    refine ⟨Y, rfl, ⟨_, .of upd_same⟩, ?_⟩
    have m4 := m3.new (o := .lst ys) nY
    have c4 := c3'.new (o := .lst ys) nY
    have nYM : ∀ p ∈ P, am p ≠ Y := fun p hp e => by rw [← e, m3.val p hp] at nY; cases nY
    have nYC : ∀ p ∈ P, ac p ≠ Y := fun p hp e => by rw [← e, c3'.val p hp] at nY; cases nY
    have hmem : ∀ b ∈ Bs, b.1 ∈ P ∧ b.2 ∈ P := fun b hb => by
      have hb := hB.1.mem_iff.mp hb
      have h1 : ∀ k, k ∈ [b.1, b.2] → k ∈ P := fun k hk => (hP.2 k).mpr (List.mem_append_left _ (List.mem_flatMap.mpr ⟨b, hb, hk⟩))
      exact ⟨h1 _ (by simp), h1 _ (by simp)⟩
    refine for_it (walk_list (K := K) (a := Y) (xs := ys)) (fun i σ H' => ∃ u v pl, σ = [some (.ref a), some y, some (.ref D1), some (.ref M), some (.ref C), u, v, pl] ∧ Same H H' ∧ H' Y = some (.lst ys) ∧ DiN H H' M P am (upsOf (Bs.take i)) ∧ DiN H H' C P ac (downsOf (Bs.take i)))
      ⟨_, _, _, rfl, same_snoc s13 nY, upd_same, m4, c4⟩ (fun i σ H' _ ⟨_, _, _, _, _, e, _⟩ => .of e) ?_ ?_
    · rintro i x σ H4 H5 hi ⟨u, v, pl, rfl, sm, eY, hM, hC⟩ ⟨rfl, hx⟩
      obtain ⟨b, t, eb, rfl, nt, et⟩ := hys i x hx
      obtain ⟨b1, b2⟩ := hmem b (List.mem_of_getElem? eb)
      refine ⟨t, _, rfl, .of (sm _ _ et), rfl, _, _, rfl, _, _, rfl, rfl, ?_⟩
      refine ⟨_, rfl, _, rfl, M, .ref (am b.2), rfl, ?_⟩
      have bl : Bs.length ≤ 1000 := by rw [hB.1.length_eq]; omega
      have tl : (Bs.take i).length ≤ 1000 := Nat.le_trans (by rw [List.length_take]; exact Nat.min_le_right _ _) bl
      have hz2 : 1000 < sizeLine := by decide
      refine ⟨hM.get b2, .inl ⟨rfl, _, .of (hM.val _ b2)⟩, _, rfl, am b.2, _, .int b.1, rfl, rfl, hM.val _ b2, ?_, ?_⟩
      · rw [List.length_map]
        exact Nat.lt_of_le_of_lt (upsOf_len _ _) (by omega)
      have hM2 := hM.app (x := b.1) b2
      have hC2 := hC.other (b := am b.2) (o := .lst ((upsOf (Bs.take i) b.2).map V.int ++ [V.int b.1])) (dMC _ b2) (fun q hq => dis _ b2 q hq)
      refine ⟨_, rfl, _, rfl, C, .ref (ac b.1), rfl, hC2.get b1, .inl ⟨rfl, _, .of (hC2.val _ b1)⟩, _, rfl, ac b.1, _, .int b.2, rfl, rfl, hC2.val _ b1, ?_, ?_⟩
      · rw [List.length_map]
        exact Nat.lt_of_le_of_lt (downsOf_len _ _) (by omega)
      have hC3 := hC2.app (x := b.2) b1
      have hM3 := hM2.other (b := ac b.1) (o := .lst ((downsOf (Bs.take i) b.1).map V.int ++ [V.int b.2])) (dCM _ b1) (fun q hq => (dis q hq _ b1).symm)
      refine ⟨_, _, _, rfl, fun c o e => ?_, ?_, ?_, ?_⟩
      · rw [upd_ne (fun z => by rw [z, hC.na _ b1] at e; cases e), upd_ne (fun z => by rw [z, hM.na _ b2] at e; cases e)]
        exact sm _ _ e
      · rw [upd_ne (nYC _ b1).symm, upd_ne (nYM _ b2).symm]
        exact eY
      · rw [← take_snoc eb, upsOf_snoc]
        exact hM3
      · rw [← take_snoc eb, downsOf_snoc]
        exact hC3
    · rintro σ H4 ⟨u, v, pl, rfl, sm, eY, hM, hC⟩
      rw [hyl, List.take_length] at hM hC
      refine ⟨_, rfl, _, rfl, (by show 2 ≤ sizeLine; decide), fun R nR => ?_⟩
      exact q _ R M C am ac (same_snoc sm nR) (sm.free nR) upd_same (hM.new nR) (hC.new nR) dis


set_option maxHeartbeats 4000000 in
theorem ok_places_below  (F : Fun K "places_below" "places_below" s_places_below f fd) (T : Txt w K mg) : FnOk P w K mg base CX0 (k + 1) f fd ["place", "children"] (sp_places_below) := by
  refine F.ok sc_places_below (fun vs H Q E h => ?_) (fun cdv A outer s0 H vs Q E hr h => ?_)
  · obtain ⟨C, P, ac, val, p0, rfl, hC, hp0, h64, hV, q⟩ := h
    rfl
  · obtain ⟨C, P, ac, val, p0, rfl, hC, hp0, h64, hV, q⟩ := h
    refine ⟨_, (pss_cons (ps_set (i := 2) sc_places_below.nd rfl (Or.inl rfl) pe_dnewK)
      (pss_cons (ps_set (i := 3) sc_places_below.nd rfl (Or.inl rfl) (pe_callTy call_list_of (by rfl) T.list (by decide +kernel) (pa_cons (pe_dget (u1 hr) (pv 1) (pv 0) (fun _ _ => rfl)) pa_nil)))
      (pss_cons (ps_while PassesOwn.never (pt_tru K rfl (pv 3) (fun _ => rfl))
        (pss_cons (ps_set (i := 4) sc_places_below.nd rfl (Or.inl rfl) (pe_bm0 PySem.F.plainAttrs_list PySem.F.slot_list_pop PySem.F.type_list_pop mt_pop (pv 3)))
        (pss_one (ps_if (pt_cmp (pc_dnotin (u1 hr) (pv 4) (pv 2)))
          (pss_cons (ps_dput (u1 hr) (pv 2) (pv 4) pe_bl rfl)
          (pss_one (ps_expr (pe_bm PySem.F.plainAttrs_list PySem.F.slot_list_extend PySem.F.type_list_extend mt_extend (pv 3) (pa_cons (pe_dget (u1 hr) (pv 1) (pv 4) (fun _ _ => rfl)) pa_nil)))))
          pss_nil))))
      (pss_one (ps_ret (pe_callB (call_sortedDI rfl) (by rfl) T.sorted (by decide +kernel) (pa_cons (pv 2) pa_nil))))))), ?_⟩
    refine fun fd nfd => ?_
    have sz : 100000 < sizeLine := by decide
    refine ⟨_, rfl, _, rfl, C, .ref (ac p0), rfl, (hC.new (o := .dK []) nfd).get hp0, _, _, rfl, .inl (.of ((hC.new (o := .dK []) nfd).val _ hp0)), fun wt nwt => ?_⟩
    have s2 := same_snoc (o := .lst ((val p0).map V.int)) (same_snoc (o := .dK []) (Same.refl H) nfd) nwt
    have nw0 : H wt = none := (same_snoc (o := .dK []) (Same.refl H) nfd).free nwt
    have nfw : fd ≠ wt := fun e => by rw [← e, upd_same] at nwt; cases nwt
    obtain ⟨Wd, hWd⟩ : ∃ Wd : Nat → L2.St → Hp → Prop, ∀ n σ H', Wd n σ H' ↔ ∃ (Fs Ws : List Int) (lw : Option V), σ = [some (.int p0), some (.ref C), some (.ref fd), some (.ref wt), lw] ∧ n = (P.length - Fs.length) * 1001 + Ws.length ∧ Same H H' ∧ H' fd = some (trueKs Fs) ∧ H' wt = some (.lst (Ws.map V.int)) ∧ Fs.Nodup ∧
        (∀ q ∈ Fs, q ∈ P ∧ Und val p0 q) ∧ (∀ q ∈ Ws, q ∈ P ∧ Und val p0 q) ∧ (∀ q ∈ val p0, q ∈ Fs ∨ q ∈ Ws) ∧ (∀ r ∈ Fs, ∀ q ∈ val r, q ∈ Fs ∨ q ∈ Ws) ∧ Ws.length ≤ 1000 * (Fs.length + 1) := ⟨_, fun _ _ _ => Iff.rfl⟩
    refine ⟨Wd, ⟨_, (hWd _ _ _).mpr ⟨[], val p0, none, rfl, rfl, s2, (by rw [upd_ne nfw, upd_same]; rfl), upd_same, .nil, (fun q h => by simp at h), (fun q h => ⟨(hV p0 hp0).2 q h, .base h⟩), (fun q h => .inr h), (fun r h => by simp at h), by have := (hV p0 hp0).1; simpa using this⟩⟩, ?_⟩
    intro n σ H1 hw
    obtain ⟨Fs, Ws, lw, rfl, rfl, sm, eF, eW, nd, hF, hW, hc0, hc1, hwl⟩ := (hWd _ _ _).mp hw
    have hFl : Fs.length ≤ P.length := nodup_le nd fun q hq => (hF q hq).1
    refine ⟨_, rfl, !(Ws.map V.int).isEmpty, .inl ⟨_, .of eW, rfl⟩, ?_⟩
    rcases List.eq_nil_or_concat Ws with rfl | ⟨L, x, rfl⟩
    · refine ⟨_, rfl, fd, _, Fs, rfl, .inl eF, ?_, by omega, fun ys p hp hs np => ?_⟩
      · rw [List.map_map]
        rfl
      have hcl : ∀ k, k ∈ Fs ↔ Und val p0 k := fun k => ⟨fun h => (hF k h).2, fun h => h.closed (fun q hq => (hc0 q hq).resolve_right (by simp)) (fun r hr q hq => (hc1 r hr q hq).resolve_right (by simp))⟩
      exact q _ p ys (same_snoc sm np) (sm.free np) upd_same (lt_of_le_nodup hs (hp.nodup_iff.mpr nd)) (fun k => by rw [hp.mem_iff, hcl])
    rw [List.concat_eq_append] at *
    have hxP := hW x (by simp)
    refine ite2 (fun _ => ?_) (fun e => absurd (by simp) e)
    have hget : ((L ++ [x]).map V.int)[((L ++ [x]).map V.int).length - 1]? = some (.int x) := by simp
    have hdrop : ((L ++ [x]).map V.int).dropLast = L.map V.int := by simp
    refine ⟨fun σ' H' => ∃ m', m' < (P.length - Fs.length) * 1001 + (L ++ [x]).length ∧ Wd m' σ' H', fun _ _ h => h, ?_⟩
    refine ⟨_, rfl, .inl ⟨rfl, _, .of eW⟩, wt, _, _, rfl, rfl, eW, hget, ?_⟩
    rw [hdrop]
    generalize eH2 : upd H1 wt (.lst (L.map V.int)) = H2
    have eF2 : H2 fd = some (trueKs Fs) := by rw [← eH2, upd_ne nfw]; exact eF
    have eW2 : H2 wt = some (.lst (L.map V.int)) := by rw [← eH2]; exact upd_same
    have sm2 : Same H H2 := fun b o e => by
      rw [← eH2, upd_ne (fun z => by rw [z, nw0] at e; cases e)]
      exact sm _ _ e
    refine ⟨_, rfl, _, rfl, fd, _, rfl, .inl ⟨_, .inl x, .inl eF2, rfl, rfl⟩, _, rfl, ?_⟩
    rw [valV_true]
    refine ite2 (fun e => ?_) (fun e => ?_)
    · have hx : x ∉ Fs := by simpa using e
      have nd2 : (Fs ++ [x]).Nodup := List.nodup_append.mpr ⟨nd, by simp, fun a ha b hb => by rw [List.mem_singleton.mp hb]; exact fun z => hx (z ▸ ha)⟩
      have hFl2 : (Fs ++ [x]).length ≤ P.length := nodup_le nd2 fun k hk => by
        rcases List.mem_append.mp hk with h | h
        · exact (hF k h).1
        · rw [List.mem_singleton.mp h]
          exact hxP.1
      rw [List.length_append, List.length_singleton] at hFl2
      refine ⟨_, rfl, _, rfl, fd, _, rfl, .inl ⟨_, .inl x, eF2, rfl, ?_, rfl⟩, ?_⟩
      · rw [List.length_map]
        omega
      rw [putK_true hx]
      generalize eH3 : upd H2 fd (.dK ((Fs ++ [x]).map fun q => ((.inl q : Key), V.bl true))) = H3
      have eF3 : H3 fd = some (trueKs (Fs ++ [x])) := by rw [← eH3]; exact upd_same
      have eW3 : H3 wt = some (.lst (L.map V.int)) := by rw [← eH3, upd_ne nfw.symm]; exact eW2
      have sm3 : Same H H3 := fun b o e => by
        rw [← eH3, upd_ne (fun z => by rw [z, nfd] at e; cases e)]
        exact sm2 _ _ e
      have hC3 := hC.same sm3
      have hv := hV x hxP.1
      refine ⟨_, rfl, .inl ⟨rfl, _, .of eW3⟩, _, rfl, _, rfl, C, .ref (ac x), rfl, hC3.get hxP.1, wt, ac x, _, _, rfl, rfl, eW3, hC3.val _ hxP.1, ?_, ?_⟩
      · rw [List.length_map, List.length_map]
        simp only [List.length_append, List.length_singleton] at hwl
        omega
      refine ⟨(P.length - (Fs ++ [x]).length) * 1001 + (L ++ val x).length, ?_, (hWd _ _ _).mpr ⟨Fs ++ [x], L ++ val x, _, rfl, rfl, fun b o e => ?_, ?_, ?_, nd2, fun k hk => ?_, fun k hk => ?_, fun k hk => ?_, fun r hr k hk => ?_, ?_⟩⟩
      · simp only [List.length_append, List.length_singleton]
        omega
      · rw [upd_ne (fun z => by rw [z, nw0] at e; cases e)]
        exact sm3 _ _ e
      · rw [upd_ne nfw]
        exact eF3
      · rw [upd_same, List.map_append]
      · rcases List.mem_append.mp hk with h | h
        · exact hF k h
        · rw [List.mem_singleton.mp h]
          exact hxP
      · rcases List.mem_append.mp hk with h | h
        · exact hW k (by simp [h])
        · exact ⟨hv.2 k h, .step hxP.2 h⟩
      · rcases hc0 k hk with h | h
        · exact .inl (List.mem_append_left _ h)
        · rcases List.mem_append.mp h with h | h
          · exact .inr (List.mem_append_left _ h)
          · exact .inl (List.mem_append_right _ h)
      · rcases List.mem_append.mp hr with hr | hr
        · rcases hc1 r hr k hk with h | h
          · exact .inl (List.mem_append_left _ h)
          · rcases List.mem_append.mp h with h | h
            · exact .inr (List.mem_append_left _ h)
            · exact .inl (List.mem_append_right _ h)
        · rw [List.mem_singleton.mp hr] at hk
          exact .inr (List.mem_append_right _ hk)
      · simp only [List.length_append, List.length_singleton] at hwl ⊢
        omega
    · have hx : x ∈ Fs := by simpa using e
      refine ⟨(P.length - Fs.length) * 1001 + L.length, ?_, (hWd _ _ _).mpr ⟨Fs, L, _, rfl, rfl, sm2, eF2, eW2, nd, hF, fun q hq => hW q (by simp [hq]), fun q hq => ?_, fun r hr q hq => ?_, ?_⟩⟩
      · simp only [List.length_append, List.length_singleton]
        omega
      · rcases hc0 q hq with h | h
        · exact .inl h
        · rcases List.mem_append.mp h with h | h
          · exact .inr h
          · exact .inl (List.mem_singleton.mp h ▸ hx)
      · rcases hc1 r hr q hq with h | h
        · exact .inl h
        · rcases List.mem_append.mp h with h | h
          · exact .inr h
          · exact .inl (List.mem_singleton.mp h ▸ hx)
      · simp only [List.length_append, List.length_singleton] at hwl
        omega


set_option maxHeartbeats 4000000 in
theorem ok_long_lists  (F : Fun K "_long_lists" "_long_lists" s_long_lists f fd) (T : Txt w K mg) : FnOk P w K mg base CX0 (k + 1) f fd ["arrows", "leaves"] (sp_long_lists) := by
  refine F.ok sc_long_lists (fun vs H Q E h => ?_) (fun cdv A outer s0 H vs Q E hr h => ?_)
  · obtain ⟨S, x, y, ds, es, rfl, hx, hy, q⟩ := h
    rfl
  · obtain ⟨S, x, y, ds, es, rfl, hx, hy, q⟩ := h
    refine ⟨_, (pss_cons (ps_set (i := 2) sc_long_lists.nd rfl (Or.inl rfl) (pe_tup (pa_cons (pe_tup (pa_cons (pe_callB call_len_seq (by rfl) T.len PySem.boot_len (pa_cons (pv 0) pa_nil)) (pa_cons (pe_gint (by rfl) T.MOST_ARROWS) pa_nil))) (pa_cons (pe_tup (pa_cons (pe_callB call_len_seq (by rfl) T.len PySem.boot_len (pa_cons (pv 1) pa_nil)) (pa_cons (pe_gint (by rfl) T.MOST_LEAVES) pa_nil))) pa_nil))))
      (pss_one (ps_ret (pe_lc (own := [("at", 3), ("length", 4), ("most", 5)]) (by rfl) sc_long_lists.nd (pi_enumT (by rfl) T.enumerate (pa_cons (pv 2) pa_nil)) (blkOk_by (own := [("at", 3), ("length", 4), ("most", 5)]) (N := ["arrows", "leaves", "lengths", "at", "length", "most"]) (sc := defScope s_long_lists) (by decide +kernel)) (fun _ _ _ _ _ => (pg_pairK K rfl rfl (pg_name (i := 3) sc_long_lists.nd rfl (Or.inl rfl)) (pg_pairK K rfl rfl (pg_name (i := 4) sc_long_lists.nd rfl (Or.inl rfl)) (pg_name (i := 5) sc_long_lists.nd rfl (Or.inl rfl)) (by rfl) (by rfl) (by rfl) (by rfl)) (by rfl) (by rfl) (by rfl) (by rfl))) (fun _ _ _ _ _ => (pts_one (pt_cmpR op_gt (pv 4) (pv 5) (nomark _)))) (fun _ _ _ _ _ => (pv 3)))))), ?_⟩
    obtain ⟨a, xs, rfl, nS, ea, hA⟩ := hx.list
    obtain ⟨b, ys, rfl, nS2, eb, hB⟩ := hy.list
    refine ⟨_, rfl, a, xs, rfl, .inl (.of ea), ?_⟩
    refine ⟨(by show 2 ≤ sizeLine; decide), fun p1 n1 => ?_⟩
    have s1 := same_new (o := .tup [.int xs.length, .int 46]) (Same.refl H) n1
    refine ⟨_, rfl, b, ys, rfl, .inl (.of (s1 _ _ eb)), ?_⟩
    refine ⟨(by show 2 ≤ sizeLine; decide), fun p2 n2 => ?_⟩
    have s2 := same_new (o := .tup [.int ys.length, .int 12]) (Same.refl _) n2
    refine ⟨(by show 2 ≤ sizeLine; decide), fun p3 n3 => ?_⟩
    have s3 := same_new (o := .tup [.ref p1, .ref p2]) (Same.refl _) n3
    have sA := fun b o e => s3 b o (s2 b o (s1 b o e))
    have e1 := s3 _ _ (s2 _ _ (upd_same : upd H p1 (.tup [.int xs.length, .int 46]) p1 = _))
    have e2 := s3 _ _ (upd_same : upd (upd H p1 (.tup [.int xs.length, .int 46])) p2 (.tup [.int ys.length, .int 12]) p2 = _)
    refine ⟨_, rfl, p3, _, rfl, .of upd_same, ?_⟩
    have e3 : upd (upd (upd H p1 (.tup [.int xs.length, .int 46])) p2 (.tup [.int ys.length, .int 12])) p3 (.tup [.ref p1, .ref p2]) p3 = some (.tup [.ref p1, .ref p2]) := upd_same
    generalize upd (upd (upd H p1 (.tup [.int xs.length, .int 46])) p2 (.tup [.int ys.length, .int 12])) p3 (.tup [.ref p1, .ref p2]) = H3 at sA e1 e2 e3
    rw [hA.length] at e1
    rw [hB.length] at e2
    refine lc_flt walk_enumT (fun i => if i = 0 then decide (46 < ds.length) else decide (12 < es.length)) (fun i => .int i) (by show 2 < sizeLine; decide) (fun H' sm => .of (sm _ _ e3)) ?_ ?_
    · rintro i x H1 H2 N B hi sm ⟨T, u, v, rfl, nT, rfl, h1, h2⟩ hN hB
      cases h1
      refine ⟨T, _, rfl, .of upd_same, rfl, ?_⟩
      have sm2 := same_new (o := .tup [.int (i : Nat), v]) (Same.refl H1) nT
      obtain ⟨pp, n, m, rfl, hpp, hq⟩ : ∃ (pp : Addr) (n m : Int), v = .ref pp ∧ H1 pp = some (.tup [.int n, .int m]) ∧ (if i = 0 then decide (46 < ds.length) else decide (12 < es.length)) = decide (m < n) := by
        rcases i with _ | _ | i
        · cases h2
          exact ⟨p1, _, _, rfl, sm _ _ e1, decide_eq_decide.mpr (by omega)⟩
        · cases h2
          exact ⟨p2, _, _, rfl, sm _ _ e2, decide_eq_decide.mpr (by omega)⟩
        · cases h2
      rw [hq] at hN hB
      refine ⟨_, _, rfl, _, _, rfl, pp, _, rfl, .of (sm2 _ _ hpp), rfl, _, _, rfl, _, _, rfl, rfl, rfl, ?_⟩
      refine ⟨rfl, _, rfl, _, rfl, _, _, rfl, rfl, _, rfl, ?_⟩
      exact ite2 (fun e => ⟨_, rfl, hB _ sm2 e⟩) fun e => hN _ sm2 (Bool.eq_false_iff.mpr e)
    · intro D H' nD sm e
      exact q H' D (fun b o eb => sm _ _ (sA b o eb)) (Same.free sA nD) e


set_option maxHeartbeats 4000000 in
theorem ok_bad_arrows  (F : Fun K "_bad_arrows" "_bad_arrows" s_bad_arrows f fd) (T : Txt w K mg)
    (O_is_place_pair : Own P w K mg base k "is_place_pair" ["value"] (sp_is_place_pair)) : FnOk P w K mg base CX0 (k + 1) f fd ["arrows", "leaves"] (sp_bad_arrows) := by
  refine F.ok sc_bad_arrows (fun vs H Q E h => ?_) (fun cdv A outer s0 H vs Q E hr h => ?_)
  · obtain ⟨S, x, y, ds, rfl, hd, hl, q⟩ := h
    rfl
  · obtain ⟨S, x, y, ds, rfl, hd, hl, q⟩ := h
    refine ⟨_, (pss_one (ps_ret (pe_lc (own := [("at", 2), ("arrow", 3)]) (by rfl) sc_bad_arrows.nd (pi_enum (by rfl) T.enumerate (pa_cons (pv 0) pa_nil)) (blkOk_by (own := [("at", 2), ("arrow", 3)]) (N := ["arrows", "leaves", "at", "arrow"]) (sc := defScope s_bad_arrows) (by decide +kernel)) (fun _ _ _ _ _ => (pg_pairK K rfl rfl (pg_name (i := 2) sc_bad_arrows.nd rfl (Or.inl rfl)) (pg_name (i := 3) sc_bad_arrows.nd rfl (Or.inl rfl)) (by rfl) (by rfl) (by rfl) (by rfl))) (fun _ _ _ _ _ => (pts_one (pt_not (pt_val (pe_own O_is_place_pair hr (by rfl) (pa_cons (pv 3) pa_nil)))))) (fun _ _ _ _ _ => (pv 2))))), ?_⟩
    obtain ⟨a, xs, rfl, nS, ea, hA⟩ : ∃ a xs, x = .ref a ∧ ¬ S a ∧ H a = some (.lst xs) ∧ DaAll S H xs ds := by
      cases hd with
      | lst n e r => exact ⟨_, _, rfl, n, e, r⟩
    refine ⟨_, rfl, a, xs, rfl, .of ea, ?_⟩
    refine lc_flt walk_enum (fun i => (ds[i]?).any fun d => !pairD d) (fun i => .int i) (line_lt (by rw [hA.length]; omega)) (fun H' sm => .of (sm _ _ ea)) ?_ ?_
    · rintro i x H1 H2 N B hi sm ⟨T, u, v, rfl, nT, rfl, h1, h2⟩ hN hB
      cases h1
      refine ⟨T, _, rfl, .of upd_same, rfl, ?_⟩
      obtain ⟨d, ed, hd⟩ := hA.get h2
      rw [ed] at hN hB
      refine ⟨_, _, rfl, _, _, rfl, rfl, ?_⟩
      refine ⟨rfl, _, rfl, S, v, d, rfl, hd.same (fun b o e => same_new (Same.refl H1) nT _ _ (sm _ _ e)), _, rfl, ?_⟩
      cases hp : pairD d with
      | true => exact hN _ (same_new (Same.refl H1) nT) (congrArg (!·) hp)
      | false => exact ⟨_, rfl, hB _ (same_new (Same.refl H1) nT) (congrArg (!·) hp)⟩
    · intro D H' nD sm e
      rw [hA.length] at e
      exact q H' D sm nD e


set_option maxHeartbeats 4000000 in
theorem ok_bad_leaves  (F : Fun K "_bad_leaves" "_bad_leaves" s_bad_leaves f fd) (T : Txt w K mg)
    (O_is_labelled_place : Own P w K mg base k "_is_labelled_place" ["value"] (sp_is_labelled_place)) : FnOk P w K mg base CX0 (k + 1) f fd ["arrows", "leaves"] (sp_bad_leaves) := by
  refine F.ok sc_bad_leaves (fun vs H Q E h => ?_) (fun cdv A outer s0 H vs Q E hr h => ?_)
  · obtain ⟨S, y, x, ds, rfl, hd, hl, q⟩ := h
    rfl
  · obtain ⟨S, y, x, ds, rfl, hd, hl, q⟩ := h
    refine ⟨_, (pss_one (ps_ret (pe_lc (own := [("at", 2), ("leaf", 3)]) (by rfl) sc_bad_leaves.nd (pi_enum (by rfl) T.enumerate (pa_cons (pv 1) pa_nil)) (blkOk_by (own := [("at", 2), ("leaf", 3)]) (N := ["arrows", "leaves", "at", "leaf"]) (sc := defScope s_bad_leaves) (by decide +kernel)) (fun _ _ _ _ _ => (pg_pairK K rfl rfl (pg_name (i := 2) sc_bad_leaves.nd rfl (Or.inl rfl)) (pg_name (i := 3) sc_bad_leaves.nd rfl (Or.inl rfl)) (by rfl) (by rfl) (by rfl) (by rfl))) (fun _ _ _ _ _ => (pts_one (pt_not (pt_val (pe_own O_is_labelled_place hr (by rfl) (pa_cons (pv 3) pa_nil)))))) (fun _ _ _ _ _ => (pv 2))))), ?_⟩
    obtain ⟨a, xs, rfl, nS, ea, hA⟩ : ∃ a xs, x = .ref a ∧ ¬ S a ∧ H a = some (.lst xs) ∧ DaAll S H xs ds := by
      cases hd with
      | lst n e r => exact ⟨_, _, rfl, n, e, r⟩
    refine ⟨_, rfl, a, xs, rfl, .of ea, ?_⟩
    refine lc_flt walk_enum (fun i => (ds[i]?).any fun d => !labD d) (fun i => .int i) (line_lt (by rw [hA.length]; omega)) (fun H' sm => .of (sm _ _ ea)) ?_ ?_
    · rintro i x H1 H2 N B hi sm ⟨T, u, v, rfl, nT, rfl, h1, h2⟩ hN hB
      cases h1
      refine ⟨T, _, rfl, .of upd_same, rfl, ?_⟩
      obtain ⟨d, ed, hd⟩ := hA.get h2
      rw [ed] at hN hB
      refine ⟨_, _, rfl, _, _, rfl, rfl, ?_⟩
      refine ⟨rfl, _, rfl, S, v, d, rfl, hd.same (fun b o e => same_new (Same.refl H1) nT _ _ (sm _ _ e)), _, rfl, ?_⟩
      cases hp : labD d with
      | true => exact hN _ (same_new (Same.refl H1) nT) (congrArg (!·) hp)
      | false => exact ⟨_, rfl, hB _ (same_new (Same.refl H1) nT) (congrArg (!·) hp)⟩
    · intro D H' nD sm e
      rw [hA.length] at e
      exact q H' D sm nD e


set_option maxHeartbeats 4000000 in
theorem ok_bad_names  (F : Fun K "_bad_names" "_bad_names" s_bad_names f fd) (T : Txt w K mg)
    (O_is_name : Own P w K mg base k "is_name" ["value"] (sp_is_name)) : FnOk P w K mg base CX0 (k + 1) f fd ["arrows", "leaves"] (sp_bad_names) := by
  refine F.ok sc_bad_names (fun vs H Q E h => ?_) (fun cdv A outer s0 H vs Q E hr h => ?_)
  · obtain ⟨S, y, x, Ls, rfl, hd, hl, hz, q⟩ := h
    rfl
  · obtain ⟨S, y, x, Ls, rfl, hd, hl, hz, q⟩ := h
    refine ⟨_, (pss_one (ps_ret (pe_lc (own := [("at", 2), ("leaf", 3)]) (by rfl) sc_bad_names.nd (pi_enum (by rfl) T.enumerate (pa_cons (pv 1) pa_nil)) (blkOk_by (own := [("at", 2), ("leaf", 3)]) (N := ["arrows", "leaves", "at", "leaf"]) (sc := defScope s_bad_names) (by decide +kernel)) (fun _ _ _ _ _ => (pg_pairK K rfl rfl (pg_name (i := 2) sc_bad_names.nd rfl (Or.inl rfl)) (pg_name (i := 3) sc_bad_names.nd rfl (Or.inl rfl)) (by rfl) (by rfl) (by rfl) (by rfl))) (fun _ _ _ _ _ => (pts_one (pt_not (pt_val (pe_own O_is_name hr (by rfl) (pa_cons (pe_ix (ix_tupK K rfl) (pv 3) pe_int (fun _ _ => rfl)) pa_nil)))))) (fun _ _ _ _ _ => (pv 2))))), ?_⟩
    obtain ⟨a, xs, rfl, nS, ea, hA⟩ := hd.list
    have hn : xs.length = Ls.length := by rw [hA.length, List.length_map]
    refine ⟨_, rfl, a, xs, rfl, .of ea, ?_⟩
    refine lc_flt walk_enum (fun i => (Ls[i]?).any fun p => !nameL p.2.cps.toList) (fun i => .int i) (by rw [hn]; exact hl) (fun H' sm => .of (sm _ _ ea)) ?_ ?_
    · rintro i x H1 H2 N B hi sm ⟨T, u, v, rfl, nT, rfl, h1, h2⟩ hN hB
      cases h1
      refine ⟨T, _, rfl, .of upd_same, rfl, ?_⟩
      have sm2 := same_new (o := .tup [.int (i : Nat), v]) (Same.refl H1) nT
      obtain ⟨p, t, ed, rfl, nt, et⟩ := hA.ld h2
      rw [ed] at hN hB
      refine ⟨_, _, rfl, _, _, rfl, rfl, ?_⟩
      refine ⟨rfl, _, rfl, t, _, 1, .str p.2, rfl, rfl, .of (sm2 _ _ (sm _ _ et)), rfl, S, _, .str p.2, 1000000, 0, rfl, .str _, .str _ (hz _ (List.mem_of_getElem? ed)), Nat.le_refl _, fun H4 s4 => ⟨_, rfl, ?_⟩⟩
      have s5 : Same H1 H4 := fun b o e => s4 _ _ (sm2 _ _ e)
      cases hp : nameL p.2.cps.toList with
      | true => exact ite2 (fun e => absurd e (by show ¬ (!nameL p.2.cps.toList) = true; rw [hp]; decide)) fun _ => hN _ s5 (congrArg (!·) hp)
      | false => exact ite2 (fun _ => ⟨_, rfl, hB _ s5 (congrArg (!·) hp)⟩) fun e => absurd (show (!nameL p.2.cps.toList) = true by rw [hp]; rfl) e
    · intro D H' nD sm e
      rw [hn] at e
      exact q H' D sm nD e


set_option maxHeartbeats 4000000 in
theorem ok_leaves_again  (F : Fun K "_leaves_again" "_leaves_again" s_leaves_again f fd) (T : Txt w K mg) : FnOk P w K mg base CX0 (k + 1) f fd ["arrows", "leaves"] (sp_leaves_again) := by
  refine F.ok sc_leaves_again (fun vs H Q E h => ?_) (fun cdv A outer s0 H vs Q E hr h => ?_)
  · obtain ⟨S, y, x, Ls, rfl, hd, hl, q⟩ := h
    rfl
  · obtain ⟨S, y, x, Ls, rfl, hd, hl, q⟩ := h
    refine ⟨_, (pss_cons (ps_set (i := 2) sc_leaves_again.nd rfl (Or.inr rfl) (pe_lc (own := [("leaf", 4)]) (by rfl) sc_leaves_again.nd (pi_list (pv 1)) (blkOk_by (own := [("leaf", 4)]) (N := ["arrows", "leaves", "places", "names", "leaf", "at"]) (sc := defScope s_leaves_again) (by decide +kernel)) (fun _ _ _ _ _ => pg_name (i := 4) sc_leaves_again.nd rfl (Or.inl rfl)) (fun _ _ _ _ _ => pts_nil) (fun _ _ _ _ _ => (pe_ix (ix_tupK K rfl) (pv 4) pe_int (fun _ _ => rfl)))))
      (pss_cons (ps_set (i := 3) sc_leaves_again.nd rfl (Or.inr rfl) (pe_lc (own := [("leaf", 4)]) (by rfl) sc_leaves_again.nd (pi_list (pv 1)) (blkOk_by (own := [("leaf", 4)]) (N := ["arrows", "leaves", "places", "names", "leaf", "at"]) (sc := defScope s_leaves_again) (by decide +kernel)) (fun _ _ _ _ _ => pg_name (i := 4) sc_leaves_again.nd rfl (Or.inl rfl)) (fun _ _ _ _ _ => pts_nil) (fun _ _ _ _ _ => (pe_ix (ix_tupK K rfl) (pv 4) pe_int (fun _ _ => rfl)))))
      (pss_one (ps_ret (pe_lc (own := [("at", 5)]) (by rfl) sc_leaves_again.nd (pi_range1 (by rfl) T.range (pa_cons (pe_callB call_len_seq (by rfl) T.len PySem.boot_len (pa_cons (pv 1) pa_nil)) pa_nil)) (blkOk_by (own := [("at", 5)]) (N := ["arrows", "leaves", "places", "names", "leaf", "at"]) (sc := defScope s_leaves_again) (by decide +kernel)) (fun _ _ _ _ _ => pg_name (i := 5) sc_leaves_again.nd rfl (Or.inl rfl)) (fun _ _ _ _ _ => (pts_one (PW.pt (pw_or (pt_cmpR (op_in_seqK K rfl) (pe_ix (ix_listK K rfl) (pv 2) (pv 5) (fun _ _ => rfl)) (pe_slice (sl_listK K rfl) (pv 2) po_none (po_some (pv 5))) rfl) (pw_or1 (pt_cmpR (op_in_seqK K rfl) (pe_ix (ix_listK K rfl) (pv 3) (pv 5) (fun _ _ => rfl)) (pe_slice (sl_listK K rfl) (pv 3) po_none (po_some (pv 5))) rfl)))))) (fun _ _ _ _ _ => (pv 5))))))), ?_⟩
    obtain ⟨a, xs, rfl, nS, ea, hA⟩ := hd.list
    have hn : xs.length = Ls.length := by rw [hA.length, List.length_map]
    dsimp only [tSeq, tAsg]
    refine lc_listM (K := K) rfl ea ((Ls.map (·.1)).map V.int) (by rw [List.length_map, List.length_map, hn]) (by rw [hn]; exact hl) ?_ ?_
    · rintro i x H1 N A z hz sm hx hA5
      obtain ⟨p, t, ed, rfl, nt, et⟩ := hA.ldS sm hx
      rw [List.map_map, List.getElem?_map, ed] at hz
      cases hz
      exact ⟨rfl, _, rfl, t, _, 0, _, rfl, rfl, .of et, rfl, hA5 _ (Same.refl _)⟩
    intro D1 H1 nD1 s1 e1
    dsimp only [gName, tSeq, tAsg]
    refine lc_listM (K := K) rfl (s1 _ _ ea) ((Ls.map (·.2)).map V.str) (by rw [List.length_map, List.length_map, hn]) (by rw [hn]; exact hl) ?_ ?_
    · rintro i x H2 N A z hz sm hx hA5
      obtain ⟨p, t, ed, rfl, nt, et⟩ := hA.ldS (fun b o e => sm _ _ (s1 _ _ e)) hx
      rw [List.map_map, List.getElem?_map, ed] at hz
      cases hz
      exact ⟨rfl, _, rfl, t, _, 1, _, rfl, rfl, .of et, rfl, hA5 _ (Same.refl _)⟩
    intro D2 H2 nD2 s2 e2
    have e1 := s2 _ _ e1
    have s2 : Same H H2 := fun b o e => s2 _ _ (s1 _ _ e)
    refine ⟨_, rfl, a, xs, rfl, .inl (.of (s2 _ _ ea)), _, rfl, ?_⟩
    refine ⟨(line62 (by rw [hn]; exact hl)).1, (line62 (by rw [hn]; exact hl)).2, ?_⟩
    refine lc_flt walk_range (fun i => (Ls[i]?).any fun p => decide (p.1 ∈ (Ls.map (·.1)).take i) || decide (p.2 ∈ (Ls.map (·.2)).take i)) (fun i => .int i) (by rw [Int.toNat_natCast, hn]; exact hl) (fun _ _ => trivial) ?_ ?_
    · rintro i x H3 H4 N A hi sm ⟨rfl, rfl⟩ hN hA5
      dsimp only
      rw [Int.zero_add]
      rw [Int.toNat_natCast, hn] at hi
      have e1 := sm _ _ e1
      have e2 := sm _ _ e2
      have eL : Ls[i]? = some Ls[i] := List.getElem?_eq_getElem hi
      have eP : ((Ls.map (·.1)).map V.int)[i]? = some (.int Ls[i].1) := by rw [List.getElem?_map, List.getElem?_map, eL]; rfl
      have eN : ((Ls.map (·.2)).map V.str)[i]? = some (.str Ls[i].2) := by rw [List.getElem?_map, List.getElem?_map, eL]; rfl
      rw [eL] at hN hA5
      refine ⟨rfl, _, rfl, _, rfl, _, _, _, _, rfl, rfl, .of e1, atI_nat eP, ?_⟩
      refine ⟨_, rfl, _, rfl, _, rfl, D1, _, rfl, .of e1, fun P nP => ?_⟩
      have s4 := same_new (o := .lst (cutV ((Ls.map (·.1)).map V.int) none (some (i : Int)))) (Same.refl H4) nP
      have e2 := s4 _ _ e2
      rw [cutV_take, ← List.map_take] at s4 e2 ⊢
      refine ⟨P, _, rfl, .inl (.of upd_same), rfl, flat_ints, _, rfl, ?_⟩
      rw [inV_ints]
      refine ite2 (fun e => ?_) (fun e => ?_)
      · refine ite2 (fun _ => ⟨_, rfl, hA5 _ s4 ?_⟩) (fun z => absurd rfl z)
        show (_ || _) = true
        rw [show decide (Ls[i].1 ∈ (Ls.map (·.1)).take i) = true from e]
        rfl
      have f1 : decide (Ls[i].1 ∈ (Ls.map (·.1)).take i) = false := Bool.eq_false_iff.mpr e
      refine ⟨_, rfl, _, rfl, _, _, _, _, rfl, rfl, .of e2, atI_nat eN, _, rfl, _, rfl, _, rfl, D2, _, rfl, .of e2, fun R nR => ?_⟩
      have s5 := same_new (o := .lst (cutV ((Ls.map (·.2)).map V.str) none (some (i : Int)))) (Same.refl _) nR
      have ec : cutV ((Ls.map (·.2)).map V.str) none (some (i : Int)) = ((Ls.map (·.2)).take i).map V.str := by rw [cutV_take, ← List.map_take]
      rw [ec] at s5 ⊢
      have s6 : Same H4 _ := fun b o e => s5 _ _ (s4 b o e)
      refine ⟨R, _, rfl, .inl (.of upd_same), rfl, flat_strs, _, rfl, ?_⟩
      rw [inV_strs]
      have f2 : ∀ b, decide (Ls[i].2 ∈ (Ls.map (·.2)).take i) = b → Option.any (fun p => decide (p.1 ∈ (Ls.map (·.1)).take i) || decide (p.2 ∈ (Ls.map (·.2)).take i)) (some Ls[i]) = b := fun b hb => by
        show (_ || _) = b
        rw [f1, hb]
        rfl
      refine ite2 (fun e => ⟨_, rfl, hA5 _ s6 (f2 _ e)⟩) (fun e => hN _ s6 (f2 _ (Bool.eq_false_iff.mpr e)))
    · intro D H' nD sm e
      rw [Int.toNat_natCast, hn] at e
      exact q H' D (fun b o eb => sm _ _ (s2 _ _ eb)) (s2.free nD) e


set_option maxHeartbeats 4000000 in
theorem ok_arrows_again  (F : Fun K "_arrows_again" "_arrows_again" s_arrows_again f fd) (T : Txt w K mg) : FnOk P w K mg base CX0 (k + 1) f fd ["arrows", "leaves"] (sp_arrows_again) := by
  refine F.ok sc_arrows_again (fun vs H Q E h => ?_) (fun cdv A outer s0 H vs Q E hr h => ?_)
  · obtain ⟨S, y, x, As, rfl, hd, hl, q⟩ := h
    rfl
  · obtain ⟨S, y, x, As, rfl, hd, hl, q⟩ := h
    refine ⟨_, (pss_one (ps_ret (pe_lc (own := [("at", 2), ("arrow", 3)]) (by rfl) sc_arrows_again.nd (pi_enum (by rfl) T.enumerate (pa_cons (pv 0) pa_nil)) (blkOk_by (own := [("at", 2), ("arrow", 3)]) (N := ["arrows", "leaves", "at", "arrow"]) (sc := defScope s_arrows_again) (by decide +kernel)) (fun _ _ _ _ _ => (pg_pairK K rfl rfl (pg_name (i := 2) sc_arrows_again.nd rfl (Or.inl rfl)) (pg_name (i := 3) sc_arrows_again.nd rfl (Or.inl rfl)) (by rfl) (by rfl) (by rfl) (by rfl))) (fun _ _ _ _ _ => (pts_one (pt_cmpR (op_inDK K rfl (u65 hr)) (pv 3) (pe_slice (sl_listK K rfl) (pv 0) po_none (po_some (pv 2))) rfl))) (fun _ _ _ _ _ => (pv 2))))), ?_⟩
    obtain ⟨a, xs, rfl, nS, ea, hA⟩ := hd.list
    have hn : xs.length = As.length := by rw [hA.length, List.length_map]
    refine ⟨_, rfl, a, xs, rfl, .of ea, ?_⟩
    refine lc_flt walk_enum (fun i => (As[i]?).any fun p => decide (p ∈ As.take i)) (fun i => .int i) (by rw [hn]; exact hl) (fun H' sm => .of (sm _ _ ea)) ?_ ?_
    · rintro i x H1 H2 N B hi sm ⟨T, u, v, rfl, nT, rfl, h1, h2⟩ hN hB
      cases h1
      refine ⟨T, _, rfl, .of upd_same, rfl, ?_⟩
      have sm2 := same_new (o := .tup [.int (i : Nat), v]) (Same.refl H1) nT
      obtain ⟨p, t, ed, rfl, nt, et⟩ := hA.pd h2
      rw [ed] at hN hB
      refine ⟨_, _, rfl, _, _, rfl, rfl, ?_⟩
      refine ⟨rfl, _, rfl, _, rfl, ?_⟩
      refine ⟨_, rfl, _, rfl, a, xs, rfl, .of (sm2 _ _ (sm _ _ ea)), fun P nP => ?_⟩
      rw [cutV_take]
      have sm3 := same_new (o := .lst (xs.take i)) (Same.refl _) nP
      have s3 : Same H (upd (upd H1 T (.tup [.int (i : Nat), .ref t])) P (.lst (xs.take i))) := fun b o e => sm3 _ _ (sm2 _ _ (sm _ _ e))
      have hA2 := (hA.take i).same s3
      rw [← List.map_take] at hA2
      refine ⟨pd p, (As.take i).map pd, (Da.tup nt (s3 _ _ et) (.cons (.int _) (.cons (.int _) .nil))).dp, .lst (.of upd_same) hA2.dp, shaped_pd p, shaped_pds _, _, rfl, ?_⟩
      rw [any_pd]
      have s5 : Same H1 (upd (upd H1 T (.tup [.int (i : Nat), .ref t])) P (.lst (xs.take i))) := fun b o e => sm3 _ _ (sm2 _ _ e)
      refine ite2 (fun e => ⟨_, rfl, hB _ s5 e⟩) fun e => hN _ s5 ?_
      exact Bool.eq_false_iff.mpr e
    · intro D H' nD sm e
      rw [hn] at e
      exact q H' D sm nD e


set_option maxHeartbeats 4000000 in
theorem ok_no_leaves  (F : Fun K "_no_leaves" "_no_leaves" s_no_leaves f fd) (T : Txt w K mg) : FnOk P w K mg base CX0 (k + 1) f fd ["arrows", "leaves"] (sp_no_leaves) := by
  refine F.ok sc_no_leaves (fun vs H Q E h => ?_) (fun cdv A outer s0 H vs Q E hr h => ?_)
  · obtain ⟨S, y, x, ds, rfl, hd, q⟩ := h
    rfl
  · obtain ⟨S, y, x, ds, rfl, hd, q⟩ := h
    refine ⟨_, (pss_one (ps_ret (pe_ifExp (pt_tru K rfl (pv 1) (fun _ => rfl)) (pe_lst pa_nil) (pe_lst (pa_cons pe_int pa_nil))))), ?_⟩
    obtain ⟨a, xs, rfl, nS, ea, hA⟩ := hd.list
    refine ⟨_, rfl, _, .inl ⟨xs, .of ea, rfl⟩, ?_⟩
    cases hA with
    | nil =>
      refine ⟨(by show 1 ≤ sizeLine; decide), fun p np => ?_⟩
      exact q _ _ (same_new (Same.refl H) np) np (by rw [upd_same]; rfl)
    | cons h r =>
      refine ⟨(by show 0 ≤ sizeLine; decide), fun p np => ?_⟩
      exact q _ _ (same_new (Same.refl H) np) np (by rw [upd_same, if_neg (by simp)]; rfl)


set_option maxHeartbeats 4000000 in
theorem ok_bad_degrees  (F : Fun K "_bad_degrees" "_bad_degrees" s_bad_degrees f fd) (T : Txt w K mg) : FnOk P w K mg base CX0 (k + 1) f fd ["mothers", "children", "labelled"] (sp_bad_degrees) := by
  refine F.ok sc_bad_degrees (fun vs H Q E h => ?_) (fun cdv A outer s0 H vs Q E hr h => ?_)
  · obtain ⟨D, C, z, P, am, ac, up, dn, rfl, hM, hC, hD, h64, q⟩ := h
    rfl
  · obtain ⟨D, C, z, P, am, ac, up, dn, rfl, hM, hC, hD, h64, q⟩ := h
    refine ⟨_, (pss_one (ps_ret (pe_lock (pe_lc (own := [("place", 3)]) (by rfl) sc_bad_degrees.nd (pi_keys (pv 0)) (blkOk_by (own := [("place", 3)]) (N := ["mothers", "children", "labelled", "place"]) (sc := defScope s_bad_degrees) (by decide +kernel)) (fun _ _ _ _ _ => pg_name (i := 3) sc_bad_degrees.nd rfl (Or.inl rfl)) (fun _ _ _ _ _ => (pts_one (pt_cmpR (op_notInDTK K rfl (u65 hr)) (pe_tup (pa_cons (pe_callB (call_len_seqK K rfl) (by rfl) T.len PySem.boot_len (pa_cons (pe_dget (u1 hr) (pv 0) (pv 3) (fun _ _ => rfl)) pa_nil)) (pa_cons (pe_callB (call_len_seqK K rfl) (by rfl) T.len PySem.boot_len (pa_cons (pe_dget (u1 hr) (pv 1) (pv 3) (fun _ _ => rfl)) pa_nil)) pa_nil))) (pe_glob (by rfl) T.DEGREES.1 (v := .ref (He.ga K "DEGREES")) rfl) rfl))) (fun _ _ _ _ _ => (pv 3)))))), ?_⟩
    refine lc_dict rfl hD (badDeg up dn) (Nat.lt_trans h64 (by decide)) (fun _ => rfl) (fun _ => rfl) ?_ (fun R H' nR sm e => q H' R sm nR e)
    intro x hx od H1 k sm hk
    have hM1 := (hM.lock (od := od) hD).same sm
    have hC1 := (hC.lock (od := od) hD).same sm
    refine ⟨_, rfl, _, rfl, D, .ref (am x), rfl, hM1.get hx, _, _, rfl, .inl (.of (hM1.val x hx)), ?_⟩
    refine ⟨_, rfl, _, rfl, C, .ref (ac x), rfl, hC1.get hx, _, _, rfl, .inl (.of (hC1.val x hx)), ?_⟩
    refine ⟨(by show 2 ≤ sizeLine; decide), fun L nL => ?_⟩
    rw [List.length_map, List.length_map]
    refine ⟨.tuple [.int (up x).length, .int (dn x).length], _, .tup (.of upd_same) (.cons (.int _) (.cons (.int _) .nil)), T.DEGREES.2 _, rfl, shaped_tupD _, _, rfl, ?_⟩
    rw [any_deg]
    exact hk _ (same_new (Same.refl _) nL)


set_option maxHeartbeats 4000000 in
theorem ok_bad_roots  (F : Fun K "_bad_roots" "_bad_roots" s_bad_roots f fd) (T : Txt w K mg) : FnOk P w K mg base CX0 (k + 1) f fd ["mothers", "children", "labelled"] (sp_bad_roots) := by
  refine F.ok sc_bad_roots (fun vs H Q E h => ?_) (fun cdv A outer s0 H vs Q E hr h => ?_)
  · obtain ⟨y, z, D, P, am, val, rfl, hM, hD, h64, q⟩ := h
    rfl
  · obtain ⟨y, z, D, P, am, val, rfl, hM, hD, h64, q⟩ := h
    refine ⟨_, (pss_cons (ps_lock (ps_setLc (i := 3) (own := [("place", 4)]) (by rfl) sc_bad_roots.nd rfl rfl (sw_true rfl rfl rfl (by decide +kernel)) (pi_keys (pv 0)) (blkOk_by (own := [("place", 4)]) (N := ["mothers", "children", "labelled", "roots", "place"]) (sc := defScope s_bad_roots) (by decide +kernel)) (fun _ _ _ _ _ => pg_name (i := 4) sc_bad_roots.nd rfl (Or.inl rfl)) (fun _ _ _ _ _ => (pts_one (pt_not (pt_tru K rfl (pe_dget (u1 hr) (pv 0) (pv 4) (fun _ _ => rfl)) (fun _ => rfl))))) (fun _ _ _ _ _ => (pv 4))))
      (pss_one (ps_ret (pe_ifExp (pt_tru K rfl (pv 3) (fun _ => rfl)) (pe_slice sl_list (pv 3) (po_some pe_int) po_none) (pe_callTy (call_list_dK rfl) (by rfl) T.list (by decide +kernel) (pa_cons (pv 0) pa_nil)))))), ?_⟩
    refine lock_asg ?_
    refine lc_dict rfl hD (fun p => (val p).isEmpty) (Nat.lt_trans h64 (by decide)) (fun _ => rfl) (fun _ => rfl) ?_ ?_
    · intro x hx od H1 k sm hk
      refine ⟨_, rfl, _, rfl, D, .ref (am x), rfl, ((hM.lock hD).same sm).get hx, _, .inl ⟨_, .of (((hM.lock hD).same sm).val x hx), rfl⟩, ?_⟩
      have e : (!(!((val x).map V.int).isEmpty)) = (val x).isEmpty := by cases val x <;> rfl
      show k (!(!((val x).map V.int).isEmpty)) H1
      rw [e]
      exact hk _ (Same.refl _)
    intro R H1 nR sm eR
    generalize (P.filter fun p => (val p).isEmpty) = Z at eR q
    refine ⟨_, rfl, _, .inl ⟨_, .of eR, rfl⟩, ?_⟩
    cases Z with
    | nil =>
      refine ⟨_, rfl, D, _, rfl, sm _ _ hD, fun L nL => ?_⟩
      refine q _ L (same_snoc sm nL) (sm.free nL) ?_
      rw [upd_same, if_pos rfl, List.map_map]
      rfl
    | cons z Z =>
      refine ⟨_, rfl, _, rfl, R, _, rfl, .of eR, fun L nL => ?_⟩
      refine q _ L (same_snoc sm nL) (sm.free nL) ?_
      rw [upd_same, if_neg (by simp), show (1 : Int) = ((1 : Nat) : Int) from rfl, cutV_drop _ _ (by simp), List.map_drop]


set_option maxHeartbeats 4000000 in
theorem ok_ring_places  (F : Fun K "_ring_places" "_ring_places" s_ring_places f fd) (T : Txt w K mg)
    (O_places_below : Own P w K mg base k "places_below" ["place", "children"] (sp_places_below)) : FnOk P w K mg base CX0 (k + 1) f fd ["mothers", "children", "labelled"] (sp_ring_places) := by
  refine F.ok sc_ring_places (fun vs H Q E h => ?_) (fun cdv A outer s0 H vs Q E hr h => ?_)
  · obtain ⟨M, C, D, z, P, ac, val, ring, rfl, hC, hD, h64, hV, hr0, q⟩ := h
    rfl
  · obtain ⟨M, C, D, z, P, ac, val, ring, rfl, hC, hD, h64, hV, hr0, q⟩ := h
    refine ⟨_, (pss_one (ps_ret (pe_lock (pe_lc (own := [("place", 3)]) (by rfl) sc_ring_places.nd (pi_keys (pv 1)) (blkOk_by (own := [("place", 3)]) (N := ["mothers", "children", "labelled", "place"]) (sc := defScope s_ring_places) (by decide +kernel)) (fun _ _ _ _ _ => pg_name (i := 3) sc_ring_places.nd rfl (Or.inl rfl)) (fun _ _ _ _ _ => (pts_one (pt_cmpR (op_in_seqK K rfl) (pv 3) (pe_own O_places_below hr (by rfl) (pa_cons (pv 3) (pa_cons (pv 1) pa_nil))) rfl))) (fun _ _ _ _ _ => (pv 3)))))), ?_⟩
    refine lc_dict rfl hD ring (Nat.lt_trans h64 (by decide)) (fun _ => rfl) (fun _ => rfl) ?_ (fun R H' nR sm e => q H' R sm nR e)
    intro x hx od H1 k sm hk
    refine ⟨_, rfl, _, rfl, _, rfl, D, P, ac, val, x, rfl, (hC.lock hD).same sm, hx, h64, hV, fun H2 R L s2 n2 e2 hp hL => ?_⟩
    refine ⟨R, _, rfl, .inl (.of e2), rfl, flat_ints, _, rfl, ?_⟩
    rw [inV_ints]
    have e : decide (x ∈ L) = ring x := by
      rw [Bool.eq_iff_iff, decide_eq_true_eq, hL, hr0 x hx]
    rw [e]
    exact hk H2 s2


set_option maxHeartbeats 4000000 in
theorem ok_bad_labels  (F : Fun K "_bad_labels" "_bad_labels" s_bad_labels f fd) (T : Txt w K mg) : FnOk P w K mg base CX0 (k + 1) f fd ["mothers", "children", "labelled"] (sp_bad_labels) := by
  refine F.ok sc_bad_labels (fun vs H Q E h => ?_) (fun cdv A outer s0 H vs Q E hr h => ?_)
  · obtain ⟨M, D, lb, P, ac, val, Lb, rfl, hC, hD, h64, hlb, q⟩ := h
    rfl
  · obtain ⟨M, D, lb, P, ac, val, Lb, rfl, hC, hD, h64, hlb, q⟩ := h
    refine ⟨_, (pss_one (ps_ret (pe_lock (pe_lc (own := [("place", 3)]) (by rfl) sc_bad_labels.nd (pi_keys (pv 1)) (blkOk_by (own := [("place", 3)]) (N := ["mothers", "children", "labelled", "place"]) (sc := defScope s_bad_labels) (by decide +kernel)) (fun _ _ _ _ _ => pg_name (i := 3) sc_bad_labels.nd rfl (Or.inl rfl)) (fun _ _ _ _ _ => (pts_one (pt_cmpR op_ne (pe_notTK K rfl (pe_dget (u1 hr) (pv 1) (pv 3) (fun _ _ => rfl))) (pe_cmpR (op_in_seqK K rfl) (pv 3) (pv 2) rfl) (nomark _)))) (fun _ _ _ _ _ => (pv 3)))))), ?_⟩
    refine lc_dict rfl hD (fun p => (val p).isEmpty != decide (p ∈ Lb)) (Nat.lt_trans h64 (by decide)) (fun _ => rfl) (fun _ => rfl) ?_ (fun R H' nR sm e => q H' R sm nR e)
    intro x hx od H1 k sm hk
    have hC1 := (hC.lock (od := od) hD).same sm
    have hlb1 : H1 lb = some (.lst (Lb.map V.int)) := sm _ _ (by rw [upd_ne (fun z => by rw [z, hD] at hlb; cases hlb)]; exact hlb)
    refine ⟨_, rfl, _, rfl, D, .ref (ac x), rfl, hC1.get hx, _, .inl ⟨_, .of (hC1.val x hx), rfl⟩, _, rfl, _, rfl, lb, _, rfl, .inl (.of hlb1), rfl, flat_ints, ?_⟩
    show rNe (.bl !(!((val x).map V.int).isEmpty)) (.bl (inV (.int x) (Lb.map V.int))) H1 fun x H' => ∃ c, x = V.bl c ∧ k c H'
    rw [inV_ints]
    refine ⟨rfl, _, rfl, ?_⟩
    have e : (!decide (V.bl (!(!((val x).map V.int).isEmpty)) = V.bl (decide (x ∈ Lb)))) = ((val x).isEmpty != decide (x ∈ Lb)) := by
      have h1 : (!(!((val x).map V.int).isEmpty)) = (val x).isEmpty := by cases val x <;> rfl
      rw [h1]
      cases (val x).isEmpty <;> cases decide (x ∈ Lb) <;> decide
    rw [e]
    exact hk _ (Same.refl _)


set_option maxHeartbeats 4000000 in
theorem ok_too_many_mixings  (F : Fun K "_too_many_mixings" "_too_many_mixings" s_too_many_mixings f fd) (T : Txt w K mg) : FnOk P w K mg base CX0 (k + 1) f fd ["mothers", "children", "labelled"] (sp_too_many_mixings) := by
  refine F.ok sc_too_many_mixings (fun vs H Q E h => ?_) (fun cdv A outer s0 H vs Q E hr h => ?_)
  · obtain ⟨y, z, D, P, am, val, rfl, hM, hD, h64, q⟩ := h
    rfl
  · obtain ⟨y, z, D, P, am, val, rfl, hM, hD, h64, q⟩ := h
    refine ⟨_, (pss_cons (ps_set (i := 3) sc_too_many_mixings.nd rfl (Or.inl rfl) (pe_callB call_len_seq (by rfl) T.len PySem.boot_len (pa_cons (pe_lock (pe_lc (own := [("place", 4)]) (by rfl) sc_too_many_mixings.nd (pi_keys (pv 0)) (blkOk_by (own := [("place", 4)]) (N := ["mothers", "children", "labelled", "many", "place"]) (sc := defScope s_too_many_mixings) (by decide +kernel)) (fun _ _ _ _ _ => pg_name (i := 4) sc_too_many_mixings.nd rfl (Or.inl rfl)) (fun _ _ _ _ _ => (pts_one (pt_cmpR op_eq (pe_callB (call_len_seqK K rfl) (by rfl) T.len PySem.boot_len (pa_cons (pe_dget (u1 hr) (pv 0) (pv 4) (fun _ _ => rfl)) pa_nil)) pe_int (nomark _)))) (fun _ _ _ _ _ => (pv 4)))) pa_nil)))
      (pss_one (ps_ret (pe_ifExp (pt_cmpR op_gt (pv 3) (pe_gint (by rfl) T.MOST_MIXINGS) (nomark _)) (pe_lst (pa_cons (pv 3) pa_nil)) (pe_lst pa_nil))))), ?_⟩
    refine lc_dict rfl hD (fun p => (val p).length == 2) (Nat.lt_trans h64 (by decide)) (fun _ => rfl) (fun _ => rfl) ?_ ?_
    · intro x hx od H1 k sm hk
      refine ⟨_, rfl, _, rfl, D, .ref (am x), rfl, ((hM.lock hD).same sm).get hx, _, _, rfl, .inl (.of (((hM.lock hD).same sm).val x hx)), rfl, _, rfl, ?_⟩
      rw [List.length_map, dec_two]
      exact hk _ (Same.refl _)
    intro R H1 nR sm eR
    generalize (P.filter fun p => (val p).length == 2) = Z at eR q
    refine ⟨R, _, rfl, .inl (.of eR), ?_⟩
    rw [List.length_map]
    refine ⟨_, rfl, _, _, rfl, rfl, _, rfl, ite2 (fun e => ?_) (fun e => ?_)⟩
    · have e : (8 : Int) < Z.length := of_decide_eq_true e
      refine ⟨_, rfl, (by show 1 ≤ sizeLine; decide), fun L nL => ?_⟩
      refine q _ L (same_snoc sm nL) (sm.free nL) ?_
      rw [upd_same, if_pos (by omega)]
    · have e : ¬ (8 : Int) < Z.length := fun h => e (decide_eq_true h)
      refine ⟨(by show 0 ≤ sizeLine; decide), fun L nL => ?_⟩
      refine q _ L (same_snoc sm nL) (sm.free nL) ?_
      rw [upd_same, if_neg (by omega)]


set_option maxHeartbeats 4000000 in
theorem ok_first_fault  (F : Fun K "first_fault" "first_fault" s_first_fault f fd) (T : Txt w K mg)
    (O_long_lists : Own P w K mg base k "_long_lists" ["arrows", "leaves"] (sp_long_lists))
    (O_bad_arrows : Own P w K mg base k "_bad_arrows" ["arrows", "leaves"] (sp_bad_arrows))
    (O_bad_leaves : Own P w K mg base k "_bad_leaves" ["arrows", "leaves"] (sp_bad_leaves))
    (O_bad_names : Own P w K mg base k "_bad_names" ["arrows", "leaves"] (sp_bad_names))
    (O_leaves_again : Own P w K mg base k "_leaves_again" ["arrows", "leaves"] (sp_leaves_again))
    (O_arrows_again : Own P w K mg base k "_arrows_again" ["arrows", "leaves"] (sp_arrows_again))
    (O_no_leaves : Own P w K mg base k "_no_leaves" ["arrows", "leaves"] (sp_no_leaves))
    (O_bad_degrees : Own P w K mg base k "_bad_degrees" ["mothers", "children", "labelled"] (sp_bad_degrees))
    (O_bad_roots : Own P w K mg base k "_bad_roots" ["mothers", "children", "labelled"] (sp_bad_roots))
    (O_ring_places : Own P w K mg base k "_ring_places" ["mothers", "children", "labelled"] (sp_ring_places))
    (O_bad_labels : Own P w K mg base k "_bad_labels" ["mothers", "children", "labelled"] (sp_bad_labels))
    (O_too_many_mixings : Own P w K mg base k "_too_many_mixings" ["mothers", "children", "labelled"] (sp_too_many_mixings)) : FnR P w K mg base CX0 (k + 1) f (starSp 1 (sp_first_fault K)) := by
  refine okStar (ps := ["finders"]) (pv := "given") F sc_first_fault (fun kV doc pm an cdv ct => StX.bind_star1 (B := fun us => bindArgs (PySem.W.fnOf "first_fault" "first_fault" (defArgs s_first_fault) (defBody s_first_fault) (defScope s_first_fault) .none kV doc pm an cdv ct) ⟨us, []⟩) (fun _ => rfl) (fun _ _ _ => rfl)) (fun cdv A outer s0 H vs Q E hr h => ?_)
  · obtain ⟨H0, D, G, ks, as, gs, ls, rfl, hF, sm0, nD, eD, eG, q1, q2⟩ := h
    refine ⟨_, (pss_cons (ps_lock (ps_for PassesOwn.never rfl (pi_keys (pv 0)) (pg_name (i := 2) sc_first_fault.nd rfl (Or.inl rfl))
        (pss_cons (ps_set (i := 3) sc_first_fault.nd rfl (Or.inl rfl) (pe_dget (u1 hr) (pv 0) (pv 2) (fun _ _ => rfl)))
        (pss_cons (ps_set (i := 4) sc_first_fault.nd rfl (Or.inl rfl) (pe_callHS (i := 3) hr (by rfl) (.inl rfl) (pv 1)))
        (pss_one (ps_if (pt_tru K rfl (pv 4) (fun _ => rfl))
          (pss_one (ps_ret (pe_tup (pa_cons (pv 2) (pa_cons (pe_ix ix_list (pv 4) pe_int (fun _ _ => rfl)) pa_nil)))))
          pss_nil))))))
      (pss_one (ps_ret pe_non))), ?_⟩
    have sz : 1000 < sizeLine := by decide
    have hFin : ks.Nodup ∧ ks.length = as.length ∧ ks.length ≤ 100 ∧ ls.length = ks.length ∧ ∀ (i : Nat) (kk : Str), ks[i]? = some kk → ∀ H4 : Hp, Same H0 H4 → (∀ j, j < i → ∀ z, ls[j]? = some z → z.2 = []) → ∃ fa sp l, as[i]? = some fa ∧ Held P w K mg base k fa sp ∧ ls[i]? = some (kk, l) ∧
        ∀ Q' : VK, (∀ H'' D, Same H4 H'' → H4 D = none → H'' D = some (.lst (l.map V.int)) → Q' (.ref D) H'') → sp gs H4 Q' (fun _ _ _ => False) := by
      rcases hF with ⟨S, x, y, ds, es, rfl, rfl, rfl, hx, hy, hl1, hl2, hz, rfl⟩ | ⟨M, C, lb, Pl, Lb, am, ac, Bs, ring, rfl, rfl, rfl, hM, hC, aM, aC, elb, h64, hdn, hring, rfl⟩
      · refine ⟨by decide, rfl, by decide, rfl, fun i kk hk H4 sm hp => ?_⟩
        have hp' : ∀ j, j < i → ∀ z, (lfinds ds es)[j]? = some z → z.2 = [] := fun j hj z hz => by
          have := hp j hj (z.1, z.2.map fun n : Nat => (n : Int)) (by rw [List.getElem?_map, hz]; rfl)
          simpa using this
        have hx1 := hx.same sm
        have hy1 := hy.same sm
        have tyL : 2 < i → (lsOf es).map ld = es := fun h => lsOf_eq fun d hd => by
          have := atB_nil (hp' 2 h _ rfl) d hd
          simpa using this
        have tyA : 1 < i → (asOf ds).map pd = ds := fun h => asOf_eq fun d hd => by
          have := atB_nil (hp' 1 h _ rfl) d hd
          simpa using this
        have ll : (lsOf es).length = es.length := List.length_map ..
        have la : (asOf ds).length = ds.length := List.length_map ..
        have conv : ∀ (l : List Nat) (Q' : VK), (∀ H'' D, Same H4 H'' → H4 D = none → H'' D = some (.lst ((l.map fun n : Nat => (n : Int)).map V.int)) → Q' (.ref D) H'') → (∀ H'' D, Same H4 H'' → H4 D = none → H'' D = some (ixs l) → Q' (.ref D) H'') := fun l Q' q H'' D s n e => q H'' D s n (by rw [e, List.map_map]; rfl)
        obtain ⟨_, _, _, d0, m0, d1, m1, d2, m2, d3, m3, d4, m4, d5, m5, d6, m6⟩ := T.LIST_FAULTS
        rcases i with _ | _ | _ | _ | _ | _ | _ | i
        · cases hk
          exact ⟨_, _, _, rfl, O_long_lists.held m0, rfl, fun Q' q => ⟨S, x, y, ds, es, rfl, hx1, hy1, conv _ _ q⟩⟩
        · cases hk
          exact ⟨_, _, _, rfl, O_bad_arrows.held m1, rfl, fun Q' q => ⟨S, x, y, ds, rfl, hx1, hl1, conv _ _ q⟩⟩
        · cases hk
          exact ⟨_, _, _, rfl, O_bad_leaves.held m2, rfl, fun Q' q => ⟨S, x, y, es, rfl, hy1, hl2, conv _ _ q⟩⟩
        · cases hk
          exact ⟨_, _, _, rfl, O_bad_names.held m3, rfl, fun Q' q => ⟨S, x, y, lsOf es, rfl, by rw [tyL (by omega)]; exact hy1, by omega, hz, conv _ _ q⟩⟩
        · cases hk
          exact ⟨_, _, _, rfl, O_leaves_again.held m4, rfl, fun Q' q => ⟨S, x, y, lsOf es, rfl, by rw [tyL (by omega)]; exact hy1, by omega, conv _ _ q⟩⟩
        · cases hk
          exact ⟨_, _, _, rfl, O_arrows_again.held m5, rfl, fun Q' q => ⟨S, y, x, asOf ds, rfl, by rw [tyA (by omega)]; exact hx1, by omega, conv _ _ q⟩⟩
        · cases hk
          exact ⟨_, _, _, rfl, O_no_leaves.held m6, rfl, fun Q' q => ⟨S, x, y, es, rfl, hy1, conv _ _ q⟩⟩
        · cases hk
      · refine ⟨by decide, rfl, by decide, rfl, fun i kk hk H4 sm hp => ?_⟩
        have hM4 := hM.same sm
        have hC4 := hC.same sm
        have aM4 := sm _ _ aM
        have aC4 := sm _ _ aC
        have e4 := sm _ _ elb
        obtain ⟨_, _, _, d0, m0, d1, m1, d2, m2, d3, m3, d4, m4⟩ := T.PLACE_FAULTS
        rcases i with _ | _ | _ | _ | _ | i
        · cases hk
          exact ⟨_, _, _, rfl, O_bad_degrees.held m0, rfl, fun Q' q => ⟨M, C, .ref lb, Pl, am, ac, upsOf Bs, downsOf Bs, rfl, hM4, hC4, aM4, h64, q⟩⟩
        · cases hk
          exact ⟨_, _, _, rfl, O_bad_roots.held m1, rfl, fun Q' q => ⟨.ref C, .ref lb, M, Pl, am, upsOf Bs, rfl, hM4, aM4, h64, q⟩⟩
        · cases hk
          exact ⟨_, _, _, rfl, O_ring_places.held m2, rfl, fun Q' q => ⟨.ref M, .non, C, .ref lb, Pl, ac, downsOf Bs, ring, rfl, hC4, aC4, h64, hdn, hring, q⟩⟩
        · cases hk
          exact ⟨_, _, _, rfl, O_bad_labels.held m3, rfl, fun Q' q => ⟨.ref M, C, lb, Pl, ac, downsOf Bs, Lb, rfl, hC4, aC4, h64, e4, q⟩⟩
        · cases hk
          refine ⟨_, _, _, rfl, O_too_many_mixings.held m4, rfl, fun Q' q => ⟨.ref C, .ref lb, M, Pl, am, upsOf Bs, rfl, hM4, aM4, h64, fun H' R s n e => q H' R s n ?_⟩⟩
          rw [e]
          split <;> rfl
        · cases hk
    obtain ⟨nd, hl, h100, hls, hcall⟩ := hFin
    have hzl : (ks.zip as).length = ks.length := by rw [List.length_zip]; omega
    refine ⟨D, _, eD, trivial, fun od => ?_⟩
    have nGD : G ≠ D := fun e => by rw [e, eD] at eG; cases eG
    refine ⟨_, rfl, D, od, rfl, .inl ⟨_, upd_same, ?_⟩⟩
    have smL : ∀ {H' : Hp}, Same (upd H D (.frz od (tabO ks as))) H' → Same H0 H' := fun s b o e => s _ _ (by rw [upd_ne (fun z => by rw [z, nD] at e; cases e)]; exact sm0 _ _ e)
    refine for_it (walk_keys (d := D) (o := od) (kvs := (ks.zip as).map fun ka => ((.inr ka.1 : Key), V.ref ka.2))) (fun i σ H' => (∃ u v z, σ = [some (.ref D), some (.ref G), u, v, z]) ∧ Same (upd H D (.frz od (tabO ks as))) H' ∧ ∀ j, j < i → ∀ z, ls[j]? = some z → z.2 = []) ⟨⟨_, _, _, rfl⟩, Same.refl _, fun j hj => by omega⟩ (fun _ _ _ _ h => h.2.1 _ _ upd_same) ?_ ?_
    · rintro i xk σ H1 H2 hi ⟨⟨u, v, z, rfl⟩, sm, hp⟩ ⟨rfl, kk, vv, hk, rfl⟩
      rw [List.getElem?_map] at hk
      obtain ⟨⟨k1, a1⟩, hz1, hz2⟩ := Option.map_eq_some_iff.mp hk
      cases hz2
      obtain ⟨hk1, ha1⟩ := List.getElem?_zip_eq_some.mp hz1
      obtain ⟨fa, sp, l, hfa, hheld, hlf, hc⟩ := hcall i k1 hk1 H2 (smL sm) hp
      cases ha1.symm.trans hfa
      have eD2 := sm _ _ upd_same
      have eG2 := sm _ _ (show upd H D (.frz od (tabO ks as)) G = _ by rw [upd_ne nGD]; exact eG)
      refine ⟨_, rfl, _, rfl, D, _, rfl, .inl ⟨_, .inr k1, .inr ⟨od, eD2⟩, rfl, (valV_tab nd hk1 ha1).symm⟩, a1, sp, rfl, hheld, _, rfl, G, gs, rfl, .inl (.of eG2), hc _ fun H3 F s3 n3 e3 => ?_⟩
      have sm3 : Same (upd H D (.frz od (tabO ks as))) H3 := fun b o e => s3 _ _ (sm _ _ e)
      refine ⟨_, rfl, _, .inl ⟨_, .of e3, rfl⟩, ?_⟩
      cases l with
      | nil =>
        refine ite2 (fun e => absurd e (by decide)) fun _ => ?_
        refine ⟨⟨_, _, _, rfl⟩, sm3, fun j hj z hz => ?_⟩
        rcases Nat.lt_or_eq_of_le (Nat.le_of_lt_succ hj) with h | rfl
        · exact hp j h z hz
        · rw [hlf] at hz
          cases hz
          rfl
      | cons a r =>
        refine ite2 (fun _ => ?_) fun e => absurd rfl e
        refine ⟨_, rfl, _, rfl, F, _, ((0 : Nat) : Int), .int a, rfl, rfl, .of e3, atI_nat (j := 0) rfl, (by show 2 ≤ sizeLine; decide), fun R nR => ?_⟩
        have eD3 := sm3 _ _ upd_same
        have nRD : R ≠ D := fun z => by rw [z, eD3] at nR; cases nR
        refine ⟨by rw [upd_ne nRD.symm]; exact eD3, ?_⟩
        have s4 : Same H0 (upd H3 R (.tup [.str k1, .int a])) := same_snoc (smL sm3) nR
        exact q2 k1 a (firstF_some hlf hp) _ R (fun b o e => by rw [upd_ne (fun z => by rw [z, nD] at e; cases e)]; exact s4 _ _ e) ((smL sm3).free nR) (by rw [upd_ne nRD]; exact upd_same)
    · rintro σ H1 ⟨_, sm, hp⟩
      refine ⟨sm _ _ upd_same, q1 (firstF_none fun j hj z hz => hp j (by rw [List.length_map, hzl]; omega) z hz) _ fun b o e => ?_⟩
      rw [upd_ne (fun z => by rw [z, nD] at e; cases e)]
      exact smL sm _ _ e


set_option maxHeartbeats 4000000 in
theorem ok_net_fault  (F : Fun K "net_fault" "net_fault" s_net_fault f fd) (T : Txt w K mg)
    (O_first_fault : OwnR P w K mg base k "first_fault" (starSp 1 (sp_first_fault K)))
    (O_relatives : Own P w K mg base k "relatives" ["arrows", "leaves"] (sp_relatives)) : FnOk P w K mg base CX0 (k + 1) f fd ["arrows", "leaves"] (sp_net_fault K) := by
  refine F.ok sc_net_fault (fun vs H Q E h => ?_) (fun cdv A outer s0 H vs Q E hr h => ?_)
  · obtain ⟨S, x, y, As, Bs, Ls, Pl, ring, rfl, hx, hy, hl, hP, h64, hB, hring, hz, hlf, q1, q2⟩ := h
    rfl
  · obtain ⟨S, x, y, As, Bs, Ls, Pl, ring, rfl, hx, hy, hl, hP, h64, hB, hring, hz, hlf, q1, q2⟩ := h
    refine ⟨_, (pss_cons (ps_set (i := 2) sc_net_fault.nd rfl (Or.inl rfl) (pe_ownR O_first_fault hr (by rfl) (pa_cons (pe_callTy cr_dictW (by rfl) T.dict (by decide +kernel) (pa_cons (pe_glob (by rfl) T.LIST_FAULTS.1 (v := .ref (He.ga K "LIST_FAULTS")) rfl) pa_nil)) (pa_cons (pv 0) (pa_cons (pv 1) pa_nil)))))
      (pss_cons (ps_if (pt_cmpR op_notN (pv 2) pe_non (nomark _))
        (pss_one (ps_ret (pv 2)))
        pss_nil)
      (pss_cons (ps_asg (pe_own O_relatives hr (by rfl) (pa_cons (pv 0) (pa_cons (pv 1) pa_nil))) (pg_pairK K rfl rfl (pg_name (i := 3) sc_net_fault.nd rfl (Or.inl rfl)) (pg_name (i := 4) sc_net_fault.nd rfl (Or.inl rfl)) (by rfl) (by rfl) (by rfl) (by rfl)))
      (pss_one (ps_ret (pe_ownR O_first_fault hr (by rfl) (pa_cons (pe_callTy cr_dictW (by rfl) T.dict (by decide +kernel) (pa_cons (pe_glob (by rfl) T.PLACE_FAULTS.1 (v := .ref (He.ga K "PLACE_FAULTS")) rfl) pa_nil)) (pa_cons (pv 3) (pa_cons (pv 4) (pa_cons (pe_lc (own := [("leaf", 5)]) (by rfl) sc_net_fault.nd (pi_list (pv 1)) (blkOk_by (own := [("leaf", 5)]) (N := ["arrows", "leaves", "fault", "mothers", "children", "leaf"]) (sc := defScope s_net_fault) (by decide +kernel)) (fun _ _ _ _ _ => pg_name (i := 5) sc_net_fault.nd rfl (Or.inl rfl)) (fun _ _ _ _ _ => pts_nil) (fun _ _ _ _ _ => (pe_ix (ix_tupK K rfl) (pv 5) pe_int (fun _ _ => rfl)))) pa_nil)))))))))), ?_⟩
    obtain ⟨_, kt1, kv1, _⟩ := T.LIST_FAULTS
    obtain ⟨_, kt2, kv2, _⟩ := T.PLACE_FAULTS
    have sz : 1000 < sizeLine := by decide
    refine ⟨_, _, _, rfl, kt1, kv1, rfl, by decide, fun D nD => ?_⟩
    refine ⟨_, rfl, _, rfl, [.ref D], [x, y], rfl, rfl, (by show 2 ≤ sizeLine; decide), fun G nG => ?_⟩
    have nDG : D ≠ G := fun e => by rw [← e, upd_same] at nG; cases nG
    refine ⟨H, D, G, _, _, [x, y], _, rfl, .inl ⟨S, x, y, _, _, rfl, rfl, rfl, hx, hy, by rw [List.length_map]; omega, by rw [List.length_map]; omega, ?_, rfl⟩, same_snoc (same_snoc (Same.refl H) nD) nG, nD, by rw [upd_ne nDG]; exact upd_same, upd_same, fun _ H1 s1 => ?_, fun wd i e => by rw [firstF_map hlf] at e; cases e⟩
    · intro p hp
      obtain ⟨d, hd, rfl⟩ := List.mem_map.mp hp
      obtain ⟨b, hb, rfl⟩ := List.mem_map.mp hd
      exact hz b hb
    refine ⟨_, rfl, rfl, _, rfl, ?_⟩
    obtain ⟨b, ys, rfl, nS2, eb, hBs⟩ := hy.list
    have hn : ys.length = Ls.length := by rw [hBs.length, List.length_map]
    refine ⟨_, rfl, _, rfl, S, x, .ref b, As, Bs, Ls, Pl, rfl, hx.same s1, hy.same s1, hl, hP, h64, hB, fun H2 D2 M C am ac s2 n2 e2 hM hC dis => ?_⟩
    have s12 : Same H H2 := fun b o e => s2 _ _ (s1 _ _ e)
    refine ⟨D2, _, rfl, .of e2, rfl, _, _, rfl, _, _, rfl, rfl, ?_⟩
    dsimp only
    have hdn : ∀ p ∈ Pl, (downsOf Bs p).length ≤ 1000 ∧ ∀ q ∈ downsOf Bs p, q ∈ Pl := fun p _ => ⟨Nat.le_trans (downsOf_len _ _) (by rw [hB.1.length_eq]; omega), fun q hq => downsOf_mem hB hP hq⟩
    refine ⟨_, _, _, rfl, kt2, kv2, rfl, by decide, fun D3 nD3 => ?_⟩
    refine ⟨_, rfl, _, rfl, ?_⟩
    generalize eH3 : upd H2 D3 _ = H3
    have s3 : Same H2 H3 := by rw [← eH3]; exact same_snoc (Same.refl H2) nD3
    have eD3 := congrFun eH3 D3
    rw [upd_same] at eD3
    have eD3 := eD3.symm
    have s13 : Same H H3 := fun b o e => s3 _ _ (s12 _ _ e)
    refine lc_listM (K := K) rfl (s13 _ _ eb) ((Ls.map (·.1)).map V.int) (by rw [List.length_map, List.length_map, hn]) (by omega) ?_ ?_
    · rintro i x H2 N A z hz sm hx hA5
      obtain ⟨p, t, ed, rfl, nt, et⟩ := hBs.ldS (fun b o e => sm _ _ (s13 _ _ e)) hx
      rw [List.map_map, List.getElem?_map, ed] at hz
      cases hz
      exact ⟨rfl, _, rfl, t, _, 0, _, rfl, rfl, .of et, rfl, hA5 _ (Same.refl _)⟩
    intro lb H4 nlb s4 e4
    have s24 : Same H2 H4 := fun b o e => s4 _ _ (s3 _ _ e)
    have s14 : Same H H4 := fun b o e => s24 _ _ (s12 _ _ e)
    have hM4 := hM.r.same s24
    have hC4 := hC.r.same s24
    have aM := s24 _ _ hM.at_
    have aC := s24 _ _ hC.at_
    have nD32 := nD3
    refine ⟨[.ref D3], [.ref M, .ref C, .ref lb], rfl, rfl, (by show 3 ≤ sizeLine; decide), fun G nG => ?_⟩
    have eD4 := s4 _ _ eD3
    have nGD : D3 ≠ G := fun e => by rw [← e, eD4] at nG; cases nG
    let H0 : Hp := fun b => if b = D3 then none else H4 b
    have g0 : ∀ b, b ≠ D3 → H0 b = H4 b := fun b hb => if_neg hb
    have s20 : Same H2 H0 := fun b o e => by rw [g0 _ (fun z => by rw [z, nD3] at e; cases e)]; exact s24 _ _ e
    have s04 : Same H0 H4 := fun b o e => by
      by_cases z : b = D3
      · rw [show H0 b = none from if_pos z] at e; cases e
      · rw [g0 _ z] at e; exact e
    have s0 : Same H H0 := fun b o e => s20 _ _ (s12 _ _ e)
    have nlD : lb ≠ D3 := fun z => by rw [z, eD3] at nlb; cases nlb
    refine ⟨H0, D3, G, _, _, [.ref M, .ref C, .ref lb], _, rfl, .inr ⟨M, C, lb, Pl, Ls.map (·.1), am, ac, Bs, ring, rfl, rfl, rfl, hM.r.same s20, hC.r.same s20, s20 _ _ hM.at_, s20 _ _ hC.at_, by rw [g0 _ nlD]; exact e4, h64, hdn, hring, rfl⟩, same_snoc s04 nG, if_pos rfl, by rw [upd_ne nGD]; exact eD4, upd_same, fun e H' s' => q1 e H' fun b o eb => s' _ _ (s0 _ _ eb), fun wd i e H' R s' n' e' => q2 wd i e H' R (fun b o eb => s' _ _ (s0 _ _ eb)) (s0.free n') e'⟩


set_option maxHeartbeats 4000000 in
theorem ok_split_child  (F : Fun K "_split_child" "_split_child" s_split_child f fd) (T : Txt w K mg)
    (O_Net_children : OwnM P w K mg base k (He.ga K "Net") "children" ["self", "place"] (sp_Net_children K))
    (O_Net_kind_of : OwnM P w K mg base k (He.ga K "Net") "kind_of" ["self", "place"] (sp_Net_kind_of K)) : FnOk P w K mg base CX0 (k + 1) f fd ["net", "members", "place"] (sp_split_child K) := by
  refine F.ok sc_split_child (fun vs H Q E h => ?_) (fun cdv A outer s0 H vs Q E hr h => ?_)
  · obtain ⟨S, o, a, As, Bs, Ls, Ms, Pl, root, M, p, rfl, hN, g, hB, ea, hl, hp, q⟩ := h
    rfl
  · obtain ⟨S, o, a, As, Bs, Ls, Ms, Pl, root, M, p, rfl, hN, g, hB, ea, hl, hp, q⟩ := h
    refine ⟨_, (pss_one (ps_ret (pe_and (pe_cmpR op_eq (pe_ownM O_Net_kind_of hr T.Net_cls (pv 0) (pa_cons (pv 2) pa_nil)) pe_str (nomark _)) (pe_one (pe_callB (cr_any rfl) (by rfl) T.any (by decide +kernel) (pa_cons (pe_lc (own := [("child", 3)]) (by rfl) sc_split_child.nd (pi_list (pe_ownM O_Net_children hr T.Net_cls (pv 0) (pa_cons (pv 2) pa_nil))) (blkOk_by (own := [("child", 3)]) (N := ["net", "members", "place", "child"]) (sc := defScope s_split_child) (by decide +kernel)) (fun _ _ _ _ _ => pg_name (i := 3) sc_split_child.nd rfl (Or.inl rfl)) (fun _ _ _ _ _ => pts_nil) (fun _ _ _ _ _ => (pe_and (pe_cmpR op_eq (pe_ownM O_Net_kind_of hr T.Net_cls (pv 0) (pa_cons (pv 3) pa_nil)) pe_str (nomark _)) (pe_one (pe_cmpR (op_in_seqK K rfl) (pv 3) (pv 1) rfl))))) pa_nil)))))), ?_⟩
    obtain ⟨dx, A0, L0, Mm, C, NA, PA, NM, am, ac, ys0, zs0, ns0, eo, _⟩ := hN.ex
    have sz : 1000 < sizeLine := by decide
    have at_ : ∀ {H' : Hp}, Same H H' → NetAt S K H' o Bs Ls Ms Pl root := fun s => hN.go fun b u hb e => ⟨hb, s _ _ e⟩
    have hP : ∀ {x c : Int}, c ∈ downsOf Bs x → c ∈ Pl := fun h => downsOf_mem hB g.asc h
    have a46 := g.a46
    have l46 : ∀ x : Int, (downsOf Bs x).length ≤ 46 := fun x => by
      have := downsOf_len Bs x
      have := hB.1.length_eq
      omega
    obtain ⟨z, hz⟩ := g.kind hB hp
    refine ret_h ?_
    refine ⟨_, rfl, o, dx, _, rfl, eo, rfl, _, rfl, S, o, Bs, Ls, Ms, Pl, root, p, z, rfl, hN, hp, hz, fun H1 s1 => ⟨rfl, _, rfl, ?_⟩⟩
    rw [kds_split hz]
    refine ite2 (fun e => ?_) fun e => ?_
    case refine_2 =>
      have := q H1 s1
      unfold splC at this
      rw [Bool.eq_false_iff.mpr e, Bool.false_and] at this
      exact this
    refine cb_h (lc_td ?_)
    refine ⟨_, rfl, o, dx, _, rfl, s1 _ _ eo, rfl, _, rfl, S, o, Bs, Ls, Ms, Pl, root, p, rfl, at_ s1, hp, fun H2 R s2 nR eR => ?_⟩
    have s12 := s1.trans s2
    refine lc_listFM (K := K) (a := R) (ns := downsOf Bs p) (fun R h => h) eR (fun _ => true) (fun c => .bl (decide (kds Bs c = 2) && decide (c ∈ M))) (Nat.lt_of_le_of_lt (l46 p) (by omega)) (fun _ => rfl) ?_ ?_
    · intro c hc H3 N A s3 _ hA
      have s13 := s12.trans s3
      obtain ⟨zc, hzc⟩ := g.kind hB (hP hc)
      unfold tYes
      dsimp only
      rw [if_pos rfl]
      refine ⟨_, rfl, o, dx, _, rfl, s13 _ _ eo, rfl, _, rfl, S, o, Bs, Ls, Ms, Pl, root, c, zc, rfl, at_ s13, hP hc, hzc, fun H4 s4 => ⟨rfl, _, rfl, ?_⟩⟩
      rw [kds_split hzc]
      refine ite2 (fun e => ?_) fun e => ?_
      · refine ⟨_, rfl, _, rfl, a, _, rfl, .inl (.of (s4 _ _ (s13 _ _ ea))), rfl, flat_ints, ?_⟩
        rw [inV_ints]
        have := hA H4 s4 rfl
        rw [e, Bool.true_and] at this
        exact this
      · have := hA H4 s4 rfl
        rw [Bool.eq_false_iff.mpr e, Bool.false_and] at this
        exact this
    intro R2 H3 nR2 s3 eR2
    refine ⟨R2, (downsOf Bs p).map fun c => decide (kds Bs c = 2) && decide (c ∈ M), rfl, .of (by rw [eR2, List.map_map, List.filter_eq_self.mpr (by simp)]; rfl), ?_⟩
    have := q H3 (s12.trans s3)
    unfold splC at this
    rw [e, Bool.true_and] at this
    rw [List.any_map]
    exact this


set_option maxHeartbeats 4000000 in
theorem ok_member_below_mixing  (F : Fun K "_member_below_mixing" "_member_below_mixing" s_member_below_mixing f fd) (T : Txt w K mg)
    (O_Net_kind_of : OwnM P w K mg base k (He.ga K "Net") "kind_of" ["self", "place"] (sp_Net_kind_of K))
    (O_Net_children : OwnM P w K mg base k (He.ga K "Net") "children" ["self", "place"] (sp_Net_children K)) : FnOk P w K mg base CX0 (k + 1) f fd ["net", "members", "place"] (sp_member_below_mixing K) := by
  refine F.ok sc_member_below_mixing (fun vs H Q E h => ?_) (fun cdv A outer s0 H vs Q E hr h => ?_)
  · obtain ⟨S, o, a, As, Bs, Ls, Ms, Pl, root, M, p, rfl, hN, g, hB, ea, hl, hp, q⟩ := h
    rfl
  · obtain ⟨S, o, a, As, Bs, Ls, Ms, Pl, root, M, p, rfl, hN, g, hB, ea, hl, hp, q⟩ := h
    refine ⟨_, (pss_cons (ps_if (pt_cmpR op_ne (pe_ownM O_Net_kind_of hr T.Net_cls (pv 0) (pa_cons (pv 2) pa_nil)) pe_str (nomark _))
        (pss_one (ps_ret pe_bl))
        pss_nil)
      (pss_cons (ps_setLc (i := 3) (own := [("child", 4)]) (by rfl) sc_member_below_mixing.nd rfl rfl (sw_true rfl rfl rfl (by decide +kernel)) (pi_list (pe_ownM O_Net_children hr T.Net_cls (pv 0) (pa_cons (pv 2) pa_nil))) (blkOk_by (own := [("child", 4)]) (N := ["net", "members", "place", "between", "child", "mixing", "lower"]) (sc := defScope s_member_below_mixing) (by decide +kernel)) (fun _ _ _ _ _ => pg_name (i := 4) sc_member_below_mixing.nd rfl (Or.inl rfl)) (fun _ _ _ _ _ => (pts_one (pt_cmpR op_eq (pe_ownM O_Net_kind_of hr T.Net_cls (pv 0) (pa_cons (pv 4) pa_nil)) pe_str (nomark _)))) (fun _ _ _ _ _ => (pv 4)))
      (pss_one (ps_ret (pe_callB (cr_any rfl) (by rfl) T.any (by decide +kernel) (pa_cons (pe_lc2 (own := [("mixing", 5), ("lower", 6)]) (vs1 := [6]) (by rfl) sc_member_below_mixing.nd (pi_list (pv 3)) (blkOk_by (own := [("mixing", 5), ("lower", 6)]) (N := ["net", "members", "place", "between", "child", "mixing", "lower"]) (sc := defScope s_member_below_mixing) (by decide +kernel)) (by decide) (fun _ _ _ _ _ => pg_name (i := 5) sc_member_below_mixing.nd rfl (Or.inl rfl)) (fun _ _ _ _ _ => pts_nil) (fun _ _ _ _ _ => (pi_listK K rfl (pe_ownM O_Net_children hr T.Net_cls (pv 0) (pa_cons (pv 5) pa_nil)))) (fun _ _ _ _ _ => pg_name (i := 6) sc_member_below_mixing.nd rfl (Or.inl rfl)) (fun _ _ _ _ _ => pts_nil) (fun _ _ _ _ _ => (pe_cmpR (op_in_seqK K rfl) (pv 6) (pv 1) rfl))) pa_nil)))))), ?_⟩
    obtain ⟨dx, A0, L0, Mm, C, NA, PA, NM, am, ac, ys0, zs0, ns0, eo, _⟩ := hN.ex
    have sz : 1000 < sizeLine := by decide
    have at_ : ∀ {H' : Hp}, Same H H' → NetAt S K H' o Bs Ls Ms Pl root := fun s => hN.go fun b u hb e => ⟨hb, s _ _ e⟩
    have hP : ∀ {x c : Int}, c ∈ downsOf Bs x → c ∈ Pl := fun h => downsOf_mem hB g.asc h
    have a46 := g.a46
    have l46 : ∀ x : Int, (downsOf Bs x).length ≤ 46 := fun x => by
      have := downsOf_len Bs x
      have := hB.1.length_eq
      omega
    obtain ⟨z, hz⟩ := g.kind hB hp
    refine seq_ifs_h ?_
    refine ⟨_, rfl, o, dx, _, rfl, eo, rfl, _, rfl, S, o, Bs, Ls, Ms, Pl, root, p, z, rfl, hN, hp, hz, fun H1 s1 => ⟨rfl, _, rfl, ?_⟩⟩
    rw [kds_split hz]
    by_cases c2 : kds Bs p = 2
    case neg =>
      rw [decide_eq_false c2]
      refine ite2 (fun _ => ?_) fun e => absurd rfl e
      have := q H1 s1
      unfold belC at this
      rw [decide_eq_false c2, Bool.false_and] at this
      exact this
    rw [decide_eq_true c2]
    refine ite2 (fun e => absurd e (by decide)) fun _ => ?_
    refine next_h ?_
    dsimp only
    refine seq_asg (lc_td ?_)
    refine ⟨_, rfl, o, dx, _, rfl, s1 _ _ eo, rfl, _, rfl, S, o, Bs, Ls, Ms, Pl, root, p, rfl, at_ s1, hp, fun H2 R s2 nR eR => ?_⟩
    have s12 := s1.trans s2
    refine lc_listF (K := K) (a := R) (ns := downsOf Bs p) (fun R h => h) eR (fun c => decide (kds Bs c = 1)) (Nat.lt_of_le_of_lt (l46 p) (by omega)) (fun _ => rfl) (fun _ => rfl) ?_ ?_
    · intro c hc H3 k s3 hk
      have s13 := s12.trans s3
      obtain ⟨zc, hzc⟩ := g.kind hB (hP hc)
      refine ⟨_, rfl, o, dx, _, rfl, s13 _ _ eo, rfl, _, rfl, S, o, Bs, Ls, Ms, Pl, root, c, zc, rfl, at_ s13, hP hc, hzc, fun H4 s4 => ⟨rfl, _, rfl, ?_⟩⟩
      rw [kds_mix hzc]
      exact hk H4 s4
    intro R2 H3 nR2 s3 eR2
    have s13 := s12.trans s3
    refine ret_h (cb_h ?_)
    refine lc2_intM (K := K) (a := R2) (fun R h => ⟨_, rfl, h⟩) eR2 (downsOf Bs) (fun _ c => .bl (decide (c ∈ M))) (fun m _ => Nat.le_trans (l46 m) (by decide)) (Nat.le_trans (List.length_filter_le _ _) (Nat.le_trans (l46 p) (by decide))) (fun _ => rfl) (fun _ _ => rfl) ?_ ?_ ?_
    · intro m hm H4 A s4 hA
      have s14 := s13.trans s4
      exact ⟨_, rfl, o, dx, _, rfl, s14 _ _ eo, rfl, _, rfl, S, o, Bs, Ls, Ms, Pl, root, m, rfl, at_ s14, hP (List.mem_filter.mp hm).1, fun H5 R s5 nR eR => hA R H5 s5 (.inl nR) eR⟩
    · intro m hm c hc H4 A s4 hA
      have s14 := s13.trans s4
      refine ⟨_, rfl, _, rfl, a, _, rfl, .inl (.of (s14 _ _ ea)), rfl, flat_ints, ?_⟩
      rw [inV_ints]
      exact hA H4 (Same.refl _)
    intro R4 H4 nR4 s4 eR4
    refine ⟨R4, ((downsOf Bs p).filter fun c => decide (kds Bs c = 1)).flatMap fun m => (downsOf Bs m).map fun c => decide (c ∈ M), rfl, .of (by rw [eR4, List.map_flatMap]; simp only [List.map_map]; rfl), ?_⟩
    have := q H4 (s13.trans s4)
    unfold belC at this
    rw [decide_eq_true c2, Bool.true_and] at this
    rw [List.any_flatMap]
    simp only [List.any_map]
    exact this


set_option maxHeartbeats 4000000 in
theorem ok_mixing_children  (F : Fun K "_mixing_children" "_mixing_children" s_mixing_children f fd) (T : Txt w K mg)
    (O_Net_children : OwnM P w K mg base k (He.ga K "Net") "children" ["self", "place"] (sp_Net_children K))
    (O_Net_kind_of : OwnM P w K mg base k (He.ga K "Net") "kind_of" ["self", "place"] (sp_Net_kind_of K)) : FnOk P w K mg base CX0 (k + 1) f fd ["net", "members", "place"] (sp_mixing_children K) := by
  refine F.ok sc_mixing_children (fun vs H Q E h => ?_) (fun cdv A outer s0 H vs Q E hr h => ?_)
  · obtain ⟨S, o, a, As, Bs, Ls, Ms, Pl, root, M, p, rfl, hN, g, hB, ea, hl, hp, q⟩ := h
    rfl
  · obtain ⟨S, o, a, As, Bs, Ls, Ms, Pl, root, M, p, rfl, hN, g, hB, ea, hl, hp, q⟩ := h
    refine ⟨_, (pss_one (ps_ret (pe_and (pe_cmpR op_eq (pe_ownM O_Net_kind_of hr T.Net_cls (pv 0) (pa_cons (pv 2) pa_nil)) pe_str (nomark _)) (pe_one (pe_callB (cr_all rfl) (by rfl) T.all (by decide +kernel) (pa_cons (pe_lc (own := [("child", 3)]) (by rfl) sc_mixing_children.nd (pi_list (pe_ownM O_Net_children hr T.Net_cls (pv 0) (pa_cons (pv 2) pa_nil))) (blkOk_by (own := [("child", 3)]) (N := ["net", "members", "place", "child"]) (sc := defScope s_mixing_children) (by decide +kernel)) (fun _ _ _ _ _ => pg_name (i := 3) sc_mixing_children.nd rfl (Or.inl rfl)) (fun _ _ _ _ _ => pts_nil) (fun _ _ _ _ _ => (pe_and (pe_cmpR op_eq (pe_ownM O_Net_kind_of hr T.Net_cls (pv 0) (pa_cons (pv 3) pa_nil)) pe_str (nomark _)) (pe_one (pe_cmpR (op_in_seqK K rfl) (pv 3) (pv 1) rfl))))) pa_nil)))))), ?_⟩
    obtain ⟨dx, A0, L0, Mm, C, NA, PA, NM, am, ac, ys0, zs0, ns0, eo, _⟩ := hN.ex
    have sz : 1000 < sizeLine := by decide
    have at_ : ∀ {H' : Hp}, Same H H' → NetAt S K H' o Bs Ls Ms Pl root := fun s => hN.go fun b u hb e => ⟨hb, s _ _ e⟩
    have hP : ∀ {x c : Int}, c ∈ downsOf Bs x → c ∈ Pl := fun h => downsOf_mem hB g.asc h
    have a46 := g.a46
    have l46 : ∀ x : Int, (downsOf Bs x).length ≤ 46 := fun x => by
      have := downsOf_len Bs x
      have := hB.1.length_eq
      omega
    obtain ⟨z, hz⟩ := g.kind hB hp
    refine ret_h ?_
    refine ⟨_, rfl, o, dx, _, rfl, eo, rfl, _, rfl, S, o, Bs, Ls, Ms, Pl, root, p, z, rfl, hN, hp, hz, fun H1 s1 => ⟨rfl, _, rfl, ?_⟩⟩
    rw [kds_split hz]
    refine ite2 (fun e => ?_) fun e => ?_
    case refine_2 =>
      have := q H1 s1
      unfold mixC at this
      rw [Bool.eq_false_iff.mpr e, Bool.false_and] at this
      exact this
    refine cb_h (lc_td ?_)
    refine ⟨_, rfl, o, dx, _, rfl, s1 _ _ eo, rfl, _, rfl, S, o, Bs, Ls, Ms, Pl, root, p, rfl, at_ s1, hp, fun H2 R s2 nR eR => ?_⟩
    have s12 := s1.trans s2
    refine lc_listFM (K := K) (a := R) (ns := downsOf Bs p) (fun R h => h) eR (fun _ => true) (fun c => .bl (decide (kds Bs c = 1) && decide (c ∈ M))) (Nat.lt_of_le_of_lt (l46 p) (by omega)) (fun _ => rfl) ?_ ?_
    · intro c hc H3 N A s3 _ hA
      have s13 := s12.trans s3
      obtain ⟨zc, hzc⟩ := g.kind hB (hP hc)
      unfold tYes
      dsimp only
      rw [if_pos rfl]
      refine ⟨_, rfl, o, dx, _, rfl, s13 _ _ eo, rfl, _, rfl, S, o, Bs, Ls, Ms, Pl, root, c, zc, rfl, at_ s13, hP hc, hzc, fun H4 s4 => ⟨rfl, _, rfl, ?_⟩⟩
      rw [kds_mix hzc]
      refine ite2 (fun e => ?_) fun e => ?_
      · refine ⟨_, rfl, _, rfl, a, _, rfl, .inl (.of (s4 _ _ (s13 _ _ ea))), rfl, flat_ints, ?_⟩
        rw [inV_ints]
        have := hA H4 s4 rfl
        rw [e, Bool.true_and] at this
        exact this
      · have := hA H4 s4 rfl
        rw [Bool.eq_false_iff.mpr e, Bool.false_and] at this
        exact this
    intro R2 H3 nR2 s3 eR2
    refine ⟨R2, (downsOf Bs p).map fun c => decide (kds Bs c = 1) && decide (c ∈ M), rfl, .of (by rw [eR2, List.map_map, List.filter_eq_self.mpr (by simp)]; rfl), ?_⟩
    have := q H3 (s12.trans s3)
    unfold mixC at this
    rw [e, Bool.true_and] at this
    rw [List.all_map]
    exact this


set_option maxHeartbeats 4000000 in
theorem ok_member_child  (F : Fun K "_member_child" "_member_child" s_member_child f fd) (T : Txt w K mg)
    (O_Net_children : OwnM P w K mg base k (He.ga K "Net") "children" ["self", "place"] (sp_Net_children K))
    (O_Net_kind_of : OwnM P w K mg base k (He.ga K "Net") "kind_of" ["self", "place"] (sp_Net_kind_of K)) : FnOk P w K mg base CX0 (k + 1) f fd ["net", "members", "place"] (sp_member_child K) := by
  refine F.ok sc_member_child (fun vs H Q E h => ?_) (fun cdv A outer s0 H vs Q E hr h => ?_)
  · obtain ⟨S, o, a, As, Bs, Ls, Ms, Pl, root, M, p, rfl, hN, g, hB, ea, hl, hp, q⟩ := h
    rfl
  · obtain ⟨S, o, a, As, Bs, Ls, Ms, Pl, root, M, p, rfl, hN, g, hB, ea, hl, hp, q⟩ := h
    refine ⟨_, (pss_one (ps_ret (pe_and (pe_cmpR op_eq (pe_ownM O_Net_kind_of hr T.Net_cls (pv 0) (pa_cons (pv 2) pa_nil)) pe_str (nomark _)) (pe_one (pe_cmpR op_in_seq (pe_ix ix_list (pe_ownM O_Net_children hr T.Net_cls (pv 0) (pa_cons (pv 2) pa_nil)) pe_int (fun _ _ => rfl)) (pv 1) rfl))))), ?_⟩
    obtain ⟨dx, A0, L0, Mm, C, NA, PA, NM, am, ac, ys0, zs0, ns0, eo, _⟩ := hN.ex
    have sz : 1000 < sizeLine := by decide
    have at_ : ∀ {H' : Hp}, Same H H' → NetAt S K H' o Bs Ls Ms Pl root := fun s => hN.go fun b u hb e => ⟨hb, s _ _ e⟩
    have hP : ∀ {x c : Int}, c ∈ downsOf Bs x → c ∈ Pl := fun h => downsOf_mem hB g.asc h
    have a46 := g.a46
    have l46 : ∀ x : Int, (downsOf Bs x).length ≤ 46 := fun x => by
      have := downsOf_len Bs x
      have := hB.1.length_eq
      omega
    obtain ⟨z, hz⟩ := g.kind hB hp
    refine ret_h ?_
    refine ⟨_, rfl, o, dx, _, rfl, eo, rfl, _, rfl, S, o, Bs, Ls, Ms, Pl, root, p, z, rfl, hN, hp, hz, fun H1 s1 => ⟨rfl, _, rfl, ?_⟩⟩
    rw [kds_mix hz]
    refine ite2 (fun e => ?_) fun e => ?_
    case refine_2 =>
      have := q H1 s1
      unfold chiC at this
      rw [Bool.eq_false_iff.mpr e, Bool.false_and] at this
      exact this
    obtain ⟨d, hd⟩ : ∃ d, downsOf Bs p = [d] := List.length_eq_one_iff.mp (decide_eq_true_eq.mp e)
    refine ⟨_, rfl, o, dx, _, rfl, s1 _ _ eo, rfl, _, rfl, S, o, Bs, Ls, Ms, Pl, root, p, rfl, at_ s1, hp, fun H2 R s2 nR eR => ?_⟩
    rw [hd] at eR
    refine ⟨R, _, ((0 : Nat) : Int), .int d, rfl, rfl, .of eR, atI_nat (j := 0) rfl, _, rfl, a, _, rfl, .inl (.of (s2 _ _ (s1 _ _ ea))), rfl, flat_ints, ?_⟩
    rw [inV_ints]
    have := q H2 (s1.trans s2)
    unfold chiC at this
    rw [e, Bool.true_and, hd] at this
    simpa using this


set_option maxHeartbeats 4000000 in
theorem ok_bound_mothers  (F : Fun K "_bound_mothers" "_bound_mothers" s_bound_mothers f fd) (T : Txt w K mg)
    (O_Net_kind_of : OwnM P w K mg base k (He.ga K "Net") "kind_of" ["self", "place"] (sp_Net_kind_of K))
    (O_Net_mothers : OwnM P w K mg base k (He.ga K "Net") "mothers" ["self", "place"] (sp_Net_mothers K))
    (O_Net_children : OwnM P w K mg base k (He.ga K "Net") "children" ["self", "place"] (sp_Net_children K)) : FnOk P w K mg base CX0 (k + 1) f fd ["net", "members", "place"] (sp_bound_mothers K) := by
  refine F.ok sc_bound_mothers (fun vs H Q E h => ?_) (fun cdv A outer s0 H vs Q E hr h => ?_)
  · obtain ⟨S, o, a, As, Bs, Ls, Ms, Pl, root, M, p, rfl, hN, g, hB, ea, hl, hp, q⟩ := h
    rfl
  · obtain ⟨S, o, a, As, Bs, Ls, Ms, Pl, root, M, p, rfl, hN, g, hB, ea, hl, hp, q⟩ := h
    refine ⟨_, (pss_cons (ps_if (pt_cmpR op_ne (pe_ownM O_Net_kind_of hr T.Net_cls (pv 0) (pa_cons (pv 2) pa_nil)) pe_str (nomark _))
        (pss_one (ps_ret pe_bl))
        pss_nil)
      (pss_cons (ps_setLc2 (i := 3) (own := [("mother", 4), ("child", 5)]) (vs1 := [5]) (by rfl) sc_bound_mothers.nd rfl rfl (sw_true rfl rfl rfl (by decide +kernel)) (pi_list (pe_ownM O_Net_mothers hr T.Net_cls (pv 0) (pa_cons (pv 2) pa_nil))) (blkOk_by (own := [("mother", 4), ("child", 5)]) (N := ["net", "members", "place", "beside", "mother", "child"]) (sc := defScope s_bound_mothers) (by decide +kernel)) (by decide) (fun _ _ _ _ _ => pg_name (i := 4) sc_bound_mothers.nd rfl (Or.inl rfl)) (fun _ _ _ _ _ => pts_nil) (fun _ _ _ _ _ => (pi_listK K rfl (pe_ownM O_Net_children hr T.Net_cls (pv 0) (pa_cons (pv 4) pa_nil)))) (fun _ _ _ _ _ => pg_name (i := 5) sc_bound_mothers.nd rfl (Or.inl rfl)) (fun _ _ _ _ _ => (pts_one (pt_cmpR op_ne (pv 5) (pv 2) (nomark _)))) (fun _ _ _ _ _ => (pv 5)))
      (pss_one (ps_ret (pe_callB (cr_all rfl) (by rfl) T.all (by decide +kernel) (pa_cons (pe_lc (own := [("child", 5)]) (by rfl) sc_bound_mothers.nd (pi_list (pv 3)) (blkOk_by (own := [("child", 5)]) (N := ["net", "members", "place", "beside", "mother", "child"]) (sc := defScope s_bound_mothers) (by decide +kernel)) (fun _ _ _ _ _ => pg_name (i := 5) sc_bound_mothers.nd rfl (Or.inl rfl)) (fun _ _ _ _ _ => pts_nil) (fun _ _ _ _ _ => (pe_cmpR (op_in_seqK K rfl) (pv 5) (pv 1) rfl))) pa_nil)))))), ?_⟩
    obtain ⟨dx, A0, L0, Mm, C, NA, PA, NM, am, ac, ys0, zs0, ns0, eo, _⟩ := hN.ex
    have sz : 1000 < sizeLine := by decide
    have at_ : ∀ {H' : Hp}, Same H H' → NetAt S K H' o Bs Ls Ms Pl root := fun s => hN.go fun b u hb e => ⟨hb, s _ _ e⟩
    have hP : ∀ {x c : Int}, c ∈ downsOf Bs x → c ∈ Pl := fun h => downsOf_mem hB g.asc h
    have a46 := g.a46
    have l46 : ∀ x : Int, (downsOf Bs x).length ≤ 46 := fun x => by
      have := downsOf_len Bs x
      have := hB.1.length_eq
      omega
    have hU : ∀ {x c : Int}, c ∈ upsOf Bs x → c ∈ Pl := fun h => (g.ends _ (hB.1.mem_iff.mp (mem_ups.mp h))).1
    have u46 : ∀ x : Int, (upsOf Bs x).length ≤ 46 := fun x => by
      have := upsOf_len Bs x
      have := hB.1.length_eq
      omega
    obtain ⟨z, hz⟩ := g.kind hB hp
    refine seq_ifs_h ?_
    refine ⟨_, rfl, o, dx, _, rfl, eo, rfl, _, rfl, S, o, Bs, Ls, Ms, Pl, root, p, z, rfl, hN, hp, hz, fun H1 s1 => ⟨rfl, _, rfl, ?_⟩⟩
    rw [kds_mix hz]
    by_cases c2 : kds Bs p = 1
    case neg =>
      rw [decide_eq_false c2]
      refine ite2 (fun _ => ?_) fun e => absurd rfl e
      have := q H1 s1
      unfold motC at this
      rw [decide_eq_false c2, Bool.false_and] at this
      exact this
    rw [decide_eq_true c2]
    refine ite2 (fun e => absurd e (by decide)) fun _ => ?_
    refine next_h ?_
    dsimp only
    refine seq_asg (lc2_td ?_)
    refine ⟨_, rfl, o, dx, _, rfl, s1 _ _ eo, rfl, _, rfl, S, o, Bs, Ls, Ms, Pl, root, p, rfl, at_ s1, hp, fun H2 R s2 nR eR => ?_⟩
    have s12 := s1.trans s2
    refine lc2_intF (K := K) (a := R) (fun R h => h) eR (downsOf Bs) (fun _ c => decide (c ≠ p)) (fun m _ => Nat.le_trans (l46 m) (by decide)) (Nat.le_trans (u46 p) (by decide)) (fun _ => rfl) (fun _ _ => rfl) (fun _ _ => rfl) ?_ ?_ ?_
    · intro m hm H4 A s4 hA
      have s14 := s12.trans s4
      exact ⟨_, rfl, o, dx, _, rfl, s14 _ _ eo, rfl, _, rfl, S, o, Bs, Ls, Ms, Pl, root, m, rfl, at_ s14, hU hm, fun H5 R s5 nR eR => hA R H5 s5 (.inl nR) eR⟩
    · intro m hm c hc H4 A s4 hA
      refine ⟨_, rfl, _, rfl, rfl, _, rfl, ?_⟩
      rw [show (!decide (V.int c = V.int p)) = decide (c ≠ p) by by_cases h : c = p <;> simp [h]]
      exact hA H4 (Same.refl _)
    intro R2 H3 nR2 s3 eR2
    have s13 := s12.trans s3
    refine ret_h (cb_h ?_)
    refine lc_listFM (K := K) (a := R2) (ns := (upsOf Bs p).flatMap fun m => (downsOf Bs m).filter fun c => decide (c ≠ p)) (fun R h => ⟨_, rfl, h⟩) eR2 (fun _ => true) (fun c => .bl (decide (c ∈ M))) ?_ (fun _ => rfl) ?_ ?_
    · have := flat_len (g := fun m => (downsOf Bs m).filter fun c => decide (c ≠ p)) (c := 46) (l := upsOf Bs p) fun m _ => Nat.le_trans (List.length_filter_le _ _) (l46 m)
      have u := u46 p
      have h5 : 46 * (upsOf Bs p).length ≤ 46 * 46 := Nat.mul_le_mul_left _ u
      have sz : 100000 < sizeLine := by decide
      omega
    · intro c hc H4 N A s4 _ hA
      unfold tYes
      dsimp only
      rw [if_pos rfl]
      refine ⟨_, rfl, _, rfl, a, _, rfl, .inl (.of (s4 _ _ (s13 _ _ ea))), rfl, flat_ints, ?_⟩
      rw [inV_ints]
      exact hA H4 (Same.refl _) rfl
    intro R4 H4 nR4 s4 eR4
    refine ⟨R4, ((upsOf Bs p).flatMap fun m => (downsOf Bs m).filter fun c => decide (c ≠ p)).map fun c => decide (c ∈ M), rfl, .of (by rw [eR4, List.map_map, List.filter_eq_self.mpr (by simp)]; rfl), ?_⟩
    have := q H4 (s13.trans s4)
    unfold motC at this
    rw [decide_eq_true c2, Bool.true_and] at this
    rw [List.all_map, List.all_flatMap, show (fun a => ((downsOf Bs a).filter fun c => decide (c ≠ p)).all (id ∘ fun c => decide (c ∈ M))) = fun m => (downsOf Bs m).all fun c => decide (c = p) || decide (c ∈ M) from funext fun m => by
      rw [List.all_filter]
      refine congrArg _ (funext fun c => ?_)
      by_cases h : c = p <;> simp [h]]
    exact this


set_option maxHeartbeats 4000000 in
theorem ok_greatest_knot  (F : Fun K "greatest_knot" "greatest_knot" s_greatest_knot f fd) (T : Txt w K mg)
    (O_Net_inner : OwnM P w K mg base k (He.ga K "Net") "inner" ["self"] (sp_Net_inner K))
    (O_demand_inner : Own P w K mg base k "_demand_inner" ["net", "places"] (sp_demand_inner K))
    (O_greatest_part : Own P w K mg base k "_greatest_part" ["net", "members"] (sp_greatest_part K)) : FnOk P w K mg base CX0 (k + 1) f fd ["net", "members"] (sp_greatest_knot K) := by
  refine F.ok sc_greatest_knot (fun vs H Q E h => ?_) (fun cdv A outer s0 H vs Q E hr h => ?_)
  · obtain ⟨S, o, m, As, Bs, Ls, Ms, Pl, root, M, rfl, hN, g, hB, hM, hm, q⟩ := h
    rfl
  · obtain ⟨S, o, m, As, Bs, Ls, Ms, Pl, root, M, rfl, hN, g, hB, hM, hm, q⟩ := h
    refine ⟨_, (pss_cons (ps_set (i := 2) sc_greatest_knot.nd rfl (Or.inl rfl) (pe_ownM0 O_Net_inner hr T.Net_cls (pv 0)))
      (C8.pss_cut (ps_if (pt_cmpR op_isN (pv 1) pe_non (nomark _))
        (pss_one (ps_set (i := 1) sc_greatest_knot.nd rfl (Or.inr rfl) (pv 2)))
        pss_nil)
      (pss_cons (ps_expr (pe_own O_demand_inner hr (by rfl) (pa_cons (pv 0) (pa_cons (pv 1) pa_nil))))
      (pss_one (ps_ret (pe_own O_greatest_part hr (by rfl) (pa_cons (pv 0) (pa_cons (pe_lc (own := [("place", 3)]) (by rfl) sc_greatest_knot.nd (pi_list (pv 2)) (blkOk_by (own := [("place", 3)]) (N := ["net", "members", "inner", "place"]) (sc := defScope s_greatest_knot) (by decide +kernel)) (fun _ _ _ _ _ => pg_name (i := 3) sc_greatest_knot.nd rfl (Or.inl rfl)) (fun _ _ _ _ _ => (pts_one (pt_cmpR (op_in_seqK K rfl) (pv 3) (pv 1) rfl))) (fun _ _ _ _ _ => (pv 3))) pa_nil)))))))), ?_⟩
    have sz : 1000 < sizeLine := by decide
    have p64 := g.p64
    have at_ : ∀ {H' : Hp}, Same H H' → NetAt S K H' o Bs Ls Ms Pl root := fun s => hN.go fun b u hb e => ⟨hb, s _ _ e⟩
    obtain ⟨dx, A0, L0, Mm, C, NA, PA, NM, am, ac, ys0, zs0, ns0, eo, _⟩ := hN.ex
    refine ⟨_, rfl, o, dx, _, rfl, eo, rfl, S, o, Bs, Ls, Ms, Pl, root, rfl, hN, p64, fun H1 R1 s1 nR1 eR1 => ?_⟩
    refine gn_h (σ' := [some (.ref o), some m, some (.ref R1), none]) rfl ?_
    dsimp only
    refine ⟨fun σ' H' => H' = H1 ∧ ∃ A : Addr, σ' = [some (.ref o), some (.ref A), some (.ref R1), none] ∧ H1 A = some (.lst (M.map V.int)), ?_, ?_⟩
    · refine ifs_h ?_
      rcases hm with ⟨rfl, hMi⟩ | ⟨a, rfl, ea⟩
      · refine ⟨_, rfl, rfl, _, rfl, ite2 (fun _ => ?_) fun e => absurd rfl e⟩
        exact ⟨_, rfl, rfl, R1, rfl, by rw [hMi]; exact eR1⟩
      · refine ⟨_, rfl, rfl, _, rfl, ite2 (fun e => absurd e (by simp)) fun _ => ?_⟩
        exact ⟨rfl, a, rfl, s1 _ _ ea⟩
    rintro σ' H' ⟨rfl, A, rfl, eA⟩
    refine ⟨_, rfl, _, rfl, S, o, A, Bs, Ls, Ms, Pl, root, M, rfl, at_ s1, p64, eA, hM, fun H2 s2 => ?_⟩
    have s12 := s1.trans s2
    generalize hI : (Pl.filter fun p => !(downsOf Bs p).isEmpty).filter (fun p => decide (p ∈ M)) = I
    have lI : I.length ≤ 64 := by
      rw [← hI]
      exact Nat.le_trans (List.length_filter_le _ _) (Nat.le_trans (List.length_filter_le _ _) (by omega))
    have lM : (Pl.filter fun p => !(downsOf Bs p).isEmpty).length ≤ 64 := Nat.le_trans (List.length_filter_le _ _) (by omega)
    dsimp only
    refine ⟨_, rfl, ?_⟩
    refine lc_listF (K := K) (a := R1) (fun R h => ⟨_, rfl, h⟩) (s2 _ _ eR1) (fun p => decide (p ∈ M)) (by omega) (fun _ => rfl) (fun _ => rfl) ?_ ?_
    · intro p hp H3 k s3 hk
      refine ⟨_, rfl, _, rfl, A, _, rfl, .inl (.of (s3 _ _ (s2 _ _ eA))), rfl, flat_ints, _, rfl, ?_⟩
      rw [inV_ints]
      exact hk H3 (Same.refl _)
    intro R3 H3 nR3 s3 eR3
    rw [hI] at eR3
    have s13 := s12.trans s3
    refine ⟨S, o, R3, As, Bs, Ls, Ms, Pl, root, I, rfl, at_ s13, g, hB, eR3, by omega, fun p hp => ?_, fun H4 R4 s4 h4 e4 => q H4 R4 I (s13.trans s4) ?_ hI.symm e4⟩
    · rw [← hI] at hp
      exact (List.mem_filter.mp (List.mem_filter.mp hp).1).1
    · rcases h4 with rfl | h4
      · exact s12.free nR3
      · exact s13.free h4


set_option maxHeartbeats 4000000 in
theorem ok_knot_core  (F : Fun K "knot_core" "knot_core" s_knot_core f fd) (T : Txt w K mg)
    (O_greatest_part : Own P w K mg base k "_greatest_part" ["net", "members"] (sp_greatest_part K))
    (ODf_greatest_knot : OwnD P w K mg base k "greatest_knot" ["net", "members"] [.non] (sp_greatest_knot K)) : FnOk P w K mg base CX0 (k + 1) f fd ["net"] (sp_knot_core K) := by
  refine F.ok sc_knot_core (fun vs H Q E h => ?_) (fun cdv A outer s0 H vs Q E hr h => ?_)
  · obtain ⟨S, o, As, Bs, Ls, Ms, Pl, root, I, rfl, hN, g, hB, hI, q⟩ := h
    rfl
  · obtain ⟨S, o, As, Bs, Ls, Ms, Pl, root, I, rfl, hN, g, hB, hI, q⟩ := h
    refine ⟨_, (pss_cons (ps_set (i := 1) sc_knot_core.nd rfl (Or.inl rfl) (pe_ownD ODf_greatest_knot hr (by rfl) (pa_cons (pv 0) pa_nil)))
      (pss_cons (ps_set (i := 2) sc_knot_core.nd rfl (Or.inl rfl) (pv 1))
      (pss_cons (ps_for PassesOwn.never rfl (pi_list (pv 1)) (pg_name (i := 3) sc_knot_core.nd rfl (Or.inr rfl))
        (pss_one (ps_if (pt_cmpR op_in_seq (pv 3) (pv 2) rfl)
          (pss_cons (ps_set (i := 4) sc_knot_core.nd rfl (Or.inl rfl) (pe_own O_greatest_part hr (by rfl) (pa_cons (pv 0) (pa_cons (pe_lc (own := [("member", 5)]) (by rfl) sc_knot_core.nd (pi_list (pv 2)) (blkOk_by (own := [("member", 5)]) (N := ["net", "knot", "core", "place", "smaller", "member"]) (sc := defScope s_knot_core) (by decide +kernel)) (fun _ _ _ _ _ => pg_name (i := 5) sc_knot_core.nd rfl (Or.inl rfl)) (fun _ _ _ _ _ => (pts_one (pt_cmpR op_ne (pv 5) (pv 3) (nomark _)))) (fun _ _ _ _ _ => (pv 5))) pa_nil))))
          (pss_one (ps_set (i := 2) sc_knot_core.nd rfl (Or.inl rfl) (pe_ifExp (pt_tru K rfl (pv 4) (fun _ => rfl)) (pv 4) (pv 2)))))
          pss_nil)))
      (pss_one (ps_ret (pv 2)))))), ?_⟩
    have sz : 1000 < sizeLine := by decide
    have p64 := g.p64
    have at_ : ∀ {H' : Hp}, Same H H' → NetAt S K H' o Bs Ls Ms Pl root := fun s => hN.go fun b u hb e => ⟨hb, s _ _ e⟩
    have iI : ∀ p ∈ I, p ∈ Pl.filter fun p => !(downsOf Bs p).isEmpty := fun p hp => by rw [← hI]; exact hp
    have lI : I.length < 64 := by rw [hI]; exact Nat.lt_of_le_of_lt (List.length_filter_le _ _) p64
    refine ⟨_, rfl, S, o, .non, As, Bs, Ls, Ms, Pl, root, I, rfl, hN, g, hB, iI, .inl ⟨rfl, hI⟩, fun H1 R1 J s1 nR1 hJ eR1 => ?_⟩
    rw [← hI, filter_self] at hJ
    rw [hJ] at eR1
    clear hJ J
    have eR1 : H1 R1 = some (.lst ((knot Bs I).map V.int)) := eR1
    have lK : (knot Bs I).length < 64 := Nat.lt_of_le_of_lt knot_sub.length_le lI
    refine gn_h (σ' := [some (.ref o), some (.ref R1), none, none, none, none]) rfl ?_
    dsimp only
    refine ⟨_, rfl, ?_⟩
    refine gn_h (σ' := [some (.ref o), some (.ref R1), some (.ref R1), none, none, none]) rfl ?_
    dsimp only
    refine ⟨_, rfl, R1, rfl, ⟨_, .of eR1⟩, ?_⟩
    refine for_it (walk_list (K := K) (a := R1) (xs := (knot Bs I).map V.int)) (fun i σ H' => Same H H' ∧ H' R1 = some (.lst ((knot Bs I).map V.int)) ∧ ∃ (CA : Addr) (u v : Option V), σ = [some (.ref o), some (.ref R1), some (.ref CA), u, v, none] ∧ H CA = none ∧ H' CA = some (.lst ((((knot Bs I).take i).foldl (coreS Bs) (knot Bs I)).map V.int))) ⟨s1, eR1, R1, _, _, rfl, nR1, eR1⟩ (fun i σ H' _ h => .of h.2.1) ?_ ?_
    · rintro i x σ H4 H5 hi ⟨sm, eR4, CA, u, v, rfl, nCA, eCA⟩ ⟨rfl, hx⟩
      obtain ⟨p, hp, rfl⟩ := int_at hx
      obtain ⟨C, hC⟩ : ∃ C, C = ((knot Bs I).take i).foldl (coreS Bs) (knot Bs I) := ⟨_, rfl⟩
      rw [← hC] at eCA
      rw [fold_snoc hp, ← hC]
      have subC : C.Sublist I := by rw [hC]; exact fold_sub.trans knot_sub
      have lC := subC.length_le
      clear hC
      refine ifs_h ?_
      refine ⟨_, rfl, _, rfl, CA, _, rfl, .inl (.of eCA), rfl, flat_ints, _, rfl, ?_⟩
      rw [inV_ints]
      unfold coreS
      by_cases h : p ∈ C
      · rw [decide_eq_true h, if_pos h]
        refine ite2 (fun _ => ?_) fun e => absurd rfl e
        refine ⟨_, rfl, ?_⟩
        refine lc_listF (K := K) (a := CA) (fun R h => ⟨_, rfl, h⟩) eCA (fun x => decide (x ≠ p)) (by omega) (fun _ => rfl) (fun _ => rfl) ?_ ?_
        · intro x hx H6 k s6 hk
          refine ⟨_, rfl, _, rfl, rfl, _, rfl, ?_⟩
          rw [show (!decide (V.int x = V.int p)) = decide (x ≠ p) by by_cases h : x = p <;> simp [h]]
          exact hk H6 (Same.refl _)
        intro R2 H6 nR2 s6 eR2
        have lf := List.length_filter_le (fun x => decide (x ≠ p)) C
        refine ⟨S, o, R2, As, Bs, Ls, Ms, Pl, root, _, rfl, at_ (sm.trans s6), g, hB, eR2, by omega, fun x hx => ?_, fun H7 R3 s7 nR3 eR3 => ?_⟩
        · exact (List.mem_filter.mp (iI x (subC.subset (List.mem_filter.mp hx).1))).1
        have eR3 : H7 R3 = some (.lst ((knot Bs (C.filter fun x => decide (x ≠ p))).map V.int)) := eR3
        refine gn_h (σ' := [some (.ref o), some (.ref R1), some (.ref CA), some (.int p), some (.ref R3), none]) rfl ?_
        dsimp only
        refine asg_h ?_
        have s67 := s6.trans s7
        have nR30 : H R3 = none := by
          rcases nR3 with rfl | n
          · exact sm.free nR2
          · exact (sm.trans s6).free n
        refine ⟨_, rfl, _, truL eR3, ?_⟩
        by_cases e : knot Bs (C.filter fun x => decide (x ≠ p)) = []
        · rw [if_pos e]
          rw [e]
          refine ite2 (fun z => absurd z (by decide)) fun _ => ?_
          exact ⟨_, rfl, sm.trans s67, s67 _ _ eR4, CA, _, _, rfl, nCA, s67 _ _ eCA⟩
        · rw [if_neg e]
          obtain ⟨z, zs, hz⟩ := List.exists_cons_of_ne_nil e
          refine ite2 (fun _ => ?_) fun y => absurd (by rw [hz]; rfl) y
          exact ⟨_, rfl, sm.trans s67, s67 _ _ eR4, R3, _, _, rfl, nR30, eR3⟩
      · rw [decide_eq_false h, if_neg h]
        refine ite2 (fun e => absurd e (by decide)) fun _ => ?_
        exact ⟨sm, eR4, CA, _, _, rfl, nCA, eCA⟩
    rintro σ H4 ⟨sm, eR4, CA, u, v, rfl, nCA, eCA⟩
    refine ⟨_, rfl, q H4 CA sm nCA ?_⟩
    rw [List.length_map, List.take_length] at eCA
    exact eCA


set_option maxHeartbeats 4000000 in
theorem ok_demand_inner  (F : Fun K "_demand_inner" "_demand_inner" s_demand_inner f fd) (T : Txt w K mg)
    (O_Net_inner : OwnM P w K mg base k (He.ga K "Net") "inner" ["self"] (sp_Net_inner K)) : FnOk P w K mg base CX0 (k + 1) f fd ["net", "places"] (sp_demand_inner K) := by
  refine F.ok sc_demand_inner (fun vs H Q E h => ?_) (fun cdv A outer s0 H vs Q E hr h => ?_)
  · obtain ⟨S, o, a, Bs, Ls, Ms, Pl, root, M, rfl, hN, h64, ea, hp, q⟩ := h
    rfl
  · obtain ⟨S, o, a, Bs, Ls, Ms, Pl, root, M, rfl, hN, h64, ea, hp, q⟩ := h
    refine ⟨_, (pss_cons (ps_set (i := 2) sc_demand_inner.nd rfl (Or.inl rfl) (pe_ownM0 O_Net_inner hr T.Net_cls (pv 0)))
      (pss_one (ps_for PassesOwn.never rfl (pi_list (pv 1)) (pg_name (i := 3) sc_demand_inner.nd rfl (Or.inl rfl))
        (pss_one (ps_if (pt_cmpR op_notIn_seq (pv 3) (pv 2) rfl)
          (pss_one ps_never)
          pss_nil))))), ?_⟩
    have at_ : ∀ {H' : Hp}, Same H H' → NetAt S K H' o Bs Ls Ms Pl root := fun s => hN.go fun b u hb e => ⟨hb, s _ _ e⟩
    obtain ⟨dx, A0, L0, Mm, C, NA, PA, NM, am, ac, ys0, zs0, ns0, eo, _⟩ := hN.ex
    refine ⟨_, rfl, o, dx, _, rfl, eo, rfl, S, o, Bs, Ls, Ms, Pl, root, rfl, hN, h64, fun H1 R1 s1 nR1 eR1 => ?_⟩
    refine gn_h (σ' := [some (.ref o), some (.ref a), some (.ref R1), none]) rfl ?_
    dsimp only
    refine ⟨_, rfl, a, rfl, ⟨_, .of (s1 _ _ ea)⟩, ?_⟩
    refine for_it (walk_list (K := K) (a := a) (xs := M.map V.int)) (fun i σ H' => (∃ u, σ = [some (.ref o), some (.ref a), some (.ref R1), u]) ∧ Same H1 H') ⟨⟨_, rfl⟩, Same.refl _⟩ (fun i σ H' _ h => .of (h.2 _ _ (s1 _ _ ea))) ?_ ?_
    · rintro i x σ H4 H5 hi ⟨⟨u, rfl⟩, sm⟩ ⟨rfl, hx⟩
      obtain ⟨p, hpx, rfl⟩ := int_at hx
      refine ⟨_, rfl, _, rfl, R1, _, rfl, .inl (.of (sm _ _ eR1)), rfl, flat_ints, ?_⟩
      rw [inV_ints, decide_eq_true (hp p (List.mem_of_getElem? hpx))]
      refine ⟨_, rfl, ite2 (fun e => absurd e (by decide)) fun _ => ?_⟩
      exact ⟨⟨_, rfl⟩, sm⟩
    rintro σ H4 ⟨_, sm⟩
    exact q H4 (s1.trans sm)


set_option maxHeartbeats 4000000 in
theorem ok_rule  (F : Fun K "_rule" "_rule" s_rule f fd) (T : Txt w K mg)
    (O_split_child : Own P w K mg base k "_split_child" ["net", "members", "place"] (sp_split_child K))
    (O_member_below_mixing : Own P w K mg base k "_member_below_mixing" ["net", "members", "place"] (sp_member_below_mixing K))
    (O_mixing_children : Own P w K mg base k "_mixing_children" ["net", "members", "place"] (sp_mixing_children K))
    (O_member_child : Own P w K mg base k "_member_child" ["net", "members", "place"] (sp_member_child K))
    (O_bound_mothers : Own P w K mg base k "_bound_mothers" ["net", "members", "place"] (sp_bound_mothers K)) : FnOk P w K mg base CX0 (k + 1) f fd ["net", "members", "place"] (sp_rule K) := by
  refine F.ok sc_rule (fun vs H Q E h => ?_) (fun cdv A outer s0 H vs Q E hr h => ?_)
  · obtain ⟨S, o, a, As, Bs, Ls, Ms, Pl, root, M, p, rfl, hN, g, hB, ea, hl, hp, q⟩ := h
    rfl
  · obtain ⟨S, o, a, As, Bs, Ls, Ms, Pl, root, M, p, rfl, hN, g, hB, ea, hl, hp, q⟩ := h
    refine ⟨_, (pss_cons (ps_set (i := 3) sc_rule.nd rfl (Or.inl rfl) (pe_callTy cr_dictW (by rfl) T.dict (by decide +kernel) (pa_cons (pe_glob (by rfl) T.RULES.1 (v := .ref (He.ga K "RULES")) rfl) pa_nil)))
      (pss_cons (ps_lock (ps_for PassesOwn.never rfl (pi_keys (pv 3)) (pg_name (i := 4) sc_rule.nd rfl (Or.inl rfl))
        (pss_cons (ps_set (i := 5) sc_rule.nd rfl (Or.inl rfl) (pe_dget (u1 hr) (pv 3) (pv 4) (fun _ _ => rfl)))
        (pss_one (ps_if (pt_val (pe_callH (i := 5) hr (by rfl) (.inl rfl) (pa_cons (pv 0) (pa_cons (pv 1) (pa_cons (pv 2) pa_nil)))))
          (pss_one (ps_ret (pv 4)))
          pss_nil)))))
      (pss_one (ps_ret pe_non)))), ?_⟩
    have at_ : ∀ {H' : Hp}, Same H H' → NetAt S K H' o Bs Ls Ms Pl root := fun s => hN.go fun b u hb e => ⟨hb, s _ _ e⟩
    obtain ⟨_, kt, kv, _, m0, _, m1, _, m2, _, m3, _, m4⟩ := T.RULES
    generalize eks : (["split", "below", "mixings", "child", "mothers"] : List Str) = ks at kt
    generalize eas : [He.ga K "_split_child", He.ga K "_member_below_mixing", He.ga K "_mixing_children", He.ga K "_member_child", He.ga K "_bound_mothers"] = as at kv
    have nd : ks.Nodup := by rw [← eks]; decide +kernel
    have lk : ks.length = as.length := by rw [← eks, ← eas]; rfl
    have l5 : ks.length = 5 := by rw [← eks]; rfl
    have lr : (ruleL Bs M p).map (·.1) = ks := by rw [← eks]; rfl
    have hcall : ∀ (i : Nat) (k1 : Str) (a1 : Addr), ks[i]? = some k1 → as[i]? = some a1 → ∃ r, Held P w K mg base k a1 (spRule r K) ∧ (ruleL Bs M p)[i]? = some (k1, r Bs M p) := fun i k1 a1 h1 h2 => by
      rw [← eks] at h1
      rw [← eas] at h2
      rcases i with _ | _ | _ | _ | _ | i
      · cases h1; cases h2; exact ⟨splC, O_split_child.held m0, rfl⟩
      · cases h1; cases h2; exact ⟨belC, O_member_below_mixing.held m1, rfl⟩
      · cases h1; cases h2; exact ⟨mixC, O_mixing_children.held m2, rfl⟩
      · cases h1; cases h2; exact ⟨chiC, O_member_child.held m3, rfl⟩
      · cases h1; cases h2; exact ⟨motC, O_bound_mothers.held m4, rfl⟩
      · cases h1
    refine ⟨He.ga K "RULES", ks, as, rfl, kt, kv, lk, by omega, fun D nD => ?_⟩
    have s1 := same_snoc (o := tabO ks as) (Same.refl H) nD
    have eD : upd H D (tabO ks as) D = some (tabO ks as) := upd_same
    generalize upd H D (tabO ks as) = H1 at s1 eD
    refine gn_h (σ' := [some (.ref o), some (.ref a), some (.int p), some (.ref D), none, none]) rfl ?_
    dsimp only
    refine ⟨D, _, eD, trivial, fun od => ?_⟩
    refine ⟨_, rfl, D, od, rfl, .inl ⟨_, upd_same, ?_⟩⟩
    have smL : ∀ {H' : Hp}, Same (upd H1 D (.frz od (tabO ks as))) H' → Same H H' := fun s b o e => s _ _ (by rw [upd_ne (fun z => by rw [z, nD] at e; cases e)]; exact s1 _ _ e)
    refine for_it (walk_keys (d := D) (o := od) (kvs := (ks.zip as).map fun ka => ((.inr ka.1 : Key), V.ref ka.2))) (fun i σ H' => (∃ u v, σ = [some (.ref o), some (.ref a), some (.int p), some (.ref D), u, v]) ∧ Same (upd H1 D (.frz od (tabO ks as))) H' ∧ ∀ j, j < i → ∀ z, (ruleL Bs M p)[j]? = some z → z.2 = false) ⟨⟨_, _, rfl⟩, Same.refl _, fun j hj => by omega⟩ (fun _ _ _ _ h => h.2.1 _ _ upd_same) ?_ ?_
    · rintro i xk σ H2 H3 hi ⟨⟨u, v, rfl⟩, sm, hp'⟩ ⟨rfl, kk, vv, hk, rfl⟩
      rw [List.getElem?_map] at hk
      obtain ⟨⟨k1, a1⟩, hz1, hz2⟩ := Option.map_eq_some_iff.mp hk
      cases hz2
      obtain ⟨hk1, ha1⟩ := List.getElem?_zip_eq_some.mp hz1
      obtain ⟨r, hheld, hr⟩ := hcall i k1 a1 hk1 ha1
      have eD2 := sm _ _ upd_same
      refine ⟨_, rfl, _, rfl, D, _, rfl, .inl ⟨_, .inr k1, .inr ⟨od, eD2⟩, rfl, (valV_tab nd hk1 ha1).symm⟩, a1, _, rfl, hheld, _, rfl, _, rfl, _, rfl, S, o, a, As, Bs, Ls, Ms, Pl, root, M, p, rfl, at_ (smL sm), g, hB, smL sm _ _ ea, hl, hp, fun H4 s4 => ⟨_, rfl, ?_⟩⟩
      cases hrb : r Bs M p with
      | true =>
        refine ite2 (fun _ => ?_) fun e => absurd rfl e
        rw [hrb] at hr
        refine ⟨_, rfl, s4 _ _ eD2, ?_⟩
        have := q (upd H4 D (tabO ks as)) fun b u e => by
          rw [upd_ne (fun z => by rw [z, nD] at e; cases e)]
          exact s4 _ _ (smL sm _ _ e)
        unfold ruleV at this
        rw [find_first hr hp'] at this
        exact this
      | false =>
        refine ite2 (fun e => absurd e (by decide)) fun _ => ?_
        refine ⟨⟨_, _, rfl⟩, sm.trans s4, fun j hj z hz => ?_⟩
        rcases Nat.lt_or_eq_of_le (Nat.le_of_lt_succ hj) with h | rfl
        · exact hp' j h z hz
        · rw [hr] at hz
          cases hz
          exact hrb
    · rintro σ H4 ⟨⟨u, v, rfl⟩, sm, hp'⟩
      refine ⟨sm _ _ upd_same, ?_⟩
      have := q (upd H4 D (tabO ks as)) fun b u e => by
        rw [upd_ne (fun z => by rw [z, nD] at e; cases e)]
        exact smL sm _ _ e
      unfold ruleV at this
      rw [find_nobody fun j z hz => hp' j (by
        have h1 := (List.getElem?_eq_some_iff.mp hz).1
        have h2 : (ruleL Bs M p).length = 5 := rfl
        rw [List.length_map, List.length_zip]
        omega) z hz] at this
      exact this


set_option maxHeartbeats 4000000 in
theorem ok_held  (F : Fun K "_held" "_held" s_held f fd) (T : Txt w K mg)
    (O_rule : Own P w K mg base k "_rule" ["net", "members", "place"] (sp_rule K)) : FnOk P w K mg base CX0 (k + 1) f fd ["net", "members"] (sp_held K) := by
  refine F.ok sc_held (fun vs H Q E h => ?_) (fun cdv A outer s0 H vs Q E hr h => ?_)
  · obtain ⟨S, o, a, As, Bs, Ls, Ms, Pl, root, M, rfl, hN, g, hB, ea, hl, hp, q⟩ := h
    rfl
  · obtain ⟨S, o, a, As, Bs, Ls, Ms, Pl, root, M, rfl, hN, g, hB, ea, hl, hp, q⟩ := h
    refine ⟨_, (pss_one (ps_ret (pe_lc (own := [("place", 2)]) (by rfl) sc_held.nd (pi_list (pv 1)) (blkOk_by (own := [("place", 2)]) (N := ["net", "members", "place"]) (sc := defScope s_held) (by decide +kernel)) (fun _ _ _ _ _ => pg_name (i := 2) sc_held.nd rfl (Or.inl rfl)) (fun _ _ _ _ _ => (pts_one (pt_cmpR op_notN (pe_own O_rule hr (by rfl) (pa_cons (pv 0) (pa_cons (pv 1) (pa_cons (pv 2) pa_nil)))) pe_non (nomark _)))) (fun _ _ _ _ _ => (pv 2))))), ?_⟩
    have sz : 1000 < sizeLine := by decide
    have at_ : ∀ {H' : Hp}, Same H H' → NetAt S K H' o Bs Ls Ms Pl root := fun s => hN.go fun b u hb e => ⟨hb, s _ _ e⟩
    refine ret_h ?_
    refine lc_listF (K := K) (a := a) (ns := M) (fun R h => ⟨_, rfl, h⟩) ea (fun p => heldB Bs M p) (by omega) (fun _ => rfl) (fun _ => rfl) ?_ ?_
    · intro p hpM H1 k s1 hk
      refine ⟨_, rfl, _, rfl, _, rfl, S, o, a, As, Bs, Ls, Ms, Pl, root, M, p, rfl, at_ s1, g, hB, s1 _ _ ea, hl, hp p hpM, fun H4 s4 => ?_⟩
      refine ⟨rfl, _, rfl, ?_⟩
      have := hk H4 s4
      cases c : heldB Bs M p with
      | true =>
        obtain ⟨z, hz⟩ := ruleV_held c
        rw [c] at this
        rw [hz]
        exact this
      | false =>
        rw [c] at this
        rw [ruleV_free c]
        exact this
    intro R H' nR s e
    exact q H' R s nR e


set_option maxHeartbeats 4000000 in
theorem ok_greatest_part  (F : Fun K "_greatest_part" "_greatest_part" s_greatest_part f fd) (T : Txt w K mg)
    (O_held : Own P w K mg base k "_held" ["net", "members"] (sp_held K)) : FnOk P w K mg base CX0 (k + 1) f fd ["net", "members"] (sp_greatest_part K) := by
  refine F.ok sc_greatest_part (fun vs H Q E h => ?_) (fun cdv A outer s0 H vs Q E hr h => ?_)
  · obtain ⟨S, o, a, As, Bs, Ls, Ms, Pl, root, M, rfl, hN, g, hB, ea, hl, hp, q⟩ := h
    rfl
  · obtain ⟨S, o, a, As, Bs, Ls, Ms, Pl, root, M, rfl, hN, g, hB, ea, hl, hp, q⟩ := h
    refine ⟨_, (pss_cons (ps_set (i := 2) sc_greatest_part.nd rfl (Or.inl rfl) (pe_own O_held hr (by rfl) (pa_cons (pv 0) (pa_cons (pv 1) pa_nil))))
      (pss_cons (ps_while PassesOwn.never (pt_cmpR (op_neD hr.units) (pv 2) (pv 1) (nomark _))
        (pss_cons (ps_set (i := 1) sc_greatest_part.nd rfl (Or.inl rfl) (pv 2))
        (pss_one (ps_set (i := 2) sc_greatest_part.nd rfl (Or.inl rfl) (pe_own O_held hr (by rfl) (pa_cons (pv 0) (pa_cons (pv 1) pa_nil)))))))
      (pss_one (ps_ret (pv 1))))), ?_⟩
    have sz : 1000 < sizeLine := by decide
    have at_ : ∀ {H' : Hp}, Same H H' → NetAt S K H' o Bs Ls Ms Pl root := fun s => hN.go fun b u hb e => ⟨hb, s _ _ e⟩
    refine ⟨_, rfl, _, rfl, S, o, a, As, Bs, Ls, Ms, Pl, root, M, rfl, hN, g, hB, ea, hl, hp, fun H1 R1 s1 nR1 eR1 => ?_⟩
    refine gn_h (σ' := [some (.ref o), some (.ref a), some (.ref R1)]) rfl ?_
    dsimp only
    obtain ⟨W, hW⟩ : ∃ W : Nat → L2.St → Hp → Prop, ∀ m σ H', W m σ H' ↔ ∃ (a' R' : Addr) (M' : List Int), σ = [some (.ref o), some (.ref a'), some (.ref R')] ∧ Same H H' ∧ (a' = a ∨ H a' = none) ∧ H R' = none ∧ H' a' = some (.lst (M'.map V.int)) ∧ H' R' = some (.lst ((M'.filter fun p => heldB Bs M' p).map V.int)) ∧ (∀ p ∈ M', p ∈ Pl) ∧ M'.length ≤ 1000 ∧ m = M'.length ∧ peel Bs M'.length M' = peel Bs M.length M := ⟨_, fun _ _ _ => Iff.rfl⟩
    refine ⟨W, ⟨M.length, (hW _ _ _).mpr ⟨a, R1, M, rfl, s1, .inl rfl, nR1, s1 _ _ ea, eR1, hp, hl, rfl, rfl⟩⟩, ?_⟩
    intro m σ H' hw
    obtain ⟨a', R', M', rfl, s2, fa', nR', ea', eR', hp', hl', rfl, hpe⟩ := (hW _ _ _).mp hw
    refine ⟨_, rfl, _, rfl, _, _, .lst (.of eR') dp_ints, .lst (.of ea') dp_ints, shaped_ints _, shaped_ints _, _, rfl, ?_⟩
    rw [eqv_ints]
    by_cases c : (M'.filter fun p => heldB Bs M' p) = M'
    case pos =>
      rw [decide_eq_true c]
      refine ite2 (fun e => absurd e (by decide)) fun _ => ?_
      refine ⟨_, rfl, q H' a' s2 fa' ?_⟩
      rw [ea', ← hpe, peel_fix c]
    rw [decide_eq_false c]
    refine ite2 (fun _ => ?_) fun e => absurd rfl e
    obtain ⟨lt, hpe2⟩ := peel_step c
    refine ⟨fun σ' H'' => ∃ m', m' < M'.length ∧ W m' σ' H'', fun _ _ h => h, ?_⟩
    refine ⟨_, rfl, ?_⟩
    refine gn_h (σ' := [some (.ref o), some (.ref R'), some (.ref R')]) rfl ?_
    dsimp only
    refine ⟨_, rfl, _, rfl, S, o, R', As, Bs, Ls, Ms, Pl, root, _, rfl, at_ s2, g, hB, eR', by omega, fun p h => hp' p (List.mem_filter.mp h).1, fun H2 R2 s3 nR2 eR2 => ?_⟩
    exact ⟨_, lt, (hW _ _ _).mpr ⟨R', R2, _, rfl, s2.trans s3, .inr nR', s2.free nR2, s3 _ _ eR', eR2, fun p h => hp' p (List.mem_filter.mp h).1, by omega, rfl, hpe2.trans hpe⟩⟩


set_option maxHeartbeats 4000000 in
theorem ok_Net___init  (F : Fun K "__init__" "Net.__init__" s_Net___init f fd) (T : Txt w K mg)
    (O_net_fault : Own P w K mg base k "net_fault" ["arrows", "leaves"] (sp_net_fault K))
    (O_relatives : Own P w K mg base k "relatives" ["arrows", "leaves"] (sp_relatives)) : FnOk P w K mg base CX0 (k + 1) f fd ["self", "arrows", "leaves"] (sp_Net___init K) := by
  refine F.ok sc_Net___init (fun vs H Q E h => ?_) (fun cdv A outer s0 H vs Q E hr h => ?_)
  · obtain ⟨S, o, dx, x, y, As, Bs, Ls, Pl, ring, root, rfl, eo, nSo, hS, ⟨a, xs, rfl, ea, hA⟩, ⟨b, ys, rfl, eb, hL⟩, hl, hl64, hP, h64, hB, hring, hz, hlf, hpf, nd1, nd2, hroot, q⟩ := h
    rfl
  · obtain ⟨S, o, dx, x, y, As, Bs, Ls, Pl, ring, root, rfl, eo, nSo, hS, ⟨a, xs, rfl, ea, hA⟩, ⟨b, ys, rfl, eb, hL⟩, hl, hl64, hP, h64, hB, hring, hz, hlf, hpf, nd1, nd2, hroot, q⟩ := h
    refine ⟨_, (pss_cons (ps_set (i := 3) sc_Net___init.nd rfl (Or.inl rfl) (pe_own O_net_fault hr (by rfl) (pa_cons (pv 1) (pa_cons (pv 2) pa_nil))))
      (pss_cons (ps_if (pt_cmpR op_notN (pv 3) pe_non (nomark _))
        (pss_cons (ps_asg (pv 3) (pg_pairK K rfl rfl (pg_name (i := 4) sc_Net___init.nd rfl (Or.inl rfl)) (pg_name (i := 5) sc_Net___init.nd rfl (Or.inl rfl)) (by rfl) (by rfl) (by rfl) (by rfl)))
        (pss_one ps_never))
        pss_nil)
      (pss_cons (ps_asg (pe_own O_relatives hr (by rfl) (pa_cons (pv 1) (pa_cons (pv 2) pa_nil))) (pg_pairK K rfl rfl (pg_name (i := 6) sc_Net___init.nd rfl (Or.inr rfl)) (pg_name (i := 7) sc_Net___init.nd rfl (Or.inl rfl)) (by rfl) (by rfl) (by rfl) (by rfl)))
      (pss_cons (ps_fld (pv 0) (pe_callB cr_sortedPO (by rfl) T.sorted (by decide +kernel) (pa_cons (pv 1) pa_nil)) rfl)
      (pss_cons (ps_fld (pv 0) (pe_callB cr_sortedPS (by rfl) T.sorted (by decide +kernel) (pa_cons (pv 2) pa_nil)) rfl)
      (pss_cons (ps_fld (pv 0) (pv 6) rfl)
      (pss_cons (ps_fld (pv 0) (pv 7) rfl)
      (pss_cons (ps_fld (pv 0) (pe_dc (own := [("place", 8), ("name", 9)]) (by rfl) sc_Net___init.nd (pi_list (pv 2)) (blkOk_by (own := [("place", 8), ("name", 9)]) (N := ["self", "arrows", "leaves", "fault", "word", "at", "mothers", "children", "place", "name"]) (sc := defScope s_Net___init) (by decide +kernel)) (fun _ _ _ _ _ => (pg_pairK K rfl rfl (pg_name (i := 8) sc_Net___init.nd rfl (Or.inl rfl)) (pg_name (i := 9) sc_Net___init.nd rfl (Or.inl rfl)) (by rfl) (by rfl) (by rfl) (by rfl))) (fun _ _ _ _ _ => pts_nil) (fun _ _ _ _ _ => (pv 8)) (fun _ _ _ _ _ => (pv 9))) rfl)
      (pss_cons (ps_fld (pv 0) (pe_dc (own := [("place", 8), ("name", 9)]) (by rfl) sc_Net___init.nd (pi_list (pv 2)) (blkOk_by (own := [("place", 8), ("name", 9)]) (N := ["self", "arrows", "leaves", "fault", "word", "at", "mothers", "children", "place", "name"]) (sc := defScope s_Net___init) (by decide +kernel)) (fun _ _ _ _ _ => (pg_pairK K rfl rfl (pg_name (i := 8) sc_Net___init.nd rfl (Or.inl rfl)) (pg_name (i := 9) sc_Net___init.nd rfl (Or.inl rfl)) (by rfl) (by rfl) (by rfl) (by rfl))) (fun _ _ _ _ _ => pts_nil) (fun _ _ _ _ _ => (pv 9)) (fun _ _ _ _ _ => (pv 8))) rfl)
      (pss_cons (ps_fld (pv 0) (pe_callB (call_sortedD rfl) (by rfl) T.sorted (by decide +kernel) (pa_cons (pe_fld (pv 0) (by rfl)) pa_nil)) rfl)
      (pss_one (ps_fld (pv 0) (pe_ix ix_list (pe_lock (pe_lc (own := [("place", 8)]) (by rfl) sc_Net___init.nd (pi_keys (pv 6)) (blkOk_by (own := [("place", 8)]) (N := ["self", "arrows", "leaves", "fault", "word", "at", "mothers", "children", "place", "name"]) (sc := defScope s_Net___init) (by decide +kernel)) (fun _ _ _ _ _ => pg_name (i := 8) sc_Net___init.nd rfl (Or.inl rfl)) (fun _ _ _ _ _ => (pts_one (pt_not (pt_tru K rfl (pe_dget (u1 hr) (pv 6) (pv 8) (fun _ _ => rfl)) (fun _ => rfl))))) (fun _ _ _ _ _ => (pv 8)))) pe_int (fun _ _ => rfl)) rfl)))))))))))), ?_⟩
    have hx : Da (fun _ => False) H (.ref a) (.list (As.map pd)) := .lst id ea (hA.go fun b o _ e => ⟨id, e⟩)
    have hy : Da (fun _ => False) H (.ref b) (.list (Ls.map ld)) := .lst id eb (hL.go fun b o _ e => ⟨id, e⟩)
    have sz : 1000 < sizeLine := by decide
    have no : ∀ f ∈ (["_arrows", "_leaves", "_mothers", "_children", "_name_at", "_place_at", "_names", "_root"] : List Str), NoAttr K (He.ga K "Net") f := T.Net_no
    have oa : o ≠ a := fun e => by rw [e, ea] at eo; cases eo
    have ob : o ≠ b := fun e => by rw [e, eb] at eo; cases eo
    refine ⟨_, rfl, _, rfl, (fun _ => False), .ref a, .ref b, As, Bs, Ls, Pl, ring, rfl, hx, hy, hl, hP, h64, hB, hring, hz, hlf, fun _ H1 s1 => ?_, fun wd i e => by rw [hpf] at e; cases e⟩
    refine ⟨_, rfl, rfl, _, rfl, ?_⟩
    refine ⟨_, rfl, _, rfl, (fun _ => False), .ref a, .ref b, As, Bs, Ls, Pl, rfl, hx.same s1, hy.same s1, hl, hP, h64, hB, fun H2 D M C am ac s2 n2 e2 hM hC dis => ?_⟩
    have s12 : Same H H2 := fun b o e => s2 _ _ (s1 _ _ e)
    refine ⟨D, _, rfl, .of e2, rfl, _, _, rfl, _, _, rfl, rfl, ?_⟩
    have hM := hM.base s1
    have hC := hC.base s1
    have hA2 := hA.same s12
    have hL2 := hL.same s12
    dsimp only
    refine seq_fld ?_
    refine ⟨_, rfl, a, xs, pairAt H2, rfl, .of (s12 _ _ ea), fun x hx => ?_, fun As1 A hs1 hs2 nA => ?_⟩
    · obtain ⟨i, hi⟩ := List.mem_iff_getElem?.mp hx
      obtain ⟨p, t, _, rfl, _, et⟩ := hA2.pd hi
      rw [pairAt_eq et]
      exact ⟨t, rfl, et⟩
    have hA3 := sorted_pdA hA2 hB hs1 hs2
    have b2 : But o H H2 := fun b u _ e => s12 _ _ e
    have eo2 := s12 _ _ eo
    refine ⟨_, rfl, o, _, dx, [], rfl, (by rw [upd_ne (fun e => by rw [← e, eo2] at nA; cases nA)]; exact eo2), T.Net_cls, no _ (by simp), by decide, ?_⟩
    have fA : ¬ S A := fun h => by
      obtain ⟨u, hu⟩ := hS _ h
      rw [s12 _ _ hu] at nA
      cases nA
    show tSeq _ _ _ _ (upd (upd H2 A (.lst As1)) o (.ins (He.ga K "Net") dx [("_arrows", .ref A)]))
    obtain ⟨b3, k3, eo3, eA3, nAo⟩ := stage [("_arrows", .ref A)] (.lst As1) b2 eo2 nA
    generalize upd (upd H2 A (.lst As1)) o (.ins (He.ga K "Net") dx [("_arrows", .ref A)]) = H3 at b3 k3 eo3 eA3
    have hA4 := hA3.kp k3
    have hL3 := hL2.kp k3
    have eM3 := k3.dK hM.at_
    have eC3 := k3.dK hC.at_
    have rM3 := hM.r.kp hM.at_ k3
    have rC3 := hC.r.kp hC.at_ k3
    have eb3 := k3.lst (s12 _ _ eb)
    refine seq_fld ?_
    refine ⟨_, rfl, b, ys, isAt H3, rfl, .of eb3, fun x hx => ?_, fun Ls1 L hs1 hs2 nL => ?_⟩
    · obtain ⟨i, hi⟩ := List.mem_iff_getElem?.mp hx
      obtain ⟨p, t, _, rfl, _, et⟩ := hL3.ld hi
      rw [isAt_eq et]
      exact ⟨t, rfl, et⟩
    obtain ⟨Ms, hMs, hL4⟩ := sorted_ldA hL3 hs1 hs2
    have fL := b3.fresh hS (fun e => by rw [e, eo3] at nL; cases nL) nL
    refine ⟨_, rfl, o, _, dx, _, rfl, (by rw [upd_ne (fun e => by rw [← e, eo3] at nL; cases nL)]; exact eo3), T.Net_cls, no _ (by simp), by simp, ?_⟩
    show tSeq _ _ _ _ (upd (upd H3 L (.lst Ls1)) o (.ins (He.ga K "Net") dx [("_arrows", .ref A), ("_leaves", .ref L)]))
    obtain ⟨b4, k4, eo4, eL4, nLo⟩ := stage [("_arrows", .ref A), ("_leaves", .ref L)] (.lst Ls1) b3 eo3 nL
    generalize upd (upd H3 L (.lst Ls1)) o (.ins (He.ga K "Net") dx [("_arrows", .ref A), ("_leaves", .ref L)]) = H4 at b4 k4 eo4 eL4
    refine seq_fld ⟨_, rfl, _, rfl, o, _, dx, _, rfl, eo4, T.Net_cls, no _ (by simp), by simp, ?_⟩
    show tSeq _ _ _ _ (upd H4 o (.ins (He.ga K "Net") dx [("_arrows", .ref A), ("_leaves", .ref L), ("_mothers", .ref M)]))
    obtain ⟨b5, k5, eo5⟩ := stage0 [("_arrows", .ref A), ("_leaves", .ref L), ("_mothers", .ref M)] b4 eo4
    generalize upd H4 o (.ins (He.ga K "Net") dx [("_arrows", .ref A), ("_leaves", .ref L), ("_mothers", .ref M)]) = H5 at b5 k5 eo5
    refine seq_fld ⟨_, rfl, _, rfl, o, _, dx, _, rfl, eo5, T.Net_cls, no _ (by simp), by simp, ?_⟩
    show tSeq _ _ _ _ (upd H5 o (.ins (He.ga K "Net") dx [("_arrows", .ref A), ("_leaves", .ref L), ("_mothers", .ref M), ("_children", .ref C)]))
    obtain ⟨b6, k6, eo6⟩ := stage0 [("_arrows", .ref A), ("_leaves", .ref L), ("_mothers", .ref M), ("_children", .ref C)] b5 eo5
    generalize upd H5 o (.ins (He.ga K "Net") dx [("_arrows", .ref A), ("_leaves", .ref L), ("_mothers", .ref M), ("_children", .ref C)]) = H6 at b6 k6 eo6
    have k36 : Kp H3 H6 := (k4.trans k5).trans k6
    have k46 : Kp H4 H6 := k5.trans k6
    have eb6 := k36.lst eb3
    have hL6 := hL3.kp k36
    have hNA : (Ls.map fun p => ((.inl p.1 : Key))).Nodup := List.pairwise_map.mpr ((List.pairwise_map.mp nd1).imp fun h e => h (Sum.inl.inj e))
    have hPA : (Ls.map fun p => ((.inr p.2 : Key))).Nodup := List.pairwise_map.mpr ((List.pairwise_map.mp nd2).imp fun h e => h (Sum.inr.inj e))
    refine seq_fld ?_
    refine dc_leaves (K := K) rfl eb6 hL6 (fun p => ((.inl p.1 : Key), V.str p.2)) hNA (by omega) (fun _ _ => rfl) (fun p H1 B hB => ⟨_, rfl, _, rfl, hB⟩) ?_
    intro NA H7 nNA s7 eNA7
    have nNAo : NA ≠ o := fun e => by rw [e, eo6] at nNA; cases nNA
    have fNA := b6.fresh hS nNAo nNA
    have b7 := b6.same s7
    have eo7 := s7 _ _ eo6
    refine ⟨_, rfl, o, _, dx, _, rfl, eo7, T.Net_cls, no _ (by simp), by simp, ?_⟩
    show tSeq _ _ _ _ (upd H7 o (.ins (He.ga K "Net") dx [("_arrows", .ref A), ("_leaves", .ref L), ("_mothers", .ref M), ("_children", .ref C), ("_name_at", .ref NA)]))
    obtain ⟨b8, k8, eo8⟩ := stage0 [("_arrows", .ref A), ("_leaves", .ref L), ("_mothers", .ref M), ("_children", .ref C), ("_name_at", .ref NA)] b7 eo7
    generalize upd H7 o (.ins (He.ga K "Net") dx [("_arrows", .ref A), ("_leaves", .ref L), ("_mothers", .ref M), ("_children", .ref C), ("_name_at", .ref NA)]) = H8 at b8 k8 eo8
    have k68 : Kp H6 H8 := (Same.kp s7).trans k8
    refine seq_fld ?_
    refine dc_leaves (K := K) rfl (k68.lst eb6) (hL6.kp k68) (fun p => ((.inr p.2 : Key), V.int p.1)) hPA (by omega) (fun _ _ => rfl) (fun p H1 B hB => ⟨_, rfl, _, rfl, hB⟩) ?_
    intro PA H9 nPA s9 ePA9
    have nPAo : PA ≠ o := fun e => by rw [e, eo8] at nPA; cases nPA
    have fPA := b8.fresh hS nPAo nPA
    have b9 := b8.same s9
    have eo9 := s9 _ _ eo8
    refine ⟨_, rfl, o, _, dx, _, rfl, eo9, T.Net_cls, no _ (by simp), by simp, ?_⟩
    show tSeq _ _ _ _ (upd H9 o (.ins (He.ga K "Net") dx [("_arrows", .ref A), ("_leaves", .ref L), ("_mothers", .ref M), ("_children", .ref C), ("_name_at", .ref NA), ("_place_at", .ref PA)]))
    obtain ⟨b10, k10, eo10⟩ := stage0 [("_arrows", .ref A), ("_leaves", .ref L), ("_mothers", .ref M), ("_children", .ref C), ("_name_at", .ref NA), ("_place_at", .ref PA)] b9 eo9
    generalize upd H9 o (.ins (He.ga K "Net") dx [("_arrows", .ref A), ("_leaves", .ref L), ("_mothers", .ref M), ("_children", .ref C), ("_name_at", .ref NA), ("_place_at", .ref PA)]) = H10 at b10 k10 eo10
    have ePA10 := k10.dK ePA9
    refine seq_fld ?_
    refine ⟨_, rfl, o, _, dx, _, .ref PA, rfl, eo10, T.Net_cls, no _ (by simp), rfl, PA, _, Ls.map (·.2), rfl, .inl ePA10, by rw [List.map_map, List.map_map]; rfl, by rw [List.length_map]; exact hl64, fun ns NM hns hss nNM => ?_⟩
    have nNMo : NM ≠ o := fun e => by rw [e, eo10] at nNM; cases nNM
    have fNM := b10.fresh hS nNMo nNM
    refine ⟨_, rfl, o, _, dx, _, rfl, (by rw [upd_ne nNMo.symm]; exact eo10), T.Net_cls, no _ (by simp), by simp, ?_⟩
    show (sFld _ _ _ _) _ _ (upd (upd H10 NM (.lst (ns.map V.str))) o (.ins (He.ga K "Net") dx [("_arrows", .ref A), ("_leaves", .ref L), ("_mothers", .ref M), ("_children", .ref C), ("_name_at", .ref NA), ("_place_at", .ref PA), ("_names", .ref NM)]))
    obtain ⟨b11, k11, eo11, eNM11, _⟩ := stage [("_arrows", .ref A), ("_leaves", .ref L), ("_mothers", .ref M), ("_children", .ref C), ("_name_at", .ref NA), ("_place_at", .ref PA), ("_names", .ref NM)] (.lst (ns.map V.str)) b10 eo10 nNM
    generalize upd (upd H10 NM (.lst (ns.map V.str))) o (.ins (He.ga K "Net") dx [("_arrows", .ref A), ("_leaves", .ref L), ("_mothers", .ref M), ("_children", .ref C), ("_name_at", .ref NA), ("_place_at", .ref PA), ("_names", .ref NM)]) = H11 at b11 k11 eo11 eNM11
    have k8_11 : Kp H8 H11 := (Same.kp s9).trans (k10.trans k11)
    have k3_11 : Kp H3 H11 := k36.trans (k68.trans k8_11)
    have k4_11 : Kp H4 H11 := k46.trans (k68.trans k8_11)
    have rM11 := rM3.kp eM3 k3_11
    have rC11 := rC3.kp eC3 k3_11
    have eM11 := k3_11.dK eM3
    have eC11 := k3_11.dK eC3
    refine fld_h (op_h ?_)
    refine lc_dict (j := 6) rfl eM11 (fun p => (upsOf Bs p).isEmpty) (Nat.lt_trans h64 (by decide)) (fun _ => rfl) (fun _ => rfl) ?_ ?_
    · intro x hx od H1 kk sm hk
      refine ⟨_, rfl, _, rfl, M, .ref (am x), rfl, ((rM11.lock (od := od) eM11).same sm).get hx, _, .inl ⟨_, .of (((rM11.lock (od := od) eM11).same sm).val x hx), rfl⟩, ?_⟩
      have e : (!(!((upsOf Bs x).map V.int).isEmpty)) = (upsOf Bs x).isEmpty := by cases upsOf Bs x <;> rfl
      show kk (!(!((upsOf Bs x).map V.int).isEmpty)) H1
      rw [e]
      exact hk _ (Same.refl _)
    intro R H12 nR s12' eR
    rw [hroot] at eR
    have b12 := b11.same s12'
    have eo12 := s12' _ _ eo11
    refine ⟨R, _, ((0 : Nat) : Int), .int root, rfl, rfl, .of eR, atI_nat (j := 0) rfl, _, rfl, o, _, dx, _, rfl, eo12, T.Net_cls, no _ (by simp), by simp, ?_⟩
    show Q .non (upd H12 o (.ins (He.ga K "Net") dx [("_arrows", .ref A), ("_leaves", .ref L), ("_mothers", .ref M), ("_children", .ref C), ("_name_at", .ref NA), ("_place_at", .ref PA), ("_names", .ref NM), ("_root", .int root)]))
    obtain ⟨b13, k13, eo13⟩ := stage0 [("_arrows", .ref A), ("_leaves", .ref L), ("_mothers", .ref M), ("_children", .ref C), ("_name_at", .ref NA), ("_place_at", .ref PA), ("_names", .ref NM), ("_root", .int root)] b12 eo12
    generalize upd H12 o (.ins (He.ga K "Net") dx [("_arrows", .ref A), ("_leaves", .ref L), ("_mothers", .ref M), ("_children", .ref C), ("_name_at", .ref NA), ("_place_at", .ref PA), ("_names", .ref NM), ("_root", .int root)]) = H13 at b13 k13 eo13
    have kl : Kp H11 H13 := (Same.kp s12').trans k13
    have fr : ∀ b, H b = none → ¬ S b := fun b n h => by
      obtain ⟨u, hu⟩ := hS b h
      rw [n] at hu
      cases hu
    refine q H13 Ms b13 ⟨hMs, dx, A, L, M, C, NA, PA, NM, am, ac, As1, Ls1, ns, eo13, ⟨(k3_11.trans kl).lst eA3, hA4.kp (k3_11.trans kl)⟩, ⟨(k4_11.trans kl).lst eL4, ?_⟩, ⟨kl.dK eM11, rM11.kp eM11 kl⟩, ⟨kl.dK eC11, rC11.kp eC11 kl⟩,
      ((k8.trans k8_11).trans kl).dK eNA7, ((k10.trans k11).trans kl).dK ePA9, ⟨kl.lst eNM11, hns, hss⟩, ?_, fun p hp => ⟨fr _ (hM.na p hp), fr _ (hC.na p hp)⟩⟩
    · exact hL4.kp (k3_11.trans kl)
    · intro b hb
      simp only [List.mem_cons, List.not_mem_nil, or_false] at hb
      rcases hb with rfl | rfl | rfl | rfl | rfl | rfl | rfl | rfl
      · exact nSo
      · exact fA
      · exact fL
      · exact fr _ hM.nd
      · exact fr _ hC.nd
      · exact fNA
      · exact fPA
      · exact fNM


set_option maxHeartbeats 4000000 in
theorem ok_Net_places  (F : Fun K "places" "Net.places" s_Net_places f fd) (T : Txt w K mg) : FnOk P w K mg base CX0 (k + 1) f fd ["self"] (sp_Net_places K) := by
  refine F.ok sc_Net_places (fun vs H Q E h => ?_) (fun cdv A outer s0 H vs Q E hr h => ?_)
  · obtain ⟨S, o, Bs, Ls, Ms, Pl, root, rfl, hN, q⟩ := h
    rfl
  · obtain ⟨S, o, Bs, Ls, Ms, Pl, root, rfl, hN, q⟩ := h
    refine ⟨_, (pss_one (ps_ret (pe_callTy (call_list_dK rfl) (by rfl) T.list (by decide +kernel) (pa_cons (pe_fld (pv 0) (by rfl)) pa_nil)))), ?_⟩
    obtain ⟨dx, A1, L1, M, C, NA, PA, NM, am, ac, ys, zs, ns, eo, _, _, ⟨eM, hM⟩, ⟨eC, hC⟩, _⟩ := hN.ex
    have no : ∀ f ∈ (["_arrows", "_leaves", "_mothers", "_children", "_name_at", "_place_at", "_names", "_root"] : List Str), NoAttr K (He.ga K "Net") f := T.Net_no
    refine ⟨_, rfl, o, _, dx, _, .ref C, rfl, eo, T.Net_cls, no _ (by simp), rfl, C, _, rfl, eC, fun R nR => ?_⟩
    refine q _ R (same_snoc (Same.refl _) nR) nR ?_
    rw [upd_same, List.map_map]
    rfl


set_option maxHeartbeats 4000000 in
theorem ok_Net_inner  (F : Fun K "inner" "Net.inner" s_Net_inner f fd) (T : Txt w K mg) : FnOk P w K mg base CX0 (k + 1) f fd ["self"] (sp_Net_inner K) := by
  refine F.ok sc_Net_inner (fun vs H Q E h => ?_) (fun cdv A outer s0 H vs Q E hr h => ?_)
  · obtain ⟨S, o, Bs, Ls, Ms, Pl, root, rfl, hN, h64, q⟩ := h
    rfl
  · obtain ⟨S, o, Bs, Ls, Ms, Pl, root, rfl, hN, h64, q⟩ := h
    refine ⟨_, (pss_one (ps_ret (pe_lock (pe_lc (own := [("place", 1)]) (by rfl) sc_Net_inner.nd (pi_keys (pe_fld (pv 0) (by rfl))) (blkOk_by (own := [("place", 1)]) (N := ["self", "place"]) (sc := defScope s_Net_inner) (by decide +kernel)) (fun _ _ _ _ _ => pg_name (i := 1) sc_Net_inner.nd rfl (Or.inl rfl)) (fun _ _ _ _ _ => (pts_one (pt_tru K rfl (pe_dget (u1 hr) (pe_fldK K rfl (pv 0) (by rfl)) (pv 1) (fun _ _ => rfl)) (fun _ => rfl)))) (fun _ _ _ _ _ => (pv 1)))))), ?_⟩
    obtain ⟨dx, A1, L1, M, C, NA, PA, NM, am, ac, ys, zs, ns, eo, ⟨eA, hA⟩, ⟨eL, hL⟩, ⟨eM, hM⟩, ⟨eC, hC⟩, eNA, ePA, ⟨eNM, hn1, hn2⟩, hSx, hPx⟩ := hN.ex
    have no : ∀ f ∈ (["_arrows", "_leaves", "_mothers", "_children", "_name_at", "_place_at", "_names", "_root"] : List Str), NoAttr K (He.ga K "Net") f := T.Net_no
    have oC : o ≠ C := fun e => by rw [e, eC] at eo; cases eo
    have oM : o ≠ M := fun e => by rw [e, eM] at eo; cases eo
    refine lc_dictT eC (fun p => !(downsOf Bs p).isEmpty) (Nat.lt_trans h64 (by decide)) (fun od R h => ⟨_, rfl, o, _, dx, _, .ref C, rfl, by rw [upd_ne oC]; exact eo, T.Net_cls, no _ (by simp), rfl, h⟩) (fun _ => rfl) (fun _ => rfl) ?_ (fun R H' nR sm e => q H' R sm nR e)
    intro x hx od H1 k sm hk
    have hC1 := (hC.lock (od := od) eC).same sm
    have eo1 := sm _ _ ((upd_ne (o := .frz od _) oC).trans eo)
    have e : (!((downsOf Bs x).map V.int).isEmpty) = !(downsOf Bs x).isEmpty := by cases downsOf Bs x <;> rfl
    refine ⟨_, rfl, o, _, dx, _, .ref C, rfl, eo1, T.Net_cls, no _ (by simp), rfl, _, rfl, C, .ref (ac x), rfl, hC1.get hx, _, .inl ⟨_, .of (hC1.val x hx), rfl⟩, ?_⟩
    rw [e]
    exact hk _ (Same.refl _)


set_option maxHeartbeats 4000000 in
theorem ok_Net_splits  (F : Fun K "splits" "Net.splits" s_Net_splits f fd) (T : Txt w K mg) : FnOk P w K mg base CX0 (k + 1) f fd ["self"] (sp_Net_splits K) := by
  refine F.ok sc_Net_splits (fun vs H Q E h => ?_) (fun cdv A outer s0 H vs Q E hr h => ?_)
  · obtain ⟨S, o, Bs, Ls, Ms, Pl, root, rfl, hN, h64, q⟩ := h
    rfl
  · obtain ⟨S, o, Bs, Ls, Ms, Pl, root, rfl, hN, h64, q⟩ := h
    refine ⟨_, (pss_one (ps_ret (pe_lock (pe_lc (own := [("place", 1)]) (by rfl) sc_Net_splits.nd (pi_keys (pe_fld (pv 0) (by rfl))) (blkOk_by (own := [("place", 1)]) (N := ["self", "place"]) (sc := defScope s_Net_splits) (by decide +kernel)) (fun _ _ _ _ _ => pg_name (i := 1) sc_Net_splits.nd rfl (Or.inl rfl)) (fun _ _ _ _ _ => (pts_one (pt_cmpR op_eq (pe_callB (call_len_seqK K rfl) (by rfl) T.len PySem.boot_len (pa_cons (pe_dget (u1 hr) (pe_fldK K rfl (pv 0) (by rfl)) (pv 1) (fun _ _ => rfl)) pa_nil)) pe_int (nomark _)))) (fun _ _ _ _ _ => (pv 1)))))), ?_⟩
    obtain ⟨dx, A1, L1, M, C, NA, PA, NM, am, ac, ys, zs, ns, eo, ⟨eA, hA⟩, ⟨eL, hL⟩, ⟨eM, hM⟩, ⟨eC, hC⟩, eNA, ePA, ⟨eNM, hn1, hn2⟩, hSx, hPx⟩ := hN.ex
    have no : ∀ f ∈ (["_arrows", "_leaves", "_mothers", "_children", "_name_at", "_place_at", "_names", "_root"] : List Str), NoAttr K (He.ga K "Net") f := T.Net_no
    have oC : o ≠ C := fun e => by rw [e, eC] at eo; cases eo
    have oM : o ≠ M := fun e => by rw [e, eM] at eo; cases eo
    refine lc_dictT eC (fun p => (downsOf Bs p).length == 2) (Nat.lt_trans h64 (by decide)) (fun od R h => ⟨_, rfl, o, _, dx, _, .ref C, rfl, by rw [upd_ne oC]; exact eo, T.Net_cls, no _ (by simp), rfl, h⟩) (fun _ => rfl) (fun _ => rfl) ?_ (fun R H' nR sm e => q H' R sm nR e)
    intro x hx od H1 k sm hk
    have hC1 := (hC.lock (od := od) eC).same sm
    have eo1 := sm _ _ ((upd_ne (o := .frz od _) oC).trans eo)
    have e : decide (V.int ((((downsOf Bs x).map V.int).length : Nat) : Int) = V.int 2) = ((downsOf Bs x).length == 2) := by
      rw [List.length_map, Bool.eq_iff_iff, decide_eq_true_iff, beq_iff_eq]
      exact ⟨fun h => by have := V.int.inj h; omega, fun h => by rw [h]; rfl⟩
    refine ⟨_, rfl, o, _, dx, _, .ref C, rfl, eo1, T.Net_cls, no _ (by simp), rfl, _, rfl, C, .ref (ac x), rfl, hC1.get hx, _, _, rfl, .inl (.of (hC1.val x hx)), rfl, _, rfl, ?_⟩
    rw [e]
    exact hk _ (Same.refl _)


set_option maxHeartbeats 4000000 in
theorem ok_Net_mixings  (F : Fun K "mixings" "Net.mixings" s_Net_mixings f fd) (T : Txt w K mg) : FnOk P w K mg base CX0 (k + 1) f fd ["self"] (sp_Net_mixings K) := by
  refine F.ok sc_Net_mixings (fun vs H Q E h => ?_) (fun cdv A outer s0 H vs Q E hr h => ?_)
  · obtain ⟨S, o, Bs, Ls, Ms, Pl, root, rfl, hN, h64, q⟩ := h
    rfl
  · obtain ⟨S, o, Bs, Ls, Ms, Pl, root, rfl, hN, h64, q⟩ := h
    refine ⟨_, (pss_one (ps_ret (pe_lock (pe_lc (own := [("place", 1)]) (by rfl) sc_Net_mixings.nd (pi_keys (pe_fld (pv 0) (by rfl))) (blkOk_by (own := [("place", 1)]) (N := ["self", "place"]) (sc := defScope s_Net_mixings) (by decide +kernel)) (fun _ _ _ _ _ => pg_name (i := 1) sc_Net_mixings.nd rfl (Or.inl rfl)) (fun _ _ _ _ _ => (pts_one (pt_cmpR op_eq (pe_callB (call_len_seqK K rfl) (by rfl) T.len PySem.boot_len (pa_cons (pe_dget (u1 hr) (pe_fldK K rfl (pv 0) (by rfl)) (pv 1) (fun _ _ => rfl)) pa_nil)) pe_int (nomark _)))) (fun _ _ _ _ _ => (pv 1)))))), ?_⟩
    obtain ⟨dx, A1, L1, M, C, NA, PA, NM, am, ac, ys, zs, ns, eo, ⟨eA, hA⟩, ⟨eL, hL⟩, ⟨eM, hM⟩, ⟨eC, hC⟩, eNA, ePA, ⟨eNM, hn1, hn2⟩, hSx, hPx⟩ := hN.ex
    have no : ∀ f ∈ (["_arrows", "_leaves", "_mothers", "_children", "_name_at", "_place_at", "_names", "_root"] : List Str), NoAttr K (He.ga K "Net") f := T.Net_no
    have oC : o ≠ C := fun e => by rw [e, eC] at eo; cases eo
    have oM : o ≠ M := fun e => by rw [e, eM] at eo; cases eo
    refine lc_dictT eM (fun p => (upsOf Bs p).length == 2) (Nat.lt_trans h64 (by decide)) (fun od R h => ⟨_, rfl, o, _, dx, _, .ref M, rfl, by rw [upd_ne oM]; exact eo, T.Net_cls, no _ (by simp), rfl, h⟩) (fun _ => rfl) (fun _ => rfl) ?_ (fun R H' nR sm e => q H' R sm nR e)
    intro x hx od H1 k sm hk
    have hC1 := (hM.lock (od := od) eM).same sm
    have eo1 := sm _ _ ((upd_ne (o := .frz od _) oM).trans eo)
    have e : decide (V.int ((((upsOf Bs x).map V.int).length : Nat) : Int) = V.int 2) = ((upsOf Bs x).length == 2) := by
      rw [List.length_map, Bool.eq_iff_iff, decide_eq_true_iff, beq_iff_eq]
      exact ⟨fun h => by have := V.int.inj h; omega, fun h => by rw [h]; rfl⟩
    refine ⟨_, rfl, o, _, dx, _, .ref M, rfl, eo1, T.Net_cls, no _ (by simp), rfl, _, rfl, M, .ref (am x), rfl, hC1.get hx, _, _, rfl, .inl (.of (hC1.val x hx)), rfl, _, rfl, ?_⟩
    rw [e]
    exact hk _ (Same.refl _)


set_option maxHeartbeats 4000000 in
theorem ok_Net_arrows  (F : Fun K "arrows" "Net.arrows" s_Net_arrows f fd) (T : Txt w K mg) : FnOk P w K mg base CX0 (k + 1) f fd ["self"] (sp_Net_arrows K) := by
  refine F.ok sc_Net_arrows (fun vs H Q E h => ?_) (fun cdv A outer s0 H vs Q E hr h => ?_)
  · obtain ⟨S, o, Bs, Ls, Ms, Pl, root, rfl, hN, q⟩ := h
    rfl
  · obtain ⟨S, o, Bs, Ls, Ms, Pl, root, rfl, hN, q⟩ := h
    refine ⟨_, (pss_one (ps_ret (pe_callTy call_list_of (by rfl) T.list (by decide +kernel) (pa_cons (pe_fld (pv 0) (by rfl)) pa_nil)))), ?_⟩
    obtain ⟨dx, A1, L1, M, C, NA, PA, NM, am, ac, ys, zs, ns, eo, ⟨eA, hA⟩, ⟨eL, hL⟩, _⟩ := hN.ex
    have no : ∀ f ∈ (["_arrows", "_leaves", "_mothers", "_children", "_name_at", "_place_at", "_names", "_root"] : List Str), NoAttr K (He.ga K "Net") f := T.Net_no
    refine ⟨_, rfl, o, _, dx, _, .ref A1, rfl, eo, T.Net_cls, no _ (by simp), rfl, A1, ys, rfl, .inl (.of eA), fun R nR => ?_⟩
    exact q _ R ys (same_snoc (Same.refl _) nR) nR upd_same (hA.new nR)


set_option maxHeartbeats 4000000 in
theorem ok_Net_leaves  (F : Fun K "leaves" "Net.leaves" s_Net_leaves f fd) (T : Txt w K mg) : FnOk P w K mg base CX0 (k + 1) f fd ["self"] (sp_Net_leaves K) := by
  refine F.ok sc_Net_leaves (fun vs H Q E h => ?_) (fun cdv A outer s0 H vs Q E hr h => ?_)
  · obtain ⟨S, o, Bs, Ls, Ms, Pl, root, rfl, hN, q⟩ := h
    rfl
  · obtain ⟨S, o, Bs, Ls, Ms, Pl, root, rfl, hN, q⟩ := h
    refine ⟨_, (pss_one (ps_ret (pe_callTy call_list_of (by rfl) T.list (by decide +kernel) (pa_cons (pe_fld (pv 0) (by rfl)) pa_nil)))), ?_⟩
    obtain ⟨dx, A1, L1, M, C, NA, PA, NM, am, ac, ys, zs, ns, eo, ⟨eA, hA⟩, ⟨eL, hL⟩, _⟩ := hN.ex
    have no : ∀ f ∈ (["_arrows", "_leaves", "_mothers", "_children", "_name_at", "_place_at", "_names", "_root"] : List Str), NoAttr K (He.ga K "Net") f := T.Net_no
    refine ⟨_, rfl, o, _, dx, _, .ref L1, rfl, eo, T.Net_cls, no _ (by simp), rfl, L1, zs, rfl, .inl (.of eL), fun R nR => ?_⟩
    exact q _ R zs (same_snoc (Same.refl _) nR) nR upd_same (hL.new nR)


set_option maxHeartbeats 4000000 in
theorem ok_Net_names  (F : Fun K "names" "Net.names" s_Net_names f fd) (T : Txt w K mg) : FnOk P w K mg base CX0 (k + 1) f fd ["self"] (sp_Net_names K) := by
  refine F.ok sc_Net_names (fun vs H Q E h => ?_) (fun cdv A outer s0 H vs Q E hr h => ?_)
  · obtain ⟨S, o, Bs, Ls, Ms, Pl, root, rfl, hN, q⟩ := h
    rfl
  · obtain ⟨S, o, Bs, Ls, Ms, Pl, root, rfl, hN, q⟩ := h
    refine ⟨_, (pss_one (ps_ret (pe_callTy call_list_of (by rfl) T.list (by decide +kernel) (pa_cons (pe_fld (pv 0) (by rfl)) pa_nil)))), ?_⟩
    obtain ⟨dx, A1, L1, M, C, NA, PA, NM, am, ac, ys, zs, ns, eo, ⟨eA, hA⟩, ⟨eL, hL⟩, ⟨eM, hM⟩, ⟨eC, hC⟩, eNA, ePA, ⟨eNM, hn1, hn2⟩, hSx, hPx⟩ := hN.ex
    have no : ∀ f ∈ (["_arrows", "_leaves", "_mothers", "_children", "_name_at", "_place_at", "_names", "_root"] : List Str), NoAttr K (He.ga K "Net") f := T.Net_no
    refine ⟨_, rfl, o, _, dx, _, .ref NM, rfl, eo, T.Net_cls, no _ (by simp), rfl, NM, _, rfl, .inl (.of eNM), fun R nR => ?_⟩
    exact q _ R ns (same_snoc (Same.refl _) nR) nR upd_same hn1 hn2


set_option maxHeartbeats 4000000 in
theorem ok_Net_mothers  (F : Fun K "mothers" "Net.mothers" s_Net_mothers f fd) (T : Txt w K mg)
    (O_Net__demand : OwnM P w K mg base k (He.ga K "Net") "_demand" ["self", "place"] (sp_Net__demand K)) : FnOk P w K mg base CX0 (k + 1) f fd ["self", "place"] (sp_Net_mothers K) := by
  refine F.ok sc_Net_mothers (fun vs H Q E h => ?_) (fun cdv A outer s0 H vs Q E hr h => ?_)
  · obtain ⟨S, o, Bs, Ls, Ms, Pl, root, p, rfl, hN, hp, q⟩ := h
    rfl
  · obtain ⟨S, o, Bs, Ls, Ms, Pl, root, p, rfl, hN, hp, q⟩ := h
    refine ⟨_, (pss_cons (ps_expr (pe_ownM O_Net__demand hr T.Net_cls (pv 0) (pa_cons (pv 1) pa_nil)))
      (pss_one (ps_ret (pe_callTy call_list_of (by rfl) T.list (by decide +kernel) (pa_cons (pe_dget (u1 hr) (pe_fld (pv 0) (by rfl)) (pv 1) (fun _ _ => rfl)) pa_nil))))), ?_⟩
    obtain ⟨dx, A1, L1, M, C, NA, PA, NM, am, ac, ys, zs, ns, eo, ⟨eA, hA⟩, ⟨eL, hL⟩, ⟨eM, hM⟩, ⟨eC, hC⟩, eNA, ePA, ⟨eNM, hn1, hn2⟩, hSx, hPx⟩ := hN.ex
    have no : ∀ f ∈ (["_arrows", "_leaves", "_mothers", "_children", "_name_at", "_place_at", "_names", "_root"] : List Str), NoAttr K (He.ga K "Net") f := T.Net_no
    refine ⟨_, rfl, o, dx, _, rfl, eo, rfl, _, rfl, S, o, Bs, Ls, Ms, Pl, root, p, rfl, hN, hp, fun H1 s1 => ?_⟩
    have h1 := hM.go (s1 _ _ eM) fun p hp u e => s1 _ _ e
    refine ⟨_, rfl, o, _, dx, _, .ref M, rfl, s1 _ _ eo, T.Net_cls, no _ (by simp), rfl, _, rfl, M, .ref (am p), rfl, h1.get hp, am p, _, rfl, .inl (.of (h1.val p hp)), fun R nR => ?_⟩
    exact q _ R (same_snoc s1 nR) (s1.free nR) upd_same


set_option maxHeartbeats 4000000 in
theorem ok_Net_children  (F : Fun K "children" "Net.children" s_Net_children f fd) (T : Txt w K mg)
    (O_Net__demand : OwnM P w K mg base k (He.ga K "Net") "_demand" ["self", "place"] (sp_Net__demand K)) : FnOk P w K mg base CX0 (k + 1) f fd ["self", "place"] (sp_Net_children K) := by
  refine F.ok sc_Net_children (fun vs H Q E h => ?_) (fun cdv A outer s0 H vs Q E hr h => ?_)
  · obtain ⟨S, o, Bs, Ls, Ms, Pl, root, p, rfl, hN, hp, q⟩ := h
    rfl
  · obtain ⟨S, o, Bs, Ls, Ms, Pl, root, p, rfl, hN, hp, q⟩ := h
    refine ⟨_, (pss_cons (ps_expr (pe_ownM O_Net__demand hr T.Net_cls (pv 0) (pa_cons (pv 1) pa_nil)))
      (pss_one (ps_ret (pe_callTy call_list_of (by rfl) T.list (by decide +kernel) (pa_cons (pe_dget (u1 hr) (pe_fld (pv 0) (by rfl)) (pv 1) (fun _ _ => rfl)) pa_nil))))), ?_⟩
    obtain ⟨dx, A1, L1, M, C, NA, PA, NM, am, ac, ys, zs, ns, eo, ⟨eA, hA⟩, ⟨eL, hL⟩, ⟨eM, hM⟩, ⟨eC, hC⟩, eNA, ePA, ⟨eNM, hn1, hn2⟩, hSx, hPx⟩ := hN.ex
    have no : ∀ f ∈ (["_arrows", "_leaves", "_mothers", "_children", "_name_at", "_place_at", "_names", "_root"] : List Str), NoAttr K (He.ga K "Net") f := T.Net_no
    refine ⟨_, rfl, o, dx, _, rfl, eo, rfl, _, rfl, S, o, Bs, Ls, Ms, Pl, root, p, rfl, hN, hp, fun H1 s1 => ?_⟩
    have h1 := hC.go (s1 _ _ eC) fun p hp u e => s1 _ _ e
    refine ⟨_, rfl, o, _, dx, _, .ref C, rfl, s1 _ _ eo, T.Net_cls, no _ (by simp), rfl, _, rfl, C, .ref (ac p), rfl, h1.get hp, ac p, _, rfl, .inl (.of (h1.val p hp)), fun R nR => ?_⟩
    exact q _ R (same_snoc s1 nR) (s1.free nR) upd_same


set_option maxHeartbeats 4000000 in
theorem ok_Net_kind_of  (F : Fun K "kind_of" "Net.kind_of" s_Net_kind_of f fd) (T : Txt w K mg)
    (O_Net__demand : OwnM P w K mg base k (He.ga K "Net") "_demand" ["self", "place"] (sp_Net__demand K)) : FnOk P w K mg base CX0 (k + 1) f fd ["self", "place"] (sp_Net_kind_of K) := by
  refine F.ok sc_Net_kind_of (fun vs H Q E h => ?_) (fun cdv A outer s0 H vs Q E hr h => ?_)
  · obtain ⟨S, o, Bs, Ls, Ms, Pl, root, p, z, rfl, hN, hp, hz, q⟩ := h
    rfl
  · obtain ⟨S, o, Bs, Ls, Ms, Pl, root, p, z, rfl, hN, hp, hz, q⟩ := h
    refine ⟨_, (pss_cons (ps_expr (pe_ownM O_Net__demand hr T.Net_cls (pv 0) (pa_cons (pv 1) pa_nil)))
      (pss_one (ps_ret (pe_ix ix_tup (pe_glob (by rfl) T.KIND_BY_CHILDREN.1 (v := .ref (He.ga K "KIND_BY_CHILDREN")) rfl) (pe_callB call_len_seq (by rfl) T.len PySem.boot_len (pa_cons (pe_dget (u1 hr) (pe_fld (pv 0) (by rfl)) (pv 1) (fun _ _ => rfl)) pa_nil)) (fun _ _ => rfl))))), ?_⟩
    obtain ⟨dx, A1, L1, M, C, NA, PA, NM, am, ac, ys, zs, ns, eo, ⟨eA, hA⟩, ⟨eL, hL⟩, ⟨eM, hM⟩, ⟨eC, hC⟩, eNA, ePA, ⟨eNM, hn1, hn2⟩, hSx, hPx⟩ := hN.ex
    have no : ∀ f ∈ (["_arrows", "_leaves", "_mothers", "_children", "_name_at", "_place_at", "_names", "_root"] : List Str), NoAttr K (He.ga K "Net") f := T.Net_no
    refine ⟨_, rfl, o, dx, _, rfl, eo, rfl, _, rfl, S, o, Bs, Ls, Ms, Pl, root, p, rfl, hN, hp, fun H1 s1 => ?_⟩
    have h1 := hC.go (s1 _ _ eC) fun p hp u e => s1 _ _ e
    refine ⟨_, rfl, o, _, dx, _, .ref C, rfl, s1 _ _ eo, T.Net_cls, no _ (by simp), rfl, _, rfl, C, .ref (ac p), rfl, h1.get hp, _, _, rfl, .inl (.of (h1.val p hp)), ?_⟩
    refine ⟨_, _, ((downsOf Bs p).length : Int), .str z, rfl, by rw [List.length_map], T.KIND_BY_CHILDREN.2 _, atI_nat ?_, q _ s1⟩
    match h : (downsOf Bs p).length, hz with
    | 0, hz => exact congrArg (Option.map V.str) hz
    | 1, hz => exact congrArg (Option.map V.str) hz
    | 2, hz => exact congrArg (Option.map V.str) hz


set_option maxHeartbeats 4000000 in
theorem ok_Net___eq  (F : Fun K "__eq__" "Net.__eq__" s_Net___eq f fd) (T : Txt w K mg) : FnOk P w K mg base CX0 (k + 1) f fd ["self", "other"] (sp_Net___eq K) := by
  refine F.ok sc_Net___eq (fun vs H Q E h => ?_) (fun cdv A outer s0 H vs Q E hr h => ?_)
  · obtain ⟨o1, y, rfl, h⟩ := h
    rfl
  · obtain ⟨o1, y, rfl, h⟩ := h
    refine ⟨_, (pss_one (ps_ret (pe_and (pe_callB (call_isX (C := He.ga K "Net")) (by rfl) T.isinstance (by decide +kernel) (pa_cons (pv 1) (pa_cons (pe_glob (by rfl) T.Net_glo (v := .ref (He.ga K "Net")) rfl) pa_nil))) (pe_and (pe_cmpR (op_eqD hr.units) (pe_fld (pv 0) (by rfl)) (pe_fld (pv 1) (by rfl)) (nomark _)) (pe_one (pe_cmpR (op_eqD hr.units) (pe_fld (pv 0) (by rfl)) (pe_fld (pv 1) (by rfl)) (nomark _))))))), ?_⟩
    rcases h with ⟨S, o2, Bs1, Bs2, Ls1, Ms1, Ls2, Ms2, P1, P2, r1, r2, rfl, hN1, hN2, hn1, hn2, q⟩ | ⟨S, d, hd, q⟩
    rotate_left
    · exact ⟨_, rfl, y, _, false, rfl, hd.ty, T.Net_ixs.kit _ (six_of hd), _, rfl, ite2 (fun e => absurd e (by decide)) fun _ => q⟩
    obtain ⟨dx, A, L, M, C, NA, PA, NM, am, ac, ys, zs, ns, eo, ⟨eA, hA⟩, ⟨eL, hL⟩, _, _, _, _, _, hSS, _⟩ := hN1.ex
    obtain ⟨dx', A', L', M', C', NA', PA', NM', am', ac', ys', zs', ns', eo', ⟨eA', hA'⟩, ⟨eL', hL'⟩, _, _, _, _, _, hSS', _⟩ := hN2.ex
    have no : ∀ f ∈ (["_arrows", "_leaves", "_mothers", "_children", "_name_at", "_place_at", "_names", "_root"] : List Str), NoAttr K (He.ga K "Net") f := T.Net_no
    have dA : Da S H (.ref A) (.list (Bs1.map pd)) := .lst (hSS A (by simp)) eA hA
    have dA' : Da S H (.ref A') (.list (Bs2.map pd)) := .lst (hSS' A' (by simp)) eA' hA'
    have dL : Da S H (.ref L) (.list (Ms1.map ld)) := .lst (hSS L (by simp)) eL hL
    have dL' : Da S H (.ref L') (.list (Ms2.map ld)) := .lst (hSS' L' (by simp)) eL' hL'
    refine ⟨_, rfl, .ref o2, _, true, rfl, T.Net_ixs.ty eo', T.Net_ixs.ins.me, _, rfl, ?_⟩
    refine ite2 (fun _ => ?_) fun e => absurd rfl e
    refine ⟨_, rfl, o1, _, dx, _, .ref A, rfl, eo, T.Net_cls, no _ (by simp), rfl, _, rfl, o2, _, dx', _, .ref A', rfl, eo', T.Net_cls, no _ (by simp), rfl, _, _, dA.dp, dA'.dp, shaped_pds _, shaped_pds _, _, rfl, ?_⟩
    rw [eqv_pds]
    cases hb : decide (Bs1 = Bs2) with
    | false =>
      rw [hb] at q
      exact ite2 (fun e => absurd e (by decide)) fun _ => q
    | true =>
      rw [hb] at q
      refine ite2 (fun _ => ?_) fun e => absurd rfl e
      refine ⟨_, rfl, o1, _, dx, _, .ref L, rfl, eo, T.Net_cls, no _ (by simp), rfl, _, rfl, o2, _, dx', _, .ref L', rfl, eo', T.Net_cls, no _ (by simp), rfl, _, _, dL.dp, dL'.dp, shaped_lds hn1, shaped_lds hn2, ?_⟩
      rw [eqv_lds]
      exact q


set_option maxHeartbeats 4000000 in
theorem ok_Net___contains  (F : Fun K "__contains__" "Net.__contains__" s_Net___contains f fd) (T : Txt w K mg) : FnOk P w K mg base CX0 (k + 1) f fd ["self", "x"] (sp_Net___contains K) := by
  refine F.ok sc_Net___contains (fun vs H Q E h => ?_) (fun cdv A outer s0 H vs Q E hr h => ?_)
  · obtain ⟨S, o, Bs, Ls, Ms, Pl, root, z, rfl, hN, hnd, q⟩ := h
    rfl
  · obtain ⟨S, o, Bs, Ls, Ms, Pl, root, z, rfl, hN, hnd, q⟩ := h
    refine ⟨_, (pss_one (ps_ret (pe_and (pe_callB call_isD (by rfl) T.isinstance (by decide +kernel) (pa_cons (pv 1) (pa_cons (pe_bltn (v := .ty "str") (by rfl) T.str (by decide +kernel) rfl) pa_nil))) (pe_one (pe_cmp (pc_din (u1 hr) (pv 1) (pe_fld (pv 0) (by rfl)))))))), ?_⟩
    obtain ⟨dx, A1, L1, M, C, NA, PA, NM, am, ac, ys, zs, ns, eo, ⟨eA, hA⟩, ⟨eL, hL⟩, ⟨eM, hM⟩, ⟨eC, hC⟩, eNA, ePA, ⟨eNM, hn1, hn2⟩, hSx, hPx⟩ := hN.ex
    have no : ∀ f ∈ (["_arrows", "_leaves", "_mothers", "_children", "_name_at", "_place_at", "_names", "_root"] : List Str), NoAttr K (He.ga K "Net") f := T.Net_no
    have nd : (Ls.map fun p => (.inr p.2 : Key)).Nodup := by
      have := List.Pairwise.map (S := (· ≠ ·)) (fun z : Str => (.inr z : Key)) (fun a b hab e => hab (Sum.inr.inj e)) hnd
      rw [List.map_map] at this
      exact this
    refine ⟨_, rfl, .str z, "str", S, .str z, rfl, rfl, .str z, true, rfl, ?_⟩
    refine ite2 (fun _ => ?_) fun e => absurd rfl e
    refine ⟨_, rfl, _, rfl, o, _, dx, _, .ref PA, rfl, eo, T.Net_cls, no _ (by simp), rfl, PA, ?_⟩
    by_cases c : z ∈ Ls.map (·.2)
    · rw [decide_eq_true c] at q
      obtain ⟨l, hl, rfl⟩ := List.mem_map.mp c
      exact ⟨_, rfl, .inl ⟨_, .inr l.2, .inl ePA, rfl, (valV_at (k := fun p : Int × Str => (.inr p.2 : Key)) (v := fun p => V.int p.1) nd hl).symm⟩, q⟩
    · rw [decide_eq_false c] at q
      refine ⟨_, rfl, .inl ⟨_, .inr z, .inl ePA, rfl, (valV_not (k := fun p : Int × Str => (.inr p.2 : Key)) (v := fun p => V.int p.1) fun h => ?_).symm⟩, q⟩
      obtain ⟨l, hl, e⟩ := List.mem_map.mp h
      exact c (List.mem_map.mpr ⟨l, hl, Sum.inr.inj e⟩)


set_option maxHeartbeats 4000000 in
theorem ok_Net__demand  (F : Fun K "_demand" "Net._demand" s_Net__demand f fd) (T : Txt w K mg) : FnOk P w K mg base CX0 (k + 1) f fd ["self", "place"] (sp_Net__demand K) := by
  refine F.ok sc_Net__demand (fun vs H Q E h => ?_) (fun cdv A outer s0 H vs Q E hr h => ?_)
  · obtain ⟨S, o, Bs, Ls, Ms, Pl, root, p, rfl, hN, hp, q⟩ := h
    rfl
  · obtain ⟨S, o, Bs, Ls, Ms, Pl, root, p, rfl, hN, hp, q⟩ := h
    refine ⟨_, (pss_one (ps_if (pt_cmp (pc_dnotin (u1 hr) (pv 1) (pe_fld (pv 0) (by rfl))))
        (pss_one ps_never)
        pss_nil)), ?_⟩
    obtain ⟨dx, A1, L1, M, C, NA, PA, NM, am, ac, ys, zs, ns, eo, ⟨eA, hA⟩, ⟨eL, hL⟩, ⟨eM, hM⟩, ⟨eC, hC⟩, eNA, ePA, ⟨eNM, hn1, hn2⟩, hSx, hPx⟩ := hN.ex
    have no : ∀ f ∈ (["_arrows", "_leaves", "_mothers", "_children", "_name_at", "_place_at", "_names", "_root"] : List Str), NoAttr K (He.ga K "Net") f := T.Net_no
    refine ⟨_, rfl, _, rfl, o, _, dx, _, .ref C, rfl, eo, T.Net_cls, no _ (by simp), rfl, C, _, rfl, hC.get hp, _, rfl, ite2 (fun e => by simp at e) fun _ => ?_⟩
    exact q _ (Same.refl _)


set_option maxHeartbeats 4000000 in
theorem ok_law_mix  (F : Fun K "_law_mix" "_law_mix" s_law_mix f fd) (T : Txt w K mg) : FnOk P w K mg base CX0 (k + 1) f fd ["cell", "turn"] (sp_law_mix) := by
  refine F.ok sc_law_mix (fun vs H Q E h => ?_) (fun cdv A outer s0 H vs Q E hr h => ?_)
  · obtain ⟨a, b, rfl, q⟩ := h
    rfl
  · obtain ⟨a, b, rfl, q⟩ := h
    refine ⟨_, (pss_cons (ps_set (i := 2) sc_law_mix.nd rfl (Or.inl rfl) (pe_op op_mod (pe_callTy call_int1 (by rfl) T.int (by decide +kernel) (pa_cons (pe_op op_add (pe_op op_add (pe_op op_mul (pe_op op_mod (pe_callTy call_int1 (by rfl) T.int (by decide +kernel) (pa_cons (pv 0) pa_nil)) pe_int) pe_int) (pe_op op_mul (pv 1) pe_int)) pe_int) pa_nil)) pe_int))
      (pss_cons (ps_set (i := 2) sc_law_mix.nd rfl (Or.inl rfl) (pe_op op_mod (pe_callTy call_int1 (by rfl) T.int (by decide +kernel) (pa_cons (pe_op op_mul (pe_op op_xor (pv 2) (pe_op op_fdiv (pv 2) pe_int)) pe_int) pa_nil)) pe_int))
      (pss_cons (ps_set (i := 2) sc_law_mix.nd rfl (Or.inl rfl) (pe_op op_mod (pe_callTy call_int1 (by rfl) T.int (by decide +kernel) (pa_cons (pe_op op_mul (pe_op op_xor (pv 2) (pe_op op_fdiv (pv 2) pe_int)) pe_int) pa_nil)) pe_int))
      (pss_one (ps_ret (pe_op op_xor (pv 2) (pe_op op_fdiv (pv 2) pe_int))))))), ?_⟩
    walk_at "go"
    exact q _


set_option maxHeartbeats 4000000 in
theorem ok_law_store  (F : Fun K "_law_store" "_law_store" s_law_store f fd) (T : Txt w K mg)
    (O_law_mix : Own P w K mg base k "_law_mix" ["cell", "turn"] (sp_law_mix)) : FnOk P w K mg base CX0 (k + 1) f fd ["script"] (sp_law_store K) := by
  refine F.ok sc_law_store (fun vs H Q E h => ?_) (fun cdv A outer s0 H vs Q E hr h => ?_)
  · obtain ⟨a, ns, rfl, hS, hlen, q⟩ := h
    rfl
  · obtain ⟨a, ns, rfl, hS, hlen, q⟩ := h
    refine ⟨_, (pss_cons (ps_setLc (i := 2) (own := [("cell", 1)]) (by rfl) sc_law_store.nd rfl rfl (sw_true rfl rfl rfl (by decide +kernel)) (pi_list (pv 0)) (blkOk_by (own := [("cell", 1)]) (N := ["script", "cell", "cells", "seed"]) (sc := defScope s_law_store) (by decide +kernel)) (fun _ _ _ _ _ => pg_name (i := 1) sc_law_store.nd rfl (Or.inl rfl)) (fun _ _ _ _ _ => pts_nil) (fun _ _ _ _ _ => (pe_callTy call_int1 (by rfl) T.int (by decide +kernel) (pa_cons (pv 1) pa_nil))))
      (pss_cons (ps_set (i := 3) sc_law_store.nd rfl (Or.inl rfl) (pe_op op_add (pe_callB call_len_seq (by rfl) T.len PySem.boot_len (pa_cons (pv 2) pa_nil)) pe_int))
      (pss_cons (ps_for PassesOwn.never rfl (pi_list (pv 2)) (pg_name (i := 1) sc_law_store.nd rfl (Or.inl rfl))
        (pss_one (ps_set (i := 3) sc_law_store.nd rfl (Or.inl rfl) (pe_own O_law_mix hr (by rfl) (pa_cons (pe_op op_add (pv 1) (pv 3)) (pa_cons (pv 3) pa_nil))))))
      (pss_one (ps_ret (pe_lst (pa_cons (pv 2) (pa_cons pe_int (pa_cons pe_int (pa_cons (pv 3) (pa_cons pe_int pa_nil))))))))))), ?_⟩
    refine ⟨_, rfl, a, rfl, ⟨_, hS⟩, fun D nD => ?_⟩
    have hm : (ns.map V.int).length = ns.length := List.length_map ..
    refine lc_list (K := K) (a := a) (xs := ns.map V.int) (fun i H' => Same H H' ∧ H' D = some (.lst ((ns.take i).map V.int))) ⟨same_new (Same.refl H) nD, upd_same⟩ (fun i H' _ hp => hp.1.seq hS) ?_ ?_
    · rintro i x H' hi ⟨sm, eD⟩
      obtain ⟨n, hn, rfl⟩ := int_at hi
      refine ⟨rfl, ?_⟩
      refine ⟨_, rfl, .inl ⟨n, rfl, _, eD, ?_, ?_, ?_⟩⟩
      · rw [List.length_map, List.length_take]
        exact Nat.lt_of_le_of_lt (Nat.min_le_right _ _) (line_lt (by omega))
      · intro b o e
        rw [upd_ne (ne_of_none e nD)]
        exact sm b o e
      · rw [upd_same, ← take_snoc hn, List.map_append]
        rfl
    rintro H1 ⟨sm, eD⟩
    rw [hm, List.take_length] at eD
    refine ⟨_, rfl, D, _, rfl, .inl (SqL.of eD), _, _, rfl, rfl, ?_⟩
    refine ⟨_, rfl, D, rfl, ⟨_, SqL.of eD⟩, for_list (K := K) (a := D) (xs := ns.map V.int) (fun i σ H' => H' = H1 ∧ ∃ c v, σ = [some (.ref a), c, some (.ref D), some (.int v)]) ⟨rfl, _, _, rfl⟩ (fun i σ H' _ hp => by rw [hp.1]; exact SqL.of eD) ?_ ?_⟩
    · rintro i x σ H' hi ⟨rfl, c, v, rfl⟩
      obtain ⟨n, hn, rfl⟩ := int_at hi
      refine ⟨_, rfl, _, rfl, _, _, rfl, rfl, _, rfl, _, _, rfl, fun r => ⟨rfl, _, _, rfl⟩⟩
    rintro σ H' ⟨rfl, c, v, rfl⟩
    refine ⟨_, rfl, _, rfl, (by show 5 ≤ sizeLine; decide), fun p np => ?_⟩
    refine q _ (fun b => b = p ∨ b = D) p (same_new sm (sm.free np)) (fun b hb => ?_) ⟨.inl rfl, D, ns, 0, 0, v, 0, upd_same, ne_of_none eD np, ?_, by decide, by decide, .inr rfl⟩
    · rcases hb with rfl | rfl
      · exact ⟨_, upd_same⟩
      · exact ⟨_, by rw [upd_ne (ne_of_none eD np)]; exact eD⟩
    rw [upd_ne (ne_of_none eD np)]
    exact eD


set_option maxHeartbeats 4000000 in
theorem ok_law_take  (F : Fun K "_law_take" "_law_take" s_law_take f fd) (T : Txt w K mg)
    (O_law_mix : Own P w K mg base k "_law_mix" ["cell", "turn"] (sp_law_mix)) : FnOk P w K mg base CX0 (k + 1) f fd ["store", "many"] (sp_law_take) := by
  refine F.ok sc_law_take (fun vs H Q E h => ?_) (fun cdv A outer s0 H vs Q E hr h => ?_)
  · obtain ⟨S, s, m, rfl, hS, hm, q⟩ := h
    rfl
  · obtain ⟨S, s, m, rfl, hS, hm, q⟩ := h
    refine ⟨_, (pss_cons (ps_set (i := 1) sc_law_take.nd rfl (Or.inl rfl) (pe_callB (call_max2 rfl) (by rfl) T.max (by decide +kernel) (pa_cons pe_int (pa_cons (pe_callTy call_int1 (by rfl) T.int (by decide +kernel) (pa_cons (pv 1) pa_nil)) pa_nil))))
      (pss_cons (ps_if (pt_cmpR op_eq (pv 1) pe_int (nomark _))
        (pss_one (ps_ret pe_int))
        pss_nil)
      (pss_cons (ps_asg (pe_op op_add (pe_ix ix_list (pv 0) pe_int (fun _ _ => rfl)) pe_int) (pg_sub (pv 0) pe_int set_list))
      (pss_cons (ps_if (PW.pt (pw_and (pt_cmpR op_eq (pe_ix ix_list (pv 0) pe_int (fun _ _ => rfl)) pe_int (nomark _)) (pw_and1 (pt_cmpR op_lt (pe_ix ix_list (pv 0) pe_int (fun _ _ => rfl)) (pe_callB call_len_seq (by rfl) T.len PySem.boot_len (pa_cons (pe_ix ix_list (pv 0) pe_int (fun _ _ => rfl)) pa_nil)) (nomark _)))))
        (pss_cons (ps_set (i := 2) sc_law_take.nd rfl (Or.inl rfl) (pe_ix ix_list (pe_ix ix_list (pv 0) pe_int (fun _ _ => rfl)) (pe_ix ix_list (pv 0) pe_int (fun _ _ => rfl)) (fun _ _ => rfl)))
        (pss_cons (ps_asg (pe_op op_add (pe_ix ix_list (pv 0) pe_int (fun _ _ => rfl)) pe_int) (pg_sub (pv 0) pe_int set_list))
        (pss_cons (ps_if (pt_cmpR op_lt (pe_callB call_abs (by rfl) T.abs (by decide +kernel) (pa_cons (pv 2) pa_nil)) (pe_op op_pow pe_int pe_int) (nomark _))
          (pss_one (ps_ret (pe_op op_mod (pe_callTy call_int1 (by rfl) T.int (by decide +kernel) (pa_cons (pe_own O_law_mix hr (by rfl) (pa_cons (pv 2) (pa_cons (pe_ix ix_list (pv 0) pe_int (fun _ _ => rfl)) pa_nil))) pa_nil)) (pv 1))))
          pss_nil)
        (pss_one (ps_asg (pe_callB call_abs (by rfl) T.abs (by decide +kernel) (pa_cons (pv 2) pa_nil)) (pg_sub (pv 0) pe_int set_list))))))
        pss_nil)
      (pss_cons (ps_if (pt_cmpR op_gt (pe_ix ix_list (pv 0) pe_int (fun _ _ => rfl)) pe_int (nomark _))
        (pss_cons (ps_set (i := 3) sc_law_take.nd rfl (Or.inl rfl) (pe_op op_mod (pe_callTy call_int1 (by rfl) T.int (by decide +kernel) (pa_cons (pe_ix ix_list (pv 0) pe_int (fun _ _ => rfl)) pa_nil)) (pv 1)))
        (pss_cons (ps_asg (pe_op op_fdivW (pe_ix ix_list (pv 0) pe_int (fun _ _ => rfl)) (pv 1)) (pg_sub (pv 0) pe_int set_list))
        (pss_one (ps_ret (pv 3)))))
        pss_nil)
      (pss_one (ps_ret (pe_op op_mod (pe_callTy call_int1 (by rfl) T.int (by decide +kernel) (pa_cons (pe_own O_law_mix hr (by rfl) (pa_cons (pe_ix ix_list (pv 0) pe_int (fun _ _ => rfl)) (pa_cons (pe_ix ix_list (pv 0) pe_int (fun _ _ => rfl)) pa_nil))) pa_nil)) (pv 1))))))))), ?_⟩
    obtain ⟨zS, c, ns, p, r, sd, t, eS, nc, ec, hp, hr0, zc⟩ := hS
    refine ⟨_, rfl, Or.inl ⟨m, rfl, _, _, rfl, ?_⟩⟩
    have hM : (if m > 1 then m else 1) = max 1 m := by split <;> omega
    rw [hM]
    generalize hMM : max 1 m = M at q
    have hM1 : 1 ≤ M := by omega
    refine ⟨_, rfl, rfl, _, rfl, ite2 (fun e => ?_) (fun e => ?_)⟩
    · exact q H 0 (Keep.refl s H) ⟨zS, c, ns, p, r, sd, t, eS, nc, ec, hp, hr0, zc⟩ (by decide) (by omega)
    have hM2 : 1 < M := by
      rcases Int.lt_or_eq_of_le hM1 with h | h
      · exact h
      · exact absurd (by rw [← h]; rfl) e
    have up : ∀ (x0 x1 x2 x3 x4 : V), upd H s (.lst [x0, x1, x2, x3, x4]) s = some (.lst [x0, x1, x2, x3, x4]) := fun _ _ _ _ _ => upd_same
    have upc : ∀ o, upd H s o c = some (.lst (ns.map V.int)) := fun o => by rw [upd_ne nc]; exact ec
    refine ⟨_, rfl, s, _, 4, _, rfl, rfl, SqL.of eS, rfl, _, _, rfl, rfl, _, rfl, s, _, 4, 4, rfl, rfl, eS, rfl, ?_⟩
    show tSeq _ _ _ _ (upd H s (.lst [.ref c, .int p, .int r, .int sd, .int (t + 1)]))
    generalize eH1 : upd H s (.lst [.ref c, .int p, .int r, .int sd, .int (t + 1)]) = H1
    have eS1 : H1 s = some (.lst [.ref c, .int p, .int r, .int sd, .int (t + 1)]) := by rw [← eH1]; exact upd_same
    have ec1 : H1 c = some (.lst (ns.map V.int)) := by rw [← eH1]; exact upc _
    have k1 : Keep s H H1 := by rw [← eH1]; exact (Keep.refl s H).put eS hp hr0
    have qm : ∀ (H' : Hp) (x : Int), Keep s H1 H' → SO S s H' → Q (.int (x % M)) H' := fun H' x kk so => q H' _ (k1.trans kk) so (Int.emod_nonneg _ (by omega)) (Int.emod_lt_of_pos _ (by omega))
    -- what stands behind the first if
    have rest : ∀ (H' : Hp) (p' r' : Int) (y2 y3 : Option V), Keep s H1 H' → H' s = some (.lst [.ref c, .int p', .int r', .int sd, .int (t + 1)]) → H' c = some (.lst (ns.map V.int)) → 0 ≤ p' → 0 ≤ r' →
        (tSeq (tIfS (tTest (tOp (rI0 fun i j => .bl (decide (j < i))) (tOp (rIxL K) (tVar 0) (tC (.int 2))) (tC (.int 0))))
          (tSeq (tAsg (tOp (rI (fun _ j => 0 < j) fun i j => .int (i % j)) (tCB (fun xs H Q => (∃ i, xs = [V.int i] ∧ Q (V.int i) H) ∨ ∃ k, xs = [V.bl k] ∧ Q (V.int (if k = true then 1 else 0)) H) (tCons (tOp (rIxL K) (tVar 0) (tC (.int 2))) tNil)) (tVar 1)) (gName 3))
            (tSeq (tAsg (tOp (rI CDivW fun i j => .int (i / j)) (tOp (rIxL K) (tVar 0) (tC (.int 2))) (tVar 1)) (gSub (tVar 0) (tC (.int 2)) rSetL)) (tRet (tVar 3)))) tNext)
          (tRet (tOp (rI (fun _ j => 0 < j) fun i j => .int (i % j)) (tCB (fun xs H Q => (∃ i, xs = [V.int i] ∧ Q (V.int i) H) ∨ ∃ k, xs = [V.bl k] ∧ Q (V.int (if k = true then 1 else 0)) H) (tCons (tCall sp_law_mix [] E0 (tCons (tOp (rIxL K) (tVar 0) (tC (.int 3))) (tCons (tOp (rIxL K) (tVar 0) (tC (.int 4))) tNil))) tNil)) (tVar 1))))
          { nx := fun _ H' => Q .non H', rt := Q } [some (.ref s), some (.int M), y2, y3] H' := by
      intro H' p' r' y2 y3 kk eS' ec' hp' hr'
      refine ⟨_, rfl, s, _, 2, _, rfl, rfl, SqL.of eS', rfl, _, _, rfl, rfl, _, rfl, ite2 (fun h0 => ?_) (fun h0 => ?_)⟩
      · have h1 : 0 < r' := of_decide_eq_true h0
        refine ⟨_, rfl, s, _, 2, _, rfl, rfl, SqL.of eS', rfl, Or.inl ⟨_, rfl, _, rfl, _, _, rfl, rfl, (show (0 : Int) < M by omega), ?_⟩⟩
        refine ⟨_, rfl, s, _, 2, _, rfl, rfl, SqL.of eS', rfl, _, rfl, _, _, rfl, rfl, wide_div (b := 200) (by omega) (by omega) (by decide) (by decide), _, rfl, s, _, 2, 2, rfl, rfl, eS', rfl, ?_⟩
        refine ⟨_, rfl, qm _ _ (kk.put eS' hp' (Int.ediv_nonneg hr' (by omega))) ⟨zS, c, ns, p', r' / M, sd, t + 1, upd_same, nc, by rw [upd_ne nc]; exact ec', hp', ?_, zc⟩⟩
        exact Int.ediv_nonneg hr' (by omega)
      · refine ⟨_, rfl, s, _, 3, _, rfl, rfl, SqL.of eS', rfl, _, rfl, s, _, 4, _, rfl, rfl, SqL.of eS', rfl, _, _, rfl, fun x => Or.inl ⟨x, rfl, _, rfl, _, _, rfl, rfl, (show (0 : Int) < M by omega), ?_⟩⟩
        exact qm _ _ kk ⟨zS, c, ns, p', r', sd, t + 1, eS', nc, ec', hp', hr', zc⟩
    refine ⟨_, rfl, s, _, 2, _, rfl, rfl, SqL.of eS1, rfl, rfl, _, rfl, ite2 (fun h2 => ?_) (fun h2 => ?_)⟩
    · refine ⟨_, rfl, s, _, 1, _, rfl, rfl, SqL.of eS1, rfl, _, rfl, s, _, 0, _, rfl, rfl, SqL.of eS1, rfl, c, _, rfl, .inl (SqL.of ec1), _, _, rfl, rfl, _, rfl, ite2 (fun h3 => ?_) (fun h3 => ?_)⟩
      · have h4 : p < ((ns.map V.int).length : Int) := of_decide_eq_true h3
        rw [List.length_map] at h4
        obtain ⟨j, rfl⟩ : ∃ j : Nat, p = (j : Int) := ⟨p.toNat, by omega⟩
        have hj : j < ns.length := by omega
        have hx : (ns.map V.int)[j]? = some (.int ns[j]) := by
          rw [List.getElem?_map, List.getElem?_eq_getElem hj]
          rfl
        refine ⟨_, rfl, s, _, 0, _, rfl, rfl, SqL.of eS1, rfl, _, rfl, s, _, 1, _, rfl, rfl, SqL.of eS1, rfl, c, _, _, _, rfl, rfl, SqL.of ec1, atI_nat hx, ?_⟩
        refine ⟨_, rfl, s, _, 1, _, rfl, rfl, SqL.of eS1, rfl, _, _, rfl, rfl, _, rfl, s, _, 1, 1, rfl, rfl, eS1, rfl, ?_⟩
        show tSeq _ _ _ _ (upd H1 s (.lst [.ref c, .int ((j : Int) + 1), .int r, .int sd, .int (t + 1)]))
        generalize eH2 : upd H1 s (.lst [.ref c, .int ((j : Int) + 1), .int r, .int sd, .int (t + 1)]) = H2
        have eS2 : H2 s = some (.lst [.ref c, .int ((j : Int) + 1), .int r, .int sd, .int (t + 1)]) := by rw [← eH2]; exact upd_same
        have ec2 : H2 c = some (.lst (ns.map V.int)) := by rw [← eH2, upd_ne nc]; exact ec1
        have k2 : Keep s H1 H2 := by rw [← eH2]; exact (Keep.refl s H1).put eS1 (by omega) hr0
        refine ⟨_, rfl, _, rfl, _, _, rfl, rfl, ⟨by decide, by decide, by decide⟩, _, _, rfl, rfl, _, rfl, ite2 (fun h5 => ?_) (fun h5 => ?_)⟩
        · refine ⟨_, rfl, _, rfl, s, _, 4, _, rfl, rfl, SqL.of eS2, rfl, _, _, rfl, fun x => Or.inl ⟨x, rfl, _, rfl, _, _, rfl, rfl, (show (0 : Int) < M by omega), ?_⟩⟩
          exact qm _ _ k2 ⟨zS, c, ns, (j : Int) + 1, r, sd, t + 1, eS2, nc, ec2, by omega, hr0, zc⟩
        · refine ⟨_, rfl, _, rfl, _, rfl, s, _, 2, 2, rfl, rfl, eS2, rfl, ?_⟩
          exact rest _ ((j : Int) + 1) _ _ _ (k2.put eS2 (by omega) (by split <;> omega)) upd_same (by rw [upd_ne nc]; exact ec2) (by omega) (by split <;> omega)
      · exact rest H1 p r none none (Keep.refl s H1) eS1 ec1 hp hr0
    · exact rest H1 p r none none (Keep.refl s H1) eS1 ec1 hp hr0


set_option maxHeartbeats 4000000 in
theorem ok_law_pick  (F : Fun K "_law_pick" "_law_pick" s_law_pick f fd) (T : Txt w K mg)
    (O_law_take : Own P w K mg base k "_law_take" ["store", "many"] (sp_law_take)) : FnOk P w K mg base CX0 (k + 1) f fd ["store", "things"] (sp_law_pick K) := by
  refine F.ok sc_law_pick (fun vs H Q E h => ?_) (fun cdv A outer s0 H vs Q E hr h => ?_)
  · obtain ⟨S, s, x, rfl, hS, q⟩ := h
    rfl
  · obtain ⟨S, s, x, rfl, hS, q⟩ := h
    refine ⟨_, (pss_one (ps_ret (pe_ix ix_seq (pv 1) (pe_own O_law_take hr (by rfl) (pa_cons (pv 0) (pa_cons (pe_callB (CallR.or call_len_seq call_len_str) (by rfl) T.len PySem.boot_len (pa_cons (pv 1) pa_nil)) pa_nil))) (fun _ _ => rfl)))), ?_⟩
    rcases q with ⟨a, xs, rfl, na, hA, hne, hle, q⟩ | ⟨z, rfl, h0, hle, q⟩
    · refine ⟨_, rfl, _, rfl, _, rfl, Or.inl ⟨a, xs, rfl, .inl hA, S, s, _, rfl, hS, by omega, fun H' r kk so r0 r1 => ?_⟩⟩
      have hl : 0 < xs.length := List.length_pos_iff.mpr hne
      obtain ⟨j, rfl⟩ : ∃ j : Nat, r = (j : Int) := ⟨r.toNat, by omega⟩
      have hj : j < xs.length := by omega
      exact Or.inl ⟨a, xs, _, _, rfl, rfl, kk.seq na hA, atI_nat (List.getElem?_eq_getElem hj), q H' _ kk so (List.getElem_mem hj)⟩
    · refine ⟨_, rfl, _, rfl, _, rfl, Or.inr ⟨z, rfl, line_le hle, S, s, _, rfl, hS, by omega, fun H' r kk so r0 r1 => ?_⟩⟩
      obtain ⟨j, rfl⟩ : ∃ j : Nat, r = (j : Int) := ⟨r.toNat, by omega⟩
      have hj : j < z.cps.toList.length := by
        have : z.length = z.cps.toList.length := rfl
        omega
      exact Or.inr (Or.inr ⟨z, _, _, rfl, rfl, line_le hle, atI_nat (List.getElem?_eq_getElem hj), q H' _ kk so (List.getElem_mem hj)⟩)


set_option maxHeartbeats 4000000 in
theorem ok_law_same {n : Nat} (F : Fun K "_law_same" "_law_same" s_law_same f fd) (T : Txt w K mg)
    (O_law_same : Own P w K mg base k "_law_same" ["given", "due"] (sp_law_same n)) : FnOk P w K mg base CX0 (k + 1) f fd ["given", "due"] (sp_law_same (n + 1)) := by
  refine F.ok sc_law_same (fun vs H Q E h => ?_) (fun cdv A outer s0 H vs Q E hr h => ?_)
  · obtain ⟨S, x, y, d, e, L, m, rfl, hS, hd, he, hD, hm, hL, q⟩ := h
    rfl
  · obtain ⟨S, x, y, d, e, L, m, rfl, hS, hd, he, hD, hm, hL, q⟩ := h
    refine ⟨_, (pss_cons (ps_if (pt_val (pe_callB call_isLT (by rfl) T.isinstance (by decide +kernel) (pa_cons (pv 1) (pa_cons (pe_tup (pa_cons (pe_bltn (v := .ty "list") (by rfl) T.list (by decide +kernel) rfl) (pa_cons (pe_bltn (v := .ty "tuple") (by rfl) T.tuple (by decide +kernel) rfl) pa_nil))) pa_nil))))
        (C8.pss_cut (ps_if (PW.pt (pw_and (pt_val (pe_callB call_isD (by rfl) T.isinstance (by decide +kernel) (pa_cons (pv 1) (pa_cons (pe_bltn (v := .ty "list") (by rfl) T.list (by decide +kernel) rfl) pa_nil)))) (pw_and1 (pt_not (pt_val (pe_callB call_isD (by rfl) T.isinstance (by decide +kernel) (pa_cons (pv 0) (pa_cons (pe_bltn (v := .ty "list") (by rfl) T.list (by decide +kernel) rfl) pa_nil))))))))
          (pss_one (ps_ret pe_bl))
          pss_nil)
        (C8.pss_cut (ps_if (PW.pt (pw_and (pt_val (pe_callB call_isD (by rfl) T.isinstance (by decide +kernel) (pa_cons (pv 1) (pa_cons (pe_bltn (v := .ty "tuple") (by rfl) T.tuple (by decide +kernel) rfl) pa_nil)))) (pw_and1 (pt_not (pt_val (pe_callB call_isD (by rfl) T.isinstance (by decide +kernel) (pa_cons (pv 0) (pa_cons (pe_bltn (v := .ty "tuple") (by rfl) T.tuple (by decide +kernel) rfl) pa_nil))))))))
          (pss_one (ps_ret pe_bl))
          pss_nil)
        (pss_cons (ps_if (pt_cmpR op_ne (pe_callB call_len_seq (by rfl) T.len PySem.boot_len (pa_cons (pv 0) pa_nil)) (pe_callB call_len_seq (by rfl) T.len PySem.boot_len (pa_cons (pv 1) pa_nil)) (nomark _))
          (pss_one (ps_ret pe_bl))
          pss_nil)
        (pss_cons (ps_for PassesOwn.never rfl (pi_range1 (by rfl) T.range (pa_cons (pe_callB call_len_seq (by rfl) T.len PySem.boot_len (pa_cons (pv 1) pa_nil)) pa_nil)) (pg_name (i := 2) sc_law_same.nd rfl (Or.inl rfl))
          (pss_one (ps_if (pt_not (pt_val (pe_own O_law_same hr (by rfl) (pa_cons (pe_ix ix_seq (pv 0) (pv 2) (fun _ _ => rfl)) (pa_cons (pe_ix ix_seq (pv 1) (pv 2) (fun _ _ => rfl)) pa_nil)))))
            (pss_one (ps_ret pe_bl))
            pss_nil)))
        (pss_one (ps_ret pe_bl))))))
        pss_nil)
      (pss_cons (ps_if (pt_cmpR op_isN (pv 1) pe_non (nomark _))
        (pss_one (ps_ret (pe_cmpR op_isN (pv 0) pe_non (nomark _))))
        pss_nil)
      (pss_cons (ps_if (pt_cmpR op_isB (pv 1) pe_bl (nomark _))
        (pss_one (ps_ret (pe_cmpR op_isB (pv 0) pe_bl (nomark _))))
        pss_nil)
      (pss_cons (ps_if (pt_cmpR op_isB (pv 1) pe_bl (nomark _))
        (pss_one (ps_ret (pe_cmpR op_isB (pv 0) pe_bl (nomark _))))
        pss_nil)
      (pss_cons (ps_if (pt_val (pe_callB call_isD (by rfl) T.isinstance (by decide +kernel) (pa_cons (pv 1) (pa_cons (pe_bltn (v := .ty "int") (by rfl) T.int (by decide +kernel) rfl) pa_nil))))
        (pss_one (ps_ret (pe_and (pe_callB call_isD (by rfl) T.isinstance (by decide +kernel) (pa_cons (pv 0) (pa_cons (pe_bltn (v := .ty "int") (by rfl) T.int (by decide +kernel) rfl) pa_nil))) (pe_and (pe_not (pe_callB call_isD (by rfl) T.isinstance (by decide +kernel) (pa_cons (pv 0) (pa_cons (pe_bltn (v := .ty "bool") (by rfl) T.bool (by decide +kernel) rfl) pa_nil)))) (pe_one (pe_cmpR op_eq (pv 0) (pv 1) (nomark _)))))))
        pss_nil)
      (pss_one (ps_ret (pe_and (pe_callB call_isD (by rfl) T.isinstance (by decide +kernel) (pa_cons (pv 0) (pa_cons (pe_bltn (v := .ty "str") (by rfl) T.str (by decide +kernel) rfl) pa_nil))) (pe_one (pe_cmpR op_eq (pv 0) (pv 1) (nomark _))))))))))), ?_⟩
    refine ⟨_, rfl, ?_⟩
    walk_at "go"
    intro tp ntp
    have sm1 : Same H (upd H tp (.tup [.ty "list", .ty "tuple"])) := same_new (Same.refl H) ntp
    refine ⟨y, tp, S, e, rfl, upd_same, he.same sm1, ?_⟩
    generalize upd H tp (.tup [.ty "list", .ty "tuple"]) = H1 at sm1
    have qB : ∀ (H' : Hp) (b : Bool), Same H1 H' → (b = true ↔ d = e) → Q (.bl b) H' := fun H' b k h => q H' b (sm1.trans k) h
    have qF : ∀ H', Same H1 H' → d ≠ e → Q (.bl false) H' := fun H' k ne => qB H' false k ⟨fun z => (nomatch z), fun z => absurd z ne⟩
    have hS1 := hS.same sm1
    have hd1 := hd.same sm1
    have he1 := he.same sm1
    clear hd he hS sm1 ntp
    refine ⟨_, rfl, ite2 (fun h => ?_) (fun h => ?_)⟩
    · refine ⟨fun σ' H' => σ' = [some x, some y, none] ∧ H' = H1 ∧ (isD "list" e = true → isD "list" d = true), ?_, ?_⟩
      · refine ⟨_, rfl, y, "list", S, e, rfl, rfl, he1, _, rfl, ite2 (fun h1 => ?_) (fun h1 => ?_)⟩
        · refine ⟨_, rfl, x, "list", S, d, rfl, rfl, hd1, _, rfl, ?_⟩
          cases h2 : isD "list" d with
          | true => exact ⟨rfl, rfl, fun _ => rfl⟩
          | false => exact qF _ (Same.refl _) (by rintro rfl; rw [h1] at h2; cases h2)
        · exact ⟨rfl, rfl, fun z => absurd z h1⟩
      rintro σ' H' ⟨rfl, rfl, hl⟩
      refine ⟨fun σ' H'' => σ' = [some x, some y, none] ∧ H'' = H' ∧ (isD "tuple" e = true → isD "tuple" d = true), ?_, ?_⟩
      · refine ⟨_, rfl, y, "tuple", S, e, rfl, rfl, he1, _, rfl, ite2 (fun h1 => ?_) (fun h1 => ?_)⟩
        · refine ⟨_, rfl, x, "tuple", S, d, rfl, rfl, hd1, _, rfl, ?_⟩
          cases h2 : isD "tuple" d with
          | true => exact ⟨rfl, rfl, fun _ => rfl⟩
          | false => exact qF _ (Same.refl _) (by rintro rfl; rw [h1] at h2; cases h2)
        · exact ⟨rfl, rfl, fun z => absurd z h1⟩
      rintro σ' H1 ⟨rfl, rfl, ht⟩
      obtain ⟨a, c, xs, ys, ds, es, m', rfl, rfl, ha, hc, hxs, hys, hel, rfl, hu, heq⟩ := rows_of (K := K) h hl ht hd1 he1 hD
      refine ⟨_, rfl, a, xs, rfl, ha _ (Same.refl _), _, rfl, c, ys, rfl, hc _ (Same.refl _), rfl, _, rfl, ?_⟩
      have lx := hxs.length
      have ly := hys.length
      by_cases hne : V.int (xs.length : Int) = V.int (ys.length : Int)
      case neg =>
        rw [decide_eq_false hne]
        exact qF _ (Same.refl _) fun z => hne (by rw [lx, ly, heq.mp z])
      rw [decide_eq_true hne]
      have hl : ds.length = es.length := by
        have := V.int.inj hne
        omega
      refine ⟨_, rfl, c, ys, rfl, hc _ (Same.refl _), _, rfl, by omega, by omega, for_range (n := (ys.length : Int).toNat) (fun i σ H' => Same H1 H' ∧ (∃ z, σ = [some (.ref a), some (.ref c), z]) ∧ ∀ j, j < i → ds[j]? = es[j]?) ⟨Same.refl _, ⟨_, rfl⟩, fun j hj => absurd hj (Nat.not_lt_zero _)⟩ ?_ ?_⟩
      · rintro i σ H2 hi ⟨sm2, ⟨z, rfl⟩, hall⟩
        have hi2 : i < ys.length := by omega
        have hi1 : i < xs.length := by omega
        obtain ⟨di, edi, hdi⟩ := hxs.get (List.getElem?_eq_getElem hi1)
        obtain ⟨ei, eei, hei⟩ := hys.get (List.getElem?_eq_getElem hi2)
        refine ⟨_, rfl, _, rfl, ix_row (ha _ sm2) (List.getElem?_eq_getElem hi1) ?_⟩
        refine ⟨_, rfl, _, rfl, ix_row (hc _ sm2) (List.getElem?_eq_getElem hi2) ?_⟩
        refine ⟨S, _, _, di, ei, L, m', rfl, hS1.same sm2, hdi.same sm2, hei.same sm2, hu ei (List.mem_of_getElem? eei), by omega, hL, fun H3 b sm3 hb => ⟨_, rfl, ?_⟩⟩
        cases b with
        | false =>
          refine qF _ (sm2.trans sm3) fun zz => ?_
          have e1 := heq.mp zz
          rw [e1, eei] at edi
          exact nomatch hb.mpr (Option.some.inj edi).symm
        | true =>
          refine ⟨sm2.trans sm3, ⟨_, rfl⟩, fun j hj => ?_⟩
          by_cases ej : j = i
          · rw [ej, edi, eei, hb.mp rfl]
          · exact hall j (by omega)
      · rintro σ H2 ⟨sm2, ⟨z, rfl⟩, hall⟩
        exact qB _ true sm2 ⟨fun _ => heq.mpr (ext_upto hl fun j hj => hall j (by omega)), fun _ => rfl⟩
    refine ⟨_, rfl, rfl, _, rfl, ?_⟩
    cases he1 with
    | @lst c ys es nc ec re => exact absurd rfl h
    | @tup c ys es nc ec re => exact absurd rfl h
    | non =>
      refine ⟨_, rfl, rfl, qB _ _ (Same.refl _) ?_⟩
      cases hd1 <;> simp
    | bl b =>
      refine ⟨_, rfl, _, rfl, _, rfl, ?_⟩
      cases b with
      | true =>
        refine ⟨_, rfl, _, rfl, qB _ _ (Same.refl _) ?_⟩
        cases hd1 <;> simp
      | false =>
        refine ⟨_, rfl, _, rfl, _, rfl, ?_⟩
        refine ⟨_, rfl, _, rfl, qB _ _ (Same.refl _) ?_⟩
        cases hd1 <;> simp
    | int i =>
      refine ⟨_, rfl, _, rfl, _, rfl, ?_⟩
      refine ⟨_, rfl, _, rfl, _, rfl, ?_⟩
      refine ⟨_, rfl, _, "int", S, _, rfl, rfl, .int i, _, rfl, ?_⟩
      refine ⟨_, rfl, _, "int", S, d, rfl, rfl, hd1, _, rfl, ?_⟩
      cases hd1 with
      | int j =>
        refine ⟨_, rfl, _, "bool", S, _, rfl, rfl, .int j, _, rfl, _, rfl, ?_⟩
        refine ⟨_, rfl, _, rfl, rfl, qB _ _ (Same.refl _) ?_⟩
        simp
      | bl b =>
        refine ⟨_, rfl, _, "bool", S, _, rfl, rfl, .bl b, _, rfl, _, rfl, ?_⟩
        exact qF _ (Same.refl _) (fun z => nomatch z)
      | _ => exact qF _ (Same.refl _) (fun z => nomatch z)
    | str z =>
      refine ⟨_, rfl, _, rfl, _, rfl, ?_⟩
      refine ⟨_, rfl, _, rfl, _, rfl, ?_⟩
      refine ⟨_, rfl, _, "int", S, _, rfl, rfl, .str z, _, rfl, ?_⟩
      refine ⟨_, rfl, _, "str", S, d, rfl, rfl, hd1, _, rfl, ?_⟩
      cases hd1 with
      | str z2 =>
        refine ⟨_, rfl, _, rfl, rfl, qB _ _ (Same.refl _) ?_⟩
        simp
      | _ => exact qF _ (Same.refl _) (fun z => nomatch z)


set_option maxHeartbeats 4000000 in
theorem ok_law_rising  (F : Fun K "_law_rising" "_law_rising" s_law_rising f fd) (T : Txt w K mg) : FnOk P w K mg base CX0 (k + 1) f fd ["things"] (sp_law_rising K) := by
  refine F.ok sc_law_rising (fun vs H Q E h => ?_) (fun cdv A outer s0 H vs Q E hr h => ?_)
  · obtain ⟨a, ns, rfl, ea, hl, q⟩ := h
    rfl
  · obtain ⟨a, ns, rfl, ea, hl, q⟩ := h
    refine ⟨_, (pss_cons (ps_for PassesOwn.never rfl (pi_range1 (by rfl) T.range (pa_cons (pe_op op_sub (pe_callB call_len_seq (by rfl) T.len PySem.boot_len (pa_cons (pv 0) pa_nil)) pe_int) pa_nil)) (pg_name (i := 1) sc_law_rising.nd rfl (Or.inl rfl))
        (pss_one (ps_if (pt_not (pt_cmpR op_lt (pe_ix ix_list (pv 0) (pv 1) (fun _ _ => rfl)) (pe_ix ix_list (pv 0) (pe_op op_add (pv 1) pe_int) (fun _ _ => rfl)) (nomark _)))
          (pss_one (ps_ret pe_bl))
          pss_nil)))
      (pss_one (ps_ret pe_bl))), ?_⟩
    have sz : 1000 < sizeLine := by decide
    have lm : (ns.map V.int).length = ns.length := List.length_map ..
    refine ⟨_, rfl, a, _, rfl, .inl (.of ea), _, _, rfl, rfl, _, rfl, by rw [lm]; omega, by rw [lm]; omega, for_range (n := ((((ns.map V.int).length : Nat) : Int) - 1).toNat) (fun i σ H' => (∃ u, σ = [some (.ref a), u]) ∧ H' = H ∧ ∀ j, j < i → ∀ x y, ns[j]? = some x → ns[j + 1]? = some y → x < y) ⟨⟨_, rfl⟩, rfl, fun j hj => by omega⟩ ?_ ?_⟩
    · rintro i σ H4 hi ⟨⟨u, rfl⟩, rfl, hj⟩
      have hi : i + 1 < ns.length := by rw [lm] at hi; omega
      obtain ⟨x, hx⟩ : ∃ x, ns[i]? = some x := ⟨_, List.getElem?_eq_getElem (by omega)⟩
      obtain ⟨y, hy⟩ : ∃ y, ns[i + 1]? = some y := ⟨_, List.getElem?_eq_getElem hi⟩
      refine ⟨_, rfl, _, rfl, a, _, 0 + (i : Int), .int x, rfl, rfl, .of ea, by rw [Int.zero_add]; exact atI_nat (j := i) (by rw [List.getElem?_map, hx]; rfl), _, rfl, _, rfl, _, _, rfl, rfl, a, _, 0 + (i : Int) + 1, .int y, rfl, rfl, .of ea, by rw [Int.zero_add]; exact atI_nat (j := i + 1) (by rw [List.getElem?_map, hy]; rfl), _, _, rfl, rfl, _, rfl, ?_⟩
      by_cases c : x < y
      · rw [decide_eq_true c]
        refine ite2 (fun e => absurd e (by decide)) fun _ => ?_
        refine ⟨⟨_, rfl⟩, rfl, fun j hj' x' y' h1 h2 => ?_⟩
        rcases Nat.lt_or_eq_of_le (Nat.le_of_lt_succ hj') with h | rfl
        · exact hj j h x' y' h1 h2
        · rw [hx] at h1
          rw [hy] at h2
          cases h1
          cases h2
          exact c
      · rw [decide_eq_false c]
        refine ite2 (fun _ => ?_) fun e => absurd rfl e
        exact q false ⟨fun h => absurd h (by decide), fun h => absurd (h i x y hx hy) c⟩
    rintro σ H4 ⟨⟨u, rfl⟩, rfl, hj⟩
    refine q true ⟨fun _ i x y h1 h2 => hj i ?_ x y h1 h2, fun _ => rfl⟩
    have := (List.getElem?_eq_some_iff.mp h2).1
    rw [lm]
    omega


set_option maxHeartbeats 4000000 in
theorem ok_law_all  (F : Fun K "_law_all" "_law_all" s_law_all f fd) (T : Txt w K mg) : FnOk P w K mg base CX0 (k + 1) f fd ["net"] (sp_law_all) := by
  refine F.ok sc_law_all (fun vs H Q E h => ?_) (fun cdv A outer s0 H vs Q E hr h => ?_)
  · obtain ⟨S, x, As, Ls, Pl, rfl, hx, hl, hP, h64, q⟩ := h
    rfl
  · obtain ⟨S, x, As, Ls, Pl, rfl, hx, hl, hP, h64, q⟩ := h
    refine ⟨_, (pss_cons (ps_set (i := 1) sc_law_all.nd rfl (Or.inl rfl) (pe_op op_cat (pe_op op_cat (pe_lc (own := [("arrow", 3)]) (by rfl) sc_law_all.nd (pi_list (pe_ix ix_list (pv 0) pe_int (fun _ _ => rfl))) (blkOk_by (own := [("arrow", 3)]) (N := ["net", "out", "leaf", "arrow"]) (sc := defScope s_law_all) (by decide +kernel)) (fun _ _ _ _ _ => pg_name (i := 3) sc_law_all.nd rfl (Or.inl rfl)) (fun _ _ _ _ _ => pts_nil) (fun _ _ _ _ _ => (pe_ix (ix_tupK K rfl) (pv 3) pe_int (fun _ _ => rfl)))) (pe_lc (own := [("arrow", 3)]) (by rfl) sc_law_all.nd (pi_list (pe_ix ix_list (pv 0) pe_int (fun _ _ => rfl))) (blkOk_by (own := [("arrow", 3)]) (N := ["net", "out", "leaf", "arrow"]) (sc := defScope s_law_all) (by decide +kernel)) (fun _ _ _ _ _ => pg_name (i := 3) sc_law_all.nd rfl (Or.inl rfl)) (fun _ _ _ _ _ => pts_nil) (fun _ _ _ _ _ => (pe_ix (ix_tupK K rfl) (pv 3) pe_int (fun _ _ => rfl))))) (pe_lc (own := [("leaf", 2)]) (by rfl) sc_law_all.nd (pi_list (pe_ix ix_list (pv 0) pe_int (fun _ _ => rfl))) (blkOk_by (own := [("leaf", 2)]) (N := ["net", "out", "leaf", "arrow"]) (sc := defScope s_law_all) (by decide +kernel)) (fun _ _ _ _ _ => pg_name (i := 2) sc_law_all.nd rfl (Or.inl rfl)) (fun _ _ _ _ _ => pts_nil) (fun _ _ _ _ _ => (pe_ix (ix_tupK K rfl) (pv 2) pe_int (fun _ _ => rfl))))))
      (pss_one (ps_ret (pe_callB (cr_sortedSet rfl) (by rfl) T.sorted (by decide +kernel) (pa_cons (pe_callTy (cr_setL rfl) (by rfl) T.set (by decide +kernel) (pa_cons (pv 1) pa_nil)) pa_nil))))), ?_⟩
    obtain ⟨N, A, L, xs, ys, rfl, _, eN, _, eA, hA, _, eL, hL⟩ := da_net hx
    have lx : xs.length = As.length := by rw [hA.length, List.length_map]
    have ly : ys.length = Ls.length := by rw [hL.length, List.length_map]
    have sz : 1000 < sizeLine := by decide
    refine seq_asg (op_h (op_h ?_))
    refine lc_listG (K := K) (fun R h => ⟨_, rfl, N, _, ((0 : Nat) : Int), .ref A, rfl, rfl, .of eN, atI_nat (j := 0) rfl, h⟩) eA (As.map fun p => V.int p.1) (by rw [List.length_map, lx]) (by omega) ?_ ?_
    · rintro i x H2 N' B z hz sm hx hB
      obtain ⟨p, t, ed, rfl, nt, et⟩ := hA.pdS sm hx
      rw [List.getElem?_map, ed] at hz
      cases hz
      exact ⟨rfl, _, rfl, t, _, 0, _, rfl, rfl, .of et, rfl, hB _ (Same.refl _)⟩
    intro D1 H1 nD1 s1 e1
    refine lc_listG (K := K) (fun R h => ⟨_, rfl, N, _, ((0 : Nat) : Int), .ref A, rfl, rfl, .of (s1 _ _ eN), atI_nat (j := 0) rfl, h⟩) (s1 _ _ eA) (As.map fun p => V.int p.2) (by rw [List.length_map, lx]) (by omega) ?_ ?_
    · rintro i x H2 N' B z hz sm hx hB
      obtain ⟨p, t, ed, rfl, nt, et⟩ := hA.pdS (fun b o e => sm _ _ (s1 _ _ e)) hx
      rw [List.getElem?_map, ed] at hz
      cases hz
      exact ⟨rfl, _, rfl, t, _, 1, _, rfl, rfl, .of et, rfl, hB _ (Same.refl _)⟩
    intro D2 H2 nD2 s2 e2
    refine ⟨D1, D2, _, _, rfl, rfl, s2 _ _ e1, e2, by rw [List.length_map, List.length_map]; omega, fun p3 n3 => ?_⟩
    have s3 : Same H (upd H2 p3 (.lst ((As.map fun p => V.int p.1) ++ As.map fun p => V.int p.2))) := same_snoc (fun b o e => s2 _ _ (s1 _ _ e)) n3
    generalize eH3 : upd H2 p3 (.lst ((As.map fun p => V.int p.1) ++ As.map fun p => V.int p.2)) = H3 at s3
    have e3 : H3 p3 = some (.lst ((As.map fun p => V.int p.1) ++ As.map fun p => V.int p.2)) := by rw [← eH3]; exact upd_same
    refine lc_listG (K := K) (fun R h => ⟨_, rfl, N, _, ((1 : Nat) : Int), .ref L, rfl, rfl, .of (s3 _ _ eN), atI_nat (j := 1) rfl, h⟩) (s3 _ _ eL) (Ls.map fun p => V.int p.1) (by rw [List.length_map, ly]) (by omega) ?_ ?_
    · rintro i x H2 N' B z hz sm hx hB
      obtain ⟨p, t, ed, rfl, nt, et⟩ := hL.ldS (fun b o e => sm _ _ (s3 _ _ e)) hx
      rw [List.getElem?_map, ed] at hz
      cases hz
      exact ⟨rfl, _, rfl, t, _, 0, _, rfl, rfl, .of et, rfl, hB _ (Same.refl _)⟩
    intro D4 H4 nD4 s4 e4
    refine ⟨p3, D4, _, _, rfl, rfl, s4 _ _ e3, e4, by simp only [List.length_append, List.length_map]; omega, fun p5 n5 => ?_⟩
    have s5 : Same H H4 := fun b o e => s4 _ _ (s3 _ _ e)
    have s6 := same_snoc (o := .lst (((As.map fun p => V.int p.1) ++ As.map fun p => V.int p.2) ++ Ls.map fun p => V.int p.1)) s5 n5
    refine ⟨_, rfl, p5, ((As.map (·.1)) ++ As.map (·.2)) ++ Ls.map (·.1), rfl, .of (by rw [upd_same, List.map_append, List.map_append, List.map_map, List.map_map, List.map_map]; rfl), by simp only [List.length_append, List.length_map]; omega, fun p6 Lz n6 nd hLz => ?_⟩
    have hme : ∀ k, k ∈ ((As.map (·.1)) ++ As.map (·.2)) ++ Ls.map (·.1) ↔ k ∈ Pl := fun k => by
      rw [hP.2, List.mem_append, List.mem_append, List.mem_append, List.mem_flatMap]
      refine or_congr ?_ Iff.rfl
      constructor
      · rintro (h | h) <;> obtain ⟨a, ha, rfl⟩ := List.mem_map.mp h <;> exact ⟨a, ha, by simp⟩
      · rintro ⟨a, ha, h⟩
        simp only [List.mem_cons, List.not_mem_nil, or_false] at h
        rcases h with rfl | rfl
        · exact .inl (List.mem_map_of_mem ha)
        · exact .inr (List.mem_map_of_mem ha)
    refine ⟨p6, _, _, rfl, upd_same, ?_, fun ns p7 hp hm _ n7 => ?_⟩
    · refine Nat.lt_of_le_of_lt ?_ h64
      exact nodup_le nd fun k hk => (hme k).mp ((hLz k).mp hk)
    have e : ns = Pl := asc_uniq hp hP.1 fun k => by rw [hm, decide_eq_true_eq, hme]
    subst e
    exact q _ p7 (same_snoc (same_snoc s6 n6) n7) ((same_snoc s6 n6).free n7) upd_same


set_option maxHeartbeats 4000000 in
theorem ok_law_ups  (F : Fun K "_law_ups" "_law_ups" s_law_ups f fd) (T : Txt w K mg)
    (O_law_all : Own P w K mg base k "_law_all" ["net"] (sp_law_all)) : FnOk P w K mg base CX0 (k + 1) f fd ["net"] (sp_law_ups) := by
  refine F.ok sc_law_ups (fun vs H Q E h => ?_) (fun cdv A outer s0 H vs Q E hr h => ?_)
  · obtain ⟨S, x, As, Bs, Ls, Pl, rfl, hx, hl, hP, h64, hB, q⟩ := h
    rfl
  · obtain ⟨S, x, As, Bs, Ls, Pl, rfl, hx, hl, hP, h64, hB, q⟩ := h
    refine ⟨_, (pss_cons (ps_set (i := 1) sc_law_ups.nd rfl (Or.inl rfl) pe_dnewK)
      (pss_cons (ps_for PassesOwn.never rfl (pi_list (pe_own O_law_all hr (by rfl) (pa_cons (pv 0) pa_nil))) (pg_name (i := 2) sc_law_ups.nd rfl (Or.inl rfl))
        (pss_one (ps_dput (u1 hr) (pv 1) (pv 2) (pe_lst pa_nil) rfl)))
      (pss_cons (ps_for PassesOwn.never rfl (pi_list (pe_callB cr_sortedPO (by rfl) T.sorted (by decide +kernel) (pa_cons (pe_ix ix_list (pv 0) pe_int (fun _ _ => rfl)) pa_nil))) (pg_name (i := 3) sc_law_ups.nd rfl (Or.inl rfl))
        (pss_one (ps_expr (pe_bm PySem.F.plainAttrs_list PySem.F.slot_list_append PySem.F.type_list_append mt_append (pe_dget (u1 hr) (pv 1) (pe_ix ix_tup (pv 3) pe_int (fun _ _ => rfl)) (fun _ _ => rfl)) (pa_cons (pe_ix ix_tup (pv 3) pe_int (fun _ _ => rfl)) pa_nil)))))
      (pss_one (ps_ret (pv 1)))))), ?_⟩
    obtain ⟨N, A, L, xs, ys, rfl, _, eN, _, eA, hA, _, eL, hL⟩ := da_net hx
    have sz : 1000 < sizeLine := by decide
    refine fun D nD => ?_
    have s1 := same_snoc (o := .dK []) (Same.refl H) nD
    refine ⟨_, rfl, S, .ref N, As, Ls, Pl, rfl, hx.same s1, hl, hP, h64, fun H2 R s2 nR e2 => ?_⟩
    have eD2 := s2 _ _ (show upd H D (.dK []) D = _ from upd_same)
    have s12 : Same H H2 := fun b o e => s2 _ _ (s1 _ _ e)
    have nRD : R ≠ D := fun e => by rw [e, upd_same] at nR; cases nR
    have nR0 : H R = none := by rw [upd_ne nRD] at nR; exact nR
    refine ⟨R, rfl, ⟨_, .of e2⟩, ?_⟩
    refine for_it (walk_list (K := K) (a := R) (xs := Pl.map V.int)) (fun i σ H' => ∃ (am : Int → Addr) (pv : Option V), σ = [some (.ref N), some (.ref D), pv, none] ∧ Same H H' ∧ H' R = some (.lst (Pl.map V.int)) ∧ DiN H H' D (Pl.take i) am fun _ => [])
      ⟨fun _ => 0, _, rfl, s12, e2, ⟨nD, by simp, by simp, eD2, by simp⟩⟩ (fun i σ H' _ ⟨_, _, _, _, e, _⟩ => .of e) ?_ ?_
    · rintro i x σ H4 H5 hi ⟨am, pv, rfl, sm, eR, hM⟩ ⟨rfl, hx⟩
      rw [List.getElem?_map] at hx
      obtain ⟨p, hp, rfl⟩ := Option.map_eq_some_iff.mp hx
      refine ⟨(by show 0 ≤ sizeLine; decide), fun a na => ?_⟩
      have hpn : p ∉ Pl.take i := notin_take hP.nodup hp
      have naD : D ≠ a := fun e => by rw [← e, hM.at_] at na; cases na
      refine ⟨_, rfl, _, rfl, D, _, rfl, .inl ⟨_, .inl p, by rw [upd_ne naD]; exact hM.at_, rfl, ?_, rfl⟩, ?_⟩
      · rw [List.length_map, List.length_take]
        omega
      refine ⟨fun z => if z = p then a else am z, _, rfl, fun b o e => ?_, ?_, ?_⟩
      · rw [upd_ne (fun z => by rw [z, nD] at e; cases e), upd_ne (fun z => by rw [z, sm.free na] at e; cases e)]
        exact sm _ _ e
      · rw [upd_ne nRD, upd_ne (fun z => by rw [← z, eR] at na; cases na)]
        exact eR
      · rw [← take_snoc hp]
        exact hM.grow hpn na sm
    rintro σ H3 ⟨am, pv, rfl, sm, eR, hM⟩
    rw [List.length_map, List.take_length] at hM
    refine ⟨_, rfl, N, _, ((0 : Nat) : Int), .ref A, rfl, rfl, .of (sm _ _ eN), atI_nat (j := 0) rfl, ?_⟩
    refine ⟨A, xs, pairAt H, rfl, .of (sm _ _ eA), fun x hx => ?_, fun ys Y hs1 hs2 nY => ?_⟩
    · obtain ⟨i, hi⟩ := List.mem_iff_getElem?.mp hx
      obtain ⟨p, t, _, rfl, _, et⟩ := hA.pd hi
      rw [pairAt_eq et]
      exact ⟨t, rfl, sm _ _ et⟩
    obtain ⟨hyl, hys⟩ := sorted_pd hA hB hs1 hs2
    refine ⟨Y, rfl, ⟨_, .of upd_same⟩, ?_⟩
    have m4 := hM.new (o := .lst ys) nY
    have nYM : ∀ p ∈ Pl, am p ≠ Y := fun p hp e => by rw [← e, hM.val p hp] at nY; cases nY
    have nYD : Y ≠ D := fun e => by rw [e, hM.at_] at nY; cases nY
    have hmem : ∀ b ∈ Bs, b.1 ∈ Pl ∧ b.2 ∈ Pl := fun b hb => by
      have hb := hB.1.mem_iff.mp hb
      have h1 : ∀ k, k ∈ [b.1, b.2] → k ∈ Pl := fun k hk => (hP.2 k).mpr (List.mem_append_left _ (List.mem_flatMap.mpr ⟨b, hb, hk⟩))
      exact ⟨h1 _ (by simp), h1 _ (by simp)⟩
    have bl : Bs.length ≤ 1000 := by rw [hB.1.length_eq]; omega
    have m0 : DiN H (upd H3 Y (.lst ys)) D Pl am (upsOf (Bs.take 0)) := m4
    refine for_it (walk_list (K := K) (a := Y) (xs := ys)) (fun i σ H' => ∃ pv u, σ = [some (.ref N), some (.ref D), pv, u] ∧ Same H H' ∧ H' Y = some (.lst ys) ∧ DiN H H' D Pl am (upsOf (Bs.take i)))
      ⟨_, _, rfl, same_snoc sm nY, upd_same, m0⟩ (fun i σ H' _ ⟨_, _, _, _, e, _⟩ => .of e) ?_ ?_
    · rintro i x σ H4 H5 hi ⟨pv, u, rfl, sm, eY, hM⟩ ⟨rfl, hx⟩
      obtain ⟨b, t, eb, rfl, nt, et⟩ := hys i x hx
      obtain ⟨b1, b2⟩ := hmem b (List.mem_of_getElem? eb)
      have tl : (Bs.take i).length ≤ 1000 := Nat.le_trans (by rw [List.length_take]; exact Nat.min_le_right _ _) bl
      refine ⟨_, rfl, _, rfl, t, _, 1, _, rfl, rfl, .of (sm _ _ et), rfl, D, .ref (am b.2), rfl, hM.get b2, .inl ⟨rfl, _, .of (hM.val _ b2)⟩, _, rfl, t, _, 0, _, rfl, rfl, .of (sm _ _ et), rfl, am b.2, _, .int b.1, rfl, rfl, hM.val _ b2, ?_, ?_⟩
      · rw [List.length_map]
        exact Nat.lt_of_le_of_lt (upsOf_len _ _) (by omega)
      refine ⟨_, _, rfl, fun c o e => ?_, ?_, ?_⟩
      · rw [upd_ne (fun z => by rw [z, hM.na _ b2] at e; cases e)]
        exact sm _ _ e
      · rw [upd_ne (nYM _ b2).symm]
        exact eY
      · rw [← take_snoc eb, upsOf_snoc]
        exact hM.app (x := b.1) b2
    rintro σ H4 ⟨pv, u, rfl, sm, eY, hM⟩
    rw [hyl, List.take_length] at hM
    exact ⟨_, rfl, q _ D am sm hM⟩


set_option maxHeartbeats 4000000 in
theorem ok_law_downs  (F : Fun K "_law_downs" "_law_downs" s_law_downs f fd) (T : Txt w K mg)
    (O_law_all : Own P w K mg base k "_law_all" ["net"] (sp_law_all)) : FnOk P w K mg base CX0 (k + 1) f fd ["net"] (sp_law_downs) := by
  refine F.ok sc_law_downs (fun vs H Q E h => ?_) (fun cdv A outer s0 H vs Q E hr h => ?_)
  · obtain ⟨S, x, As, Bs, Ls, Pl, rfl, hx, hl, hP, h64, hB, q⟩ := h
    rfl
  · obtain ⟨S, x, As, Bs, Ls, Pl, rfl, hx, hl, hP, h64, hB, q⟩ := h
    refine ⟨_, (pss_cons (ps_set (i := 1) sc_law_downs.nd rfl (Or.inl rfl) pe_dnewK)
      (pss_cons (ps_for PassesOwn.never rfl (pi_list (pe_own O_law_all hr (by rfl) (pa_cons (pv 0) pa_nil))) (pg_name (i := 2) sc_law_downs.nd rfl (Or.inl rfl))
        (pss_one (ps_dput (u1 hr) (pv 1) (pv 2) (pe_lst pa_nil) rfl)))
      (pss_cons (ps_for PassesOwn.never rfl (pi_list (pe_callB cr_sortedPO (by rfl) T.sorted (by decide +kernel) (pa_cons (pe_ix ix_list (pv 0) pe_int (fun _ _ => rfl)) pa_nil))) (pg_name (i := 3) sc_law_downs.nd rfl (Or.inl rfl))
        (pss_one (ps_expr (pe_bm PySem.F.plainAttrs_list PySem.F.slot_list_append PySem.F.type_list_append mt_append (pe_dget (u1 hr) (pv 1) (pe_ix ix_tup (pv 3) pe_int (fun _ _ => rfl)) (fun _ _ => rfl)) (pa_cons (pe_ix ix_tup (pv 3) pe_int (fun _ _ => rfl)) pa_nil)))))
      (pss_one (ps_ret (pv 1)))))), ?_⟩
    obtain ⟨N, A, L, xs, ys, rfl, _, eN, _, eA, hA, _, eL, hL⟩ := da_net hx
    have sz : 1000 < sizeLine := by decide
    refine fun D nD => ?_
    have s1 := same_snoc (o := .dK []) (Same.refl H) nD
    refine ⟨_, rfl, S, .ref N, As, Ls, Pl, rfl, hx.same s1, hl, hP, h64, fun H2 R s2 nR e2 => ?_⟩
    have eD2 := s2 _ _ (show upd H D (.dK []) D = _ from upd_same)
    have s12 : Same H H2 := fun b o e => s2 _ _ (s1 _ _ e)
    have nRD : R ≠ D := fun e => by rw [e, upd_same] at nR; cases nR
    have nR0 : H R = none := by rw [upd_ne nRD] at nR; exact nR
    refine ⟨R, rfl, ⟨_, .of e2⟩, ?_⟩
    refine for_it (walk_list (K := K) (a := R) (xs := Pl.map V.int)) (fun i σ H' => ∃ (am : Int → Addr) (pv : Option V), σ = [some (.ref N), some (.ref D), pv, none] ∧ Same H H' ∧ H' R = some (.lst (Pl.map V.int)) ∧ DiN H H' D (Pl.take i) am fun _ => [])
      ⟨fun _ => 0, _, rfl, s12, e2, ⟨nD, by simp, by simp, eD2, by simp⟩⟩ (fun i σ H' _ ⟨_, _, _, _, e, _⟩ => .of e) ?_ ?_
    · rintro i x σ H4 H5 hi ⟨am, pv, rfl, sm, eR, hM⟩ ⟨rfl, hx⟩
      rw [List.getElem?_map] at hx
      obtain ⟨p, hp, rfl⟩ := Option.map_eq_some_iff.mp hx
      refine ⟨(by show 0 ≤ sizeLine; decide), fun a na => ?_⟩
      have hpn : p ∉ Pl.take i := notin_take hP.nodup hp
      have naD : D ≠ a := fun e => by rw [← e, hM.at_] at na; cases na
      refine ⟨_, rfl, _, rfl, D, _, rfl, .inl ⟨_, .inl p, by rw [upd_ne naD]; exact hM.at_, rfl, ?_, rfl⟩, ?_⟩
      · rw [List.length_map, List.length_take]
        omega
      refine ⟨fun z => if z = p then a else am z, _, rfl, fun b o e => ?_, ?_, ?_⟩
      · rw [upd_ne (fun z => by rw [z, nD] at e; cases e), upd_ne (fun z => by rw [z, sm.free na] at e; cases e)]
        exact sm _ _ e
      · rw [upd_ne nRD, upd_ne (fun z => by rw [← z, eR] at na; cases na)]
        exact eR
      · rw [← take_snoc hp]
        exact hM.grow hpn na sm
    rintro σ H3 ⟨am, pv, rfl, sm, eR, hM⟩
    rw [List.length_map, List.take_length] at hM
    refine ⟨_, rfl, N, _, ((0 : Nat) : Int), .ref A, rfl, rfl, .of (sm _ _ eN), atI_nat (j := 0) rfl, ?_⟩
    refine ⟨A, xs, pairAt H, rfl, .of (sm _ _ eA), fun x hx => ?_, fun ys Y hs1 hs2 nY => ?_⟩
    · obtain ⟨i, hi⟩ := List.mem_iff_getElem?.mp hx
      obtain ⟨p, t, _, rfl, _, et⟩ := hA.pd hi
      rw [pairAt_eq et]
      exact ⟨t, rfl, sm _ _ et⟩
    obtain ⟨hyl, hys⟩ := sorted_pd hA hB hs1 hs2
    refine ⟨Y, rfl, ⟨_, .of upd_same⟩, ?_⟩
    have m4 := hM.new (o := .lst ys) nY
    have nYM : ∀ p ∈ Pl, am p ≠ Y := fun p hp e => by rw [← e, hM.val p hp] at nY; cases nY
    have nYD : Y ≠ D := fun e => by rw [e, hM.at_] at nY; cases nY
    have hmem : ∀ b ∈ Bs, b.1 ∈ Pl ∧ b.2 ∈ Pl := fun b hb => by
      have hb := hB.1.mem_iff.mp hb
      have h1 : ∀ k, k ∈ [b.1, b.2] → k ∈ Pl := fun k hk => (hP.2 k).mpr (List.mem_append_left _ (List.mem_flatMap.mpr ⟨b, hb, hk⟩))
      exact ⟨h1 _ (by simp), h1 _ (by simp)⟩
    have bl : Bs.length ≤ 1000 := by rw [hB.1.length_eq]; omega
    have m0 : DiN H (upd H3 Y (.lst ys)) D Pl am (downsOf (Bs.take 0)) := m4
    refine for_it (walk_list (K := K) (a := Y) (xs := ys)) (fun i σ H' => ∃ pv u, σ = [some (.ref N), some (.ref D), pv, u] ∧ Same H H' ∧ H' Y = some (.lst ys) ∧ DiN H H' D Pl am (downsOf (Bs.take i)))
      ⟨_, _, rfl, same_snoc sm nY, upd_same, m0⟩ (fun i σ H' _ ⟨_, _, _, _, e, _⟩ => .of e) ?_ ?_
    · rintro i x σ H4 H5 hi ⟨pv, u, rfl, sm, eY, hM⟩ ⟨rfl, hx⟩
      obtain ⟨b, t, eb, rfl, nt, et⟩ := hys i x hx
      obtain ⟨b1, b2⟩ := hmem b (List.mem_of_getElem? eb)
      have tl : (Bs.take i).length ≤ 1000 := Nat.le_trans (by rw [List.length_take]; exact Nat.min_le_right _ _) bl
      refine ⟨_, rfl, _, rfl, t, _, 0, _, rfl, rfl, .of (sm _ _ et), rfl, D, .ref (am b.1), rfl, hM.get b1, .inl ⟨rfl, _, .of (hM.val _ b1)⟩, _, rfl, t, _, 1, _, rfl, rfl, .of (sm _ _ et), rfl, am b.1, _, .int b.2, rfl, rfl, hM.val _ b1, ?_, ?_⟩
      · rw [List.length_map]
        exact Nat.lt_of_le_of_lt (downsOf_len _ _) (by omega)
      refine ⟨_, _, rfl, fun c o e => ?_, ?_, ?_⟩
      · rw [upd_ne (fun z => by rw [z, hM.na _ b1] at e; cases e)]
        exact sm _ _ e
      · rw [upd_ne (nYM _ b1).symm]
        exact eY
      · rw [← take_snoc eb, downsOf_snoc]
        exact hM.app (x := b.2) b1
    rintro σ H4 ⟨pv, u, rfl, sm, eY, hM⟩
    rw [hyl, List.take_length] at hM
    exact ⟨_, rfl, q _ D am sm hM⟩


set_option maxHeartbeats 4000000 in
theorem ok_law_inner  (F : Fun K "_law_inner" "_law_inner" s_law_inner f fd) (T : Txt w K mg)
    (O_law_downs : Own P w K mg base k "_law_downs" ["net"] (sp_law_downs))
    (O_law_all : Own P w K mg base k "_law_all" ["net"] (sp_law_all)) : FnOk P w K mg base CX0 (k + 1) f fd ["net", "many"] (sp_law_inner) := by
  refine F.ok sc_law_inner (fun vs H Q E h => ?_) (fun cdv A outer s0 H vs Q E hr h => ?_)
  · obtain ⟨S, x, As, Bs, Ls, Pl, n, rfl, hx, hl, hP, h64, hB, q⟩ := h
    rfl
  · obtain ⟨S, x, As, Bs, Ls, Pl, n, rfl, hx, hl, hP, h64, hB, q⟩ := h
    refine ⟨_, (pss_cons (ps_set (i := 2) sc_law_inner.nd rfl (Or.inr rfl) (pe_own O_law_downs hr (by rfl) (pa_cons (pv 0) pa_nil)))
      (pss_cons (ps_if (pt_cmpR op_eq (pv 1) pe_int (nomark _))
        (pss_one (ps_ret (pe_lc (own := [("place", 3)]) (by rfl) sc_law_inner.nd (pi_list (pe_own O_law_all hr (by rfl) (pa_cons (pv 0) pa_nil))) (blkOk_by (own := [("place", 3)]) (N := ["net", "many", "downs", "place"]) (sc := defScope s_law_inner) (by decide +kernel)) (fun _ _ _ _ _ => pg_name (i := 3) sc_law_inner.nd rfl (Or.inl rfl)) (fun _ _ _ _ _ => (pts_one (pt_cmpR op_gt (pe_callB (call_len_seqK K rfl) (by rfl) T.len PySem.boot_len (pa_cons (pe_dget (u1 hr) (pv 2) (pv 3) (fun _ _ => rfl)) pa_nil)) pe_int (nomark _)))) (fun _ _ _ _ _ => (pv 3)))))
        pss_nil)
      (pss_one (ps_ret (pe_lc (own := [("place", 3)]) (by rfl) sc_law_inner.nd (pi_list (pe_own O_law_all hr (by rfl) (pa_cons (pv 0) pa_nil))) (blkOk_by (own := [("place", 3)]) (N := ["net", "many", "downs", "place"]) (sc := defScope s_law_inner) (by decide +kernel)) (fun _ _ _ _ _ => pg_name (i := 3) sc_law_inner.nd rfl (Or.inl rfl)) (fun _ _ _ _ _ => (pts_one (pt_cmpR op_eq (pe_callB (call_len_seqK K rfl) (by rfl) T.len PySem.boot_len (pa_cons (pe_dget (u1 hr) (pv 2) (pv 3) (fun _ _ => rfl)) pa_nil)) (pv 1) (nomark _)))) (fun _ _ _ _ _ => (pv 3))))))), ?_⟩
    have sz : 1000 < sizeLine := by decide
    refine seq_asg ?_
    refine ⟨_, rfl, S, x, As, Bs, Ls, Pl, rfl, hx, hl, hP, h64, hB, fun H1 D am s1 hM => ?_⟩
    have hM : DiR H1 D Pl am (downsOf Bs) := ⟨.inl hM.at_, hM.val⟩
    have e0 : ∀ p, decide ((0 : Int) < ((((downsOf Bs p).map V.int).length : Nat) : Int)) = !(downsOf Bs p).isEmpty := fun p => by
      cases downsOf Bs p with
      | nil => rfl
      | cons a l =>
        simp only [List.map_cons, List.length_cons, List.isEmpty_cons, Bool.not_false, decide_eq_true_eq]
        omega
    have e1 : ∀ p, decide (V.int ((((downsOf Bs p).map V.int).length : Nat) : Int) = V.int (n : Int)) = ((downsOf Bs p).length == n) := fun p => by
      rw [List.length_map, Bool.eq_iff_iff, decide_eq_true_iff, beq_iff_eq]
      exact ⟨fun h => by have := V.int.inj h; omega, fun h => by rw [h]⟩
    refine seq_ifs_h ?_
    refine ⟨_, rfl, rfl, _, rfl, ite2 (fun e => ?_) (fun e => ?_)⟩
    · have n0 : n = 0 := by
        have := V.int.inj (of_decide_eq_true e)
        omega
      refine ret_h (lc_td ?_)
      refine ⟨_, rfl, S, x, As, Ls, Pl, rfl, hx.same s1, hl, hP, h64, fun H2 R s2 nR e2 => ?_⟩
      refine lc_listF (K := K) (fun R h => h) e2 (fun p => !(downsOf Bs p).isEmpty) (by omega) (fun _ => rfl) (fun _ => rfl) ?_ ?_
      · intro p hp H3 k s3 hk
        have h3 := (hM.same s2).same s3
        refine ⟨_, rfl, _, rfl, D, .ref (am p), rfl, h3.get hp, _, _, rfl, .inl (.of (h3.val p hp)), _, _, rfl, rfl, _, rfl, ?_⟩
        rw [e0]
        exact hk _ (Same.refl _)
      intro R2 H3 nR2 s3 e3
      have s12 : Same H H2 := fun b o e => s2 _ _ (s1 _ _ e)
      have s13 : Same H H3 := fun b o e => s3 _ _ (s2 _ _ (s1 _ _ e))
      refine q H3 R2 s13 (s12.free nR2) ?_
      rw [e3]
      simp only [n0, if_true]
    · have n0 : n ≠ 0 := fun z => by rw [z] at e; exact e (by decide)
      refine next_h ?_
      dsimp only
      refine ret_h (lc_td ?_)
      refine ⟨_, rfl, S, x, As, Ls, Pl, rfl, hx.same s1, hl, hP, h64, fun H2 R s2 nR e2 => ?_⟩
      refine lc_listF (K := K) (fun R h => h) e2 (fun p => (downsOf Bs p).length == n) (by omega) (fun _ => rfl) (fun _ => rfl) ?_ ?_
      · intro p hp H3 k s3 hk
        have h3 := (hM.same s2).same s3
        refine ⟨_, rfl, _, rfl, D, .ref (am p), rfl, h3.get hp, _, _, rfl, .inl (.of (h3.val p hp)), _, rfl, rfl, _, rfl, ?_⟩
        rw [e1]
        exact hk _ (Same.refl _)
      intro R2 H3 nR2 s3 e3
      have s12 : Same H H2 := fun b o e => s2 _ _ (s1 _ _ e)
      have s13 : Same H H3 := fun b o e => s3 _ _ (s2 _ _ (s1 _ _ e))
      refine q H3 R2 s13 (s12.free nR2) ?_
      rw [e3]
      simp only [n0, if_false]


set_option maxHeartbeats 4000000 in
theorem ok_law_is_net  (F : Fun K "_law_is_net" "_law_is_net" s_law_is_net f fd) (T : Txt w K mg)
    (O_law_same : Own P w K mg base k "_law_same" ["given", "due"] (sp_law_same 4))
    (O_Net_leaves : OwnM P w K mg base k (He.ga K "Net") "leaves" ["self"] (sp_Net_leaves K))
    (O_Net_arrows : OwnM P w K mg base k (He.ga K "Net") "arrows" ["self"] (sp_Net_arrows K)) : FnOk P w K mg base CX0 (k + 1) f fd ["given", "net"] (sp_law_is_net K) := by
  refine F.ok sc_law_is_net (fun vs H Q E h => ?_) (fun cdv A outer s0 H vs Q E hr h => ?_)
  · obtain ⟨S, o, x, As, Bs, Ls, Ls', Ms, Pl, root, rfl, al, hN, hx, g, hB, hM, q⟩ := h
    rfl
  · obtain ⟨S, o, x, As, Bs, Ls, Ls', Ms, Pl, root, rfl, al, hN, hx, g, hB, hM, q⟩ := h
    refine ⟨_, (pss_one (ps_ret (pe_and (pe_own O_law_same hr (by rfl) (pa_cons (pe_ownM0 O_Net_arrows hr T.Net_cls (pv 0)) (pa_cons (pe_callB cr_sortedPO (by rfl) T.sorted (by decide +kernel) (pa_cons (pe_ix ix_list (pv 1) pe_int (fun _ _ => rfl)) pa_nil)) pa_nil))) (pe_one (pe_own O_law_same hr (by rfl) (pa_cons (pe_ownM0 O_Net_leaves hr T.Net_cls (pv 0)) (pa_cons (pe_callB cr_sortedPS (by rfl) T.sorted (by decide +kernel) (pa_cons (pe_ix ix_list (pv 1) pe_int (fun _ _ => rfl)) pa_nil)) pa_nil))))))), ?_⟩
    have sz : 1000 < sizeLine := by decide
    have a46 := g.a46
    have l12 := g.l12
    have lB : Bs.length = As.length := hB.1.length_eq
    have lM : Ms.length = Ls.length := hM.1.length_eq
    obtain ⟨dx, A1, L1, M, C, NA, PA, NM, am, ac, ys0, zs0, ns0, eo, _⟩ := hN.ex
    obtain ⟨W, A, L, xs, ys, rfl, nW, eW, nA, eA, hA, nL, eL, hL⟩ := da_net hx
    have at_ : ∀ {H' : Hp}, Same H H' → NetAt S K H' o Bs Ls' Ms Pl root := fun s => hN.go fun b u hb e => ⟨hb, s _ _ e⟩
    have zM : ∀ p ∈ Ms, p.2.length ≤ 1000 := fun p hp => Nat.le_trans (g.nm p (hM.1.mem_iff.mp hp)).2 (by decide)
    refine ⟨_, rfl, o, dx, _, rfl, eo, rfl, S, o, Bs, Ls', Ms, Pl, root, rfl, hN, fun H1 R1 ys1 s1 nR1 eR1 hR1 => ?_⟩
    have d1 : Da S H1 (.ref R1) (.list (Bs.map pd)) := .lst (al.free nR1) eR1 hR1
    refine ⟨_, rfl, W, _, ((0 : Nat) : Int), .ref A, rfl, rfl, .of (s1 _ _ eW), atI_nat (j := 0) rfl, A, xs, pairAt H1, rfl, .of (s1 _ _ eA), fun x hx => ?_, fun As1 R2 hs1 hs2 nR2 => ?_⟩
    · obtain ⟨i, hi⟩ := List.mem_iff_getElem?.mp hx
      obtain ⟨p, tt, _, rfl, _, et⟩ := (hA.same s1).pd hi
      rw [pairAt_eq et]
      exact ⟨tt, rfl, et⟩
    have hAs := sorted_pdA (hA.same s1) hB hs1 hs2
    have s2 : Same H (upd H1 R2 (.lst As1)) := same_snoc s1 nR2
    have d2 : Da S (upd H1 R2 (.lst As1)) (.ref R2) (.list (Bs.map pd)) := .lst ((al.same s1).free nR2) upd_same (hAs.new nR2)
    have d1 := d1.new (o := .lst As1) nR2
    refine ⟨S, .ref R1, .ref R2, _, _, 1000, 3, rfl, al.same s2, d1, d2, (dd_pdL (by omega)).lift (by decide), by decide, by decide, fun H3 b s3 hb => ⟨_, rfl, ?_⟩⟩
    obtain rfl := hb.mpr rfl
    refine ite2 (fun _ => ?_) fun e => absurd rfl e
    have s3 := s2.trans s3
    clear s2 d1 d2 nR2 nR1 eR1 hR1 hs1 hs2 hAs
    refine ⟨_, rfl, o, dx, _, rfl, s3 _ _ eo, rfl, S, o, Bs, Ls', Ms, Pl, root, rfl, at_ s3, fun H4 R1 ys1 s4 nR1 eR1 hR1 => ?_⟩
    have d1 : Da S H4 (.ref R1) (.list (Ms.map ld)) := .lst ((al.same s3).free nR1) eR1 hR1
    have s4 := s3.trans s4
    refine ⟨_, rfl, W, _, ((1 : Nat) : Int), .ref L, rfl, rfl, .of (s4 _ _ eW), atI_nat (j := 1) rfl, L, ys, isAt H4, rfl, .of (s4 _ _ eL), fun x hx => ?_, fun As1 R2 hs1 hs2 nR2 => ?_⟩
    · obtain ⟨i, hi⟩ := List.mem_iff_getElem?.mp hx
      obtain ⟨p, tt, _, rfl, _, et⟩ := (hL.same s4).ld hi
      rw [isAt_eq et]
      exact ⟨tt, rfl, et⟩
    obtain ⟨Ms2, hMs2, hLs⟩ := sorted_ldA (hL.same s4) hs1 hs2
    have eMs : Ms2 = Ms := hMs2.uniq hM g.lp
    rw [eMs] at hLs
    have s5 : Same H (upd H4 R2 (.lst As1)) := same_snoc s4 nR2
    have d2 : Da S (upd H4 R2 (.lst As1)) (.ref R2) (.list (Ms.map ld)) := .lst ((al.same s4).free nR2) upd_same (hLs.new nR2)
    have d1 := d1.new (o := .lst As1) nR2
    refine ⟨S, .ref R1, .ref R2, _, _, 1000, 3, rfl, al.same s5, d1, d2, (dd_lds (by omega) zM).lift (by decide), by decide, by decide, fun H6 b s6 hb => ?_⟩
    obtain rfl := hb.mpr rfl
    exact q _ (s5.trans s6)


set_option maxHeartbeats 4000000 in
theorem ok_law_rule  (F : Fun K "_law_rule" "_law_rule" s_law_rule f fd) (T : Txt w K mg) : FnOk P w K mg base CX0 (k + 1) f fd ["ups", "downs", "held", "at"] (sp_law_rule K) := by
  refine F.ok sc_law_rule (fun vs H Q E h => ?_) (fun cdv A outer s0 H vs Q E hr h => ?_)
  · obtain ⟨U, D, a, As, Bs, Ls, Pl, am, ac, M, p, rfl, hU, hD, g, hB, ea, hl, hp, ne, q⟩ := h
    rfl
  · obtain ⟨U, D, a, As, Bs, Ls, Pl, am, ac, M, p, rfl, hU, hD, g, hB, ea, hl, hp, ne, q⟩ := h
    refine ⟨_, (pss_cons (ps_set (i := 4) sc_law_rule.nd rfl (Or.inl rfl) (pe_dget (u1 hr) (pv 1) (pv 3) (fun _ _ => rfl)))
      (pss_cons (ps_if (pt_cmpR op_eq (pe_callB call_len_seq (by rfl) T.len PySem.boot_len (pa_cons (pv 4) pa_nil)) pe_int (nomark _))
        (pss_cons (ps_for PassesOwn.never rfl (pi_list (pv 4)) (pg_name (i := 5) sc_law_rule.nd rfl (Or.inl rfl))
          (pss_one (ps_if (PW.pt (pw_and (pt_cmpR op_eq (pe_callB call_len_seq (by rfl) T.len PySem.boot_len (pa_cons (pe_dget (u1 hr) (pv 1) (pv 5) (fun _ _ => rfl)) pa_nil)) pe_int (nomark _)) (pw_and1 (pt_cmpR op_in_seq (pv 5) (pv 2) rfl))))
            (pss_one (ps_ret pe_str))
            pss_nil)))
        (pss_cons (ps_for PassesOwn.never rfl (pi_list (pv 4)) (pg_name (i := 5) sc_law_rule.nd rfl (Or.inl rfl))
          (pss_one (ps_if (PW.pt (pw_and (pt_cmpR op_eq (pe_callB call_len_seq (by rfl) T.len PySem.boot_len (pa_cons (pe_dget (u1 hr) (pv 1) (pv 5) (fun _ _ => rfl)) pa_nil)) pe_int (nomark _)) (pw_and1 (pt_cmpR op_in_seq (pe_ix ix_list (pe_dget (u1 hr) (pv 1) (pv 5) (fun _ _ => rfl)) pe_int (fun _ _ => rfl)) (pv 2) rfl))))
            (pss_one (ps_ret pe_str))
            pss_nil)))
        (pss_cons (ps_if (pt_cmpR op_eq (pe_callB call_len_seq (by rfl) T.len PySem.boot_len (pa_cons (pe_lc (own := [("kid", 5)]) (by rfl) sc_law_rule.nd (pi_list (pv 4)) (blkOk_by (own := [("kid", 5)]) (N := ["ups", "downs", "held", "at", "kids", "kid", "mother"]) (sc := defScope s_law_rule) (by decide +kernel)) (fun _ _ _ _ _ => pg_name (i := 5) sc_law_rule.nd rfl (Or.inl rfl)) (fun _ _ _ _ _ => (pts_one (PW.pt (pw_and (pt_cmpR op_eq (pe_callB (call_len_seqK K rfl) (by rfl) T.len PySem.boot_len (pa_cons (pe_dget (u1 hr) (pv 1) (pv 5) (fun _ _ => rfl)) pa_nil)) pe_int (nomark _)) (pw_and1 (pt_cmpR (op_in_seqK K rfl) (pv 5) (pv 2) rfl)))))) (fun _ _ _ _ _ => (pv 5))) pa_nil)) pe_int (nomark _))
          (pss_one (ps_ret pe_str))
          pss_nil)
        (pss_one (ps_ret pe_non)))))
        pss_nil)
      (pss_cons (ps_if (pt_cmpR op_in_seq (pe_ix ix_list (pv 4) pe_int (fun _ _ => rfl)) (pv 2) rfl)
        (pss_one (ps_ret pe_str))
        pss_nil)
      (pss_cons (ps_for PassesOwn.never rfl (pi_list (pe_dget (u1 hr) (pv 0) (pv 3) (fun _ _ => rfl))) (pg_name (i := 6) sc_law_rule.nd rfl (Or.inl rfl))
        (pss_one (ps_for PassesOwn.never rfl (pi_list (pe_dget (u1 hr) (pv 1) (pv 6) (fun _ _ => rfl))) (pg_name (i := 5) sc_law_rule.nd rfl (Or.inl rfl))
          (pss_one (ps_if (PW.pt (pw_and (pt_cmpR op_ne (pv 5) (pv 3) (nomark _)) (pw_and1 (pt_cmpR op_notIn_seq (pv 5) (pv 2) rfl))))
            (pss_one (ps_ret pe_non))
            pss_nil)))))
      (pss_one (ps_ret pe_str)))))), ?_⟩
    have sz : 1000 < sizeLine := by decide
    have hP : ∀ {x c : Int}, c ∈ downsOf Bs x → c ∈ Pl := fun h => downsOf_mem hB g.asc h
    have hU' : ∀ {x c : Int}, c ∈ upsOf Bs x → c ∈ Pl := fun h => (g.ends _ (hB.1.mem_iff.mp (mem_ups.mp h))).1
    have gd : ∀ {x : Int}, x ∈ Pl → DGet H D (.int x) (some (.ref (ac x))) := fun h => hD.get h
    refine ⟨_, rfl, _, rfl, D, .ref (ac p), rfl, gd hp, ?_⟩
    refine gn_h (σ' := [some (.ref U), some (.ref D), some (.ref a), some (.int p), some (.ref (ac p)), none, none]) rfl ?_
    dsimp only
    refine seq_ifs_h ?_
    refine ⟨_, rfl, ac p, _, rfl, .inl (.of (hD.val p hp)), rfl, _, rfl, ?_⟩
    have n2 : ∀ x : Int, decide (V.int ((((downsOf Bs x).map V.int).length : Nat) : Int) = V.int 2) = decide (kds Bs x = 2) := fun x => by
      rw [List.length_map, Bool.eq_iff_iff, decide_eq_true_eq, decide_eq_true_eq]
      exact ⟨fun e => by have := V.int.inj e; show (downsOf Bs x).length = 2; omega, fun e => by rw [show (downsOf Bs x).length = 2 from e]; rfl⟩
    have n1 : ∀ x : Int, decide (V.int ((((downsOf Bs x).map V.int).length : Nat) : Int) = V.int 1) = decide (kds Bs x = 1) := fun x => by
      rw [List.length_map, Bool.eq_iff_iff, decide_eq_true_eq, decide_eq_true_eq]
      exact ⟨fun e => by have := V.int.inj e; show (downsOf Bs x).length = 1; omega, fun e => by rw [show (downsOf Bs x).length = 1 from e]; rfl⟩
    have nxt : ∀ {f : Int → Bool} {L : List Int} {i : Nat} {c : Int}, L[i]? = some c → (∀ j, j < i → ∀ c, L[j]? = some c → f c = false) → f c = false → ∀ j, j < i + 1 → ∀ c, L[j]? = some c → f c = false := fun h1 h2 h3 j hj c hc => by
      rcases Nat.lt_or_eq_of_le (Nat.le_of_lt_succ hj) with h | rfl
      · exact h2 j h c hc
      · rw [h1] at hc
        cases hc
        exact h3
    have allf : ∀ {f : Int → Bool} {L : List Int}, (∀ j, j < (L.map V.int).length → ∀ c, L[j]? = some c → f c = false) → L.any f = false := fun {f L} h => List.any_eq_false.mpr fun x hx => by
      obtain ⟨j, hj⟩ := List.mem_iff_getElem?.mp hx
      rw [h j (by rw [List.length_map]; exact (List.getElem?_eq_some_iff.mp hj).1) x hj]
      decide
    obtain ⟨f1, hf1⟩ : ∃ f : Int → Bool, f = fun c => decide (kds Bs c = 2) && decide (c ∈ M) := ⟨_, rfl⟩
    obtain ⟨f2, hf2⟩ : ∃ f : Int → Bool, f = fun c => decide (kds Bs c = 1) && (downsOf Bs c).any fun d => decide (d ∈ M) := ⟨_, rfl⟩
    dsimp only
    rw [n2]
    by_cases c2 : kds Bs p = 2
    · have hsp : splC Bs M p = (downsOf Bs p).any f1 := by
        unfold splC
        rw [decide_eq_true c2, Bool.true_and, hf1]
      have hbe : belC Bs M p = (downsOf Bs p).any f2 := by
        unfold belC
        rw [decide_eq_true c2, Bool.true_and, hf2, List.any_filter]
      rw [decide_eq_true c2]
      refine ite2 (fun _ => ?_) fun e => absurd rfl e
      refine ⟨_, rfl, ac p, rfl, ⟨_, .of (hD.val p hp)⟩, ?_⟩
      refine for_it (walk_list (K := K) (a := ac p) (xs := (downsOf Bs p).map V.int)) (fun i σ H' => (∃ u v, σ = [some (.ref U), some (.ref D), some (.ref a), some (.int p), some (.ref (ac p)), u, v]) ∧ H' = H ∧ ∀ j, j < i → ∀ c, (downsOf Bs p)[j]? = some c → f1 c = false) ⟨⟨_, _, rfl⟩, rfl, fun j hj => by omega⟩ (fun i σ H' _ h => by rw [h.2.1]; exact .of (hD.val p hp)) ?_ ?_
      · rintro i x σ H4 H5 hi ⟨⟨u, v, rfl⟩, rfl, hj⟩ ⟨rfl, hx⟩
        obtain ⟨c, hc, rfl⟩ := int_at hx
        have hcP := hP (List.mem_of_getElem? hc)
        refine ⟨_, rfl, _, rfl, D, .ref (ac c), rfl, gd hcP, ac c, _, rfl, .inl (.of (hD.val c hcP)), rfl, _, rfl, ?_⟩
        rw [n2]
        by_cases d2 : kds Bs c = 2
        · rw [decide_eq_true d2]
          refine ite2 (fun _ => ?_) fun e => absurd rfl e
          refine ⟨_, rfl, _, rfl, a, _, rfl, .inl (.of ea), rfl, flat_ints, _, rfl, ?_⟩
          rw [inV_ints]
          by_cases cm : c ∈ M
          · rw [decide_eq_true cm]
            refine ite2 (fun _ => ?_) fun e => absurd rfl e
            have : splC Bs M p = true := by
              rw [hsp]
              exact List.any_eq_true.mpr ⟨c, List.mem_of_getElem? hc, by rw [hf1]; simp [d2, cm]⟩
            rw [show ruleV Bs M p = .str "split" by simp [ruleV, ruleL, this]] at q
            exact q _ (Same.refl _)
          · rw [decide_eq_false cm]
            refine ite2 (fun e => absurd e (by decide)) fun _ => ?_
            exact ⟨⟨_, _, rfl⟩, rfl, nxt hc hj (by rw [hf1]; simp [cm])⟩
        · rw [decide_eq_false d2]
          refine ite2 (fun e => absurd e (by decide)) fun _ => ?_
          refine ite2 (fun e => absurd e (by decide)) fun _ => ?_
          exact ⟨⟨_, _, rfl⟩, rfl, nxt hc hj (by rw [hf1]; simp [d2])⟩
      rintro σ H4 ⟨⟨u, v, rfl⟩, rfl, hj⟩
      have sp0 := hsp.trans (allf hj)
      clear hj
      refine ⟨_, rfl, ac p, rfl, ⟨_, .of (hD.val p hp)⟩, ?_⟩
      refine for_it (walk_list (K := K) (a := ac p) (xs := (downsOf Bs p).map V.int)) (fun i σ H' => (∃ u v, σ = [some (.ref U), some (.ref D), some (.ref a), some (.int p), some (.ref (ac p)), u, v]) ∧ H' = H4 ∧ ∀ j, j < i → ∀ c, (downsOf Bs p)[j]? = some c → f2 c = false) ⟨⟨_, _, rfl⟩, rfl, fun j hj => by omega⟩ (fun i σ H' _ h => by rw [h.2.1]; exact .of (hD.val p hp)) ?_ ?_
      · rintro i x σ H6 H5 hi ⟨⟨u, v, rfl⟩, rfl, hj⟩ ⟨rfl, hx⟩
        obtain ⟨c, hc, rfl⟩ := int_at hx
        have hcP := hP (List.mem_of_getElem? hc)
        refine ⟨_, rfl, _, rfl, D, .ref (ac c), rfl, gd hcP, ac c, _, rfl, .inl (.of (hD.val c hcP)), rfl, _, rfl, ?_⟩
        rw [n1]
        by_cases d1 : kds Bs c = 1
        · obtain ⟨d, hd⟩ : ∃ d, downsOf Bs c = [d] := List.length_eq_one_iff.mp d1
          have ed := hD.val c hcP
          rw [hd] at ed
          rw [decide_eq_true d1]
          refine ite2 (fun _ => ?_) fun e => absurd rfl e
          refine ⟨_, rfl, _, rfl, D, .ref (ac c), rfl, gd hcP, ac c, _, ((0 : Nat) : Int), .int d, rfl, rfl, .of ed, atI_nat (j := 0) rfl, _, rfl, a, _, rfl, .inl (.of ea), rfl, flat_ints, _, rfl, ?_⟩
          rw [inV_ints]
          by_cases cm : d ∈ M
          · rw [decide_eq_true cm]
            refine ite2 (fun _ => ?_) fun e => absurd rfl e
            have : belC Bs M p = true := by
              rw [hbe]
              exact List.any_eq_true.mpr ⟨c, List.mem_of_getElem? hc, by rw [hf2]; show (decide (kds Bs c = 1) && _) = true; rw [decide_eq_true d1, hd]; simp [cm]⟩
            rw [show ruleV Bs M p = .str "below" by simp [ruleV, ruleL, this, sp0]] at q
            exact q _ (Same.refl _)
          · rw [decide_eq_false cm]
            refine ite2 (fun e => absurd e (by decide)) fun _ => ?_
            exact ⟨⟨_, _, rfl⟩, rfl, nxt hc hj (by rw [hf2]; simp [hd, cm])⟩
        · rw [decide_eq_false d1]
          refine ite2 (fun e => absurd e (by decide)) fun _ => ?_
          refine ite2 (fun e => absurd e (by decide)) fun _ => ?_
          exact ⟨⟨_, _, rfl⟩, rfl, nxt hc hj (by rw [hf2]; simp [d1])⟩
      rintro σ H5 ⟨⟨u, v, rfl⟩, rfl, hj⟩
      have be0 := hbe.trans (allf hj)
      clear hj
      dsimp only
      refine seq_ifs_h ?_
      obtain ⟨f3, hf3⟩ : ∃ f : Int → Bool, f = fun c => decide (kds Bs c = 1) && decide (c ∈ M) := ⟨_, rfl⟩
      have hmx : mixC Bs M p = decide ((((downsOf Bs p).filter f3)).length = 2) := by
        unfold mixC
        rw [decide_eq_true c2, Bool.true_and, ← hf3, Bool.eq_iff_iff, List.all_eq_true, decide_eq_true_eq, ← List.length_filter_eq_length_iff]
        exact ⟨fun h => h.trans c2, fun h => h.trans c2.symm⟩
      have ln : (downsOf Bs p).length < sizeLine := by
        have : (downsOf Bs p).length = 2 := c2
        omega
      unfold tTest tOp
      dsimp only
      refine cb_h ?_
      refine lc_listF (K := K) (a := ac p) (ns := downsOf Bs p) (fun R h => ⟨_, rfl, h⟩) (hD.val p hp) f3 ln (fun _ => rfl) (fun _ => rfl) ?_ ?_
      · intro c hc H6 k s6 hk
        have hcP := hP hc
        have hD6 := hD.same s6
        have k6 := hk H6 (Same.refl _)
        refine ⟨_, rfl, _, rfl, D, .ref (ac c), rfl, hD6.get hcP, ac c, _, rfl, .inl (.of (hD6.val c hcP)), rfl, _, rfl, ?_⟩
        rw [n1]
        by_cases d1 : kds Bs c = 1
        · rw [decide_eq_true d1]
          refine ite2 (fun _ => ?_) fun e => absurd rfl e
          refine ⟨_, rfl, _, rfl, a, _, rfl, .inl (.of (s6 _ _ ea)), rfl, flat_ints, _, rfl, ?_⟩
          rw [inV_ints]
          rw [hf3] at k6
          rw [show (fun c => decide (kds Bs c = 1) && decide (c ∈ M)) c = decide (c ∈ M) by show (decide (kds Bs c = 1) && _) = _; rw [decide_eq_true d1, Bool.true_and]] at k6
          exact k6
        · rw [decide_eq_false d1]
          refine ite2 (fun e => absurd e (by decide)) fun _ => ?_
          rw [hf3] at k6
          rw [show (fun c => decide (kds Bs c = 1) && decide (c ∈ M)) c = false by show (decide (kds Bs c = 1) && _) = _; rw [decide_eq_false d1, Bool.false_and]] at k6
          exact k6
      intro R H6 nR s6 eR
      refine ⟨R, _, rfl, .inl (.of eR), rfl, _, rfl, ?_⟩
      rw [show decide (V.int (((((downsOf Bs p).filter f3).map V.int).length : Nat) : Int) = V.int 2) = mixC Bs M p by
        rw [hmx, List.length_map, Bool.eq_iff_iff, decide_eq_true_eq, decide_eq_true_eq]
        exact ⟨fun e => by have := V.int.inj e; omega, fun e => by rw [e]; rfl⟩]
      cases mx : mixC Bs M p with
      | true =>
        refine ite2 (fun _ => ?_) fun e => absurd rfl e
        rw [show ruleV Bs M p = .str "mixings" by simp [ruleV, ruleL, sp0, be0, mx]] at q
        exact q _ s6
      | false =>
        refine ite2 (fun e => absurd e (by decide)) fun _ => ?_
        have c1 : decide (kds Bs p = 1) = false := decide_eq_false (by omega)
        have ch : chiC Bs M p = false := by unfold chiC; rw [c1, Bool.false_and]
        have mo : motC Bs M p = false := by unfold motC; rw [c1, Bool.false_and]
        rw [show ruleV Bs M p = .non by simp [ruleV, ruleL, sp0, be0, mx, ch, mo]] at q
        exact q _ s6
    rw [decide_eq_false c2]
    refine ite2 (fun e => absurd e (by decide)) fun _ => ?_
    refine next_h ?_
    dsimp only
    have c1 : kds Bs p = 1 := by
      obtain ⟨z, hz⟩ := g.kind hB hp
      have h3 : (downsOf Bs p).length < 3 := (List.getElem?_eq_some_iff.mp hz).1
      have h0 := List.length_pos_iff.mpr ne
      have h2 : (downsOf Bs p).length ≠ 2 := c2
      show (downsOf Bs p).length = 1
      omega
    obtain ⟨d, hd⟩ : ∃ d, downsOf Bs p = [d] := List.length_eq_one_iff.mp c1
    have ed := hD.val p hp
    rw [hd] at ed
    have sp0 : splC Bs M p = false := by unfold splC; rw [decide_eq_false c2, Bool.false_and]
    have be0 : belC Bs M p = false := by unfold belC; rw [decide_eq_false c2, Bool.false_and]
    have mx0 : mixC Bs M p = false := by unfold mixC; rw [decide_eq_false c2, Bool.false_and]
    have hch : chiC Bs M p = decide (d ∈ M) := by unfold chiC; rw [decide_eq_true c1, Bool.true_and, hd]; simp
    refine seq_ifs_h ?_
    refine ⟨_, rfl, ac p, _, ((0 : Nat) : Int), .int d, rfl, rfl, .of ed, atI_nat (j := 0) rfl, _, rfl, a, _, rfl, .inl (.of ea), rfl, flat_ints, _, rfl, ?_⟩
    rw [inV_ints, ← hch]
    cases ch : chiC Bs M p with
    | true =>
      refine ite2 (fun _ => ?_) fun e => absurd rfl e
      rw [show ruleV Bs M p = .str "child" by simp [ruleV, ruleL, sp0, be0, mx0, ch]] at q
      exact q _ (Same.refl _)
    | false =>
    refine ite2 (fun e => absurd e (by decide)) fun _ => ?_
    refine next_h ?_
    dsimp only
    have nxtP : ∀ {R : Int → Prop} {L : List Int} {i : Nat} {c : Int}, L[i]? = some c → (∀ j, j < i → ∀ c, L[j]? = some c → R c) → R c → ∀ j, j < i + 1 → ∀ c, L[j]? = some c → R c := fun h1 h2 h3 j hj c hc => by
      rcases Nat.lt_or_eq_of_le (Nat.le_of_lt_succ hj) with h | rfl
      · exact h2 j h c hc
      · rw [h1] at hc
        cases hc
        exact h3
    have allP : ∀ {R : Int → Prop} {L : List Int}, (∀ j, j < (L.map V.int).length → ∀ c, L[j]? = some c → R c) → ∀ c ∈ L, R c := fun h x hx => by
      obtain ⟨j, hj⟩ := List.mem_iff_getElem?.mp hx
      exact h j (by rw [List.length_map]; exact (List.getElem?_eq_some_iff.mp hj).1) x hj
    have mbad : ∀ {m c : Int}, m ∈ upsOf Bs p → c ∈ downsOf Bs m → c ≠ p → c ∉ M → motC Bs M p = false := fun {m c} hm hc h1 h2 => by
      unfold motC
      rw [decide_eq_true c1, Bool.true_and]
      refine Bool.eq_false_iff.mpr fun h => ?_
      have := List.all_eq_true.mp (List.all_eq_true.mp h m hm) c hc
      simp [h1, h2] at this
    have mgood : (∀ m ∈ upsOf Bs p, ∀ c ∈ downsOf Bs m, c = p ∨ c ∈ M) → motC Bs M p = true := fun h => by
      unfold motC
      rw [decide_eq_true c1, Bool.true_and]
      exact List.all_eq_true.mpr fun m hm => List.all_eq_true.mpr fun c hc => by
        rcases h m hm c hc with e | e <;> simp [e]
    refine ⟨_, rfl, _, rfl, U, .ref (am p), rfl, hU.get hp, am p, rfl, ⟨_, .of (hU.val p hp)⟩, ?_⟩
    refine for_it (walk_list (K := K) (a := am p) (xs := (upsOf Bs p).map V.int)) (fun i σ H' => (∃ u v, σ = [some (.ref U), some (.ref D), some (.ref a), some (.int p), some (.ref (ac p)), u, v]) ∧ H' = H ∧ ∀ j, j < i → ∀ m, (upsOf Bs p)[j]? = some m → ∀ c ∈ downsOf Bs m, c = p ∨ c ∈ M) ⟨⟨_, _, rfl⟩, rfl, fun j hj => by omega⟩ (fun i σ H' _ h => by rw [h.2.1]; exact .of (hU.val p hp)) ?_ ?_
    · rintro i x σ H4 H5 hi ⟨⟨u, v, rfl⟩, rfl, hj⟩ ⟨rfl, hx⟩
      obtain ⟨m, hm, rfl⟩ := int_at hx
      have hmu := List.mem_of_getElem? hm
      have hmP := hU' hmu
      refine ⟨_, rfl, _, rfl, D, .ref (ac m), rfl, gd hmP, ac m, rfl, ⟨_, .of (hD.val m hmP)⟩, ?_⟩
      refine for_it (walk_list (K := K) (a := ac m) (xs := (downsOf Bs m).map V.int)) (fun k σ H' => (∃ u, σ = [some (.ref U), some (.ref D), some (.ref a), some (.int p), some (.ref (ac p)), u, some (.int m)]) ∧ H' = H5 ∧ ∀ j, j < k → ∀ c, (downsOf Bs m)[j]? = some c → c = p ∨ c ∈ M) ⟨⟨_, rfl⟩, rfl, fun j hj => by omega⟩ (fun i σ H' _ h => by rw [h.2.1]; exact .of (hD.val m hmP)) ?_ ?_
      · rintro k x σ H6 H7 hk ⟨⟨u, rfl⟩, rfl, hjk⟩ ⟨rfl, hx⟩
        obtain ⟨c, hc, rfl⟩ := int_at hx
        have hcm := List.mem_of_getElem? hc
        refine ⟨_, rfl, _, rfl, rfl, _, rfl, ?_⟩
        rw [show (!decide (V.int c = V.int p)) = decide (c ≠ p) by by_cases h : c = p <;> simp [h]]
        by_cases cp : c = p
        · rw [decide_eq_false (by simpa using cp)]
          refine ite2 (fun e => absurd e (by decide)) fun _ => ?_
          refine ite2 (fun e => absurd e (by decide)) fun _ => ?_
          exact ⟨⟨_, rfl⟩, rfl, nxtP hc hjk (.inl cp)⟩
        · rw [decide_eq_true cp]
          refine ite2 (fun _ => ?_) fun e => absurd rfl e
          refine ⟨_, rfl, _, rfl, a, _, rfl, .inl (.of ea), rfl, flat_ints, _, rfl, ?_⟩
          rw [inV_ints]
          by_cases cm : c ∈ M
          · rw [decide_eq_true cm]
            refine ite2 (fun e => absurd e (by decide)) fun _ => ?_
            exact ⟨⟨_, rfl⟩, rfl, nxtP hc hjk (.inr cm)⟩
          · rw [decide_eq_false cm]
            refine ite2 (fun _ => ?_) fun e => absurd rfl e
            have mo := mbad hmu hcm cp cm
            rw [show ruleV Bs M p = .non by simp [ruleV, ruleL, sp0, be0, mx0, ch, mo]] at q
            exact q _ (Same.refl _)
      rintro σ H6 ⟨⟨u, rfl⟩, rfl, hjk⟩
      exact ⟨⟨_, _, rfl⟩, rfl, nxtP hm hj (allP hjk)⟩
    rintro σ H4 ⟨⟨u, v, rfl⟩, rfl, hj⟩
    have mo := mgood (allP hj)
    rw [show ruleV Bs M p = .str "mothers" by simp [ruleV, ruleL, sp0, be0, mx0, ch, mo]] at q
    exact q _ (Same.refl _)


set_option maxHeartbeats 4000000 in
theorem ok_law_spots  (F : Fun K "_law_spots" "_law_spots" s_law_spots f fd) (T : Txt w K mg)
    (O_law_take : Own P w K mg base k "_law_take" ["store", "many"] (sp_law_take))
    (O_law_pick : Own P w K mg base k "_law_pick" ["store", "things"] (sp_law_pick K)) : FnOk P w K mg base CX0 (k + 1) f fd ["store", "many"] (sp_law_spots K) := by
  refine F.ok sc_law_spots (fun vs H Q E h => ?_) (fun cdv A outer s0 H vs Q E hr h => ?_)
  · obtain ⟨S, s, many, rfl, hS, h1, h2, q⟩ := h
    rfl
  · obtain ⟨S, s, many, rfl, hS, h1, h2, q⟩ := h
    refine ⟨_, (pss_cons (ps_set (i := 2) sc_law_spots.nd rfl (Or.inl rfl) (pe_op op_add (pv 1) (pe_own O_law_take hr (by rfl) (pa_cons (pv 0) (pa_cons pe_int pa_nil)))))
      (pss_cons (ps_set (i := 3) sc_law_spots.nd rfl (Or.inl rfl) (pe_own O_law_pick hr (by rfl) (pa_cons (pv 0) (pa_cons (pe_lst (pa_cons pe_int (pa_cons pe_int (pa_cons pe_int (pa_cons (pe_op op_sub pe_int (pv 2)) pa_nil))))) pa_nil))))
      (C8.pss_cut (ps_if (pt_cmpR op_eq (pe_own O_law_take hr (by rfl) (pa_cons (pv 0) (pa_cons pe_int pa_nil))) pe_int (nomark _))
        (pss_cons (ps_set (i := 2) sc_law_spots.nd rfl (Or.inl rfl) pe_int)
        (pss_one (ps_set (i := 3) sc_law_spots.nd rfl (Or.inl rfl) pe_int)))
        pss_nil)
      (pss_cons (ps_set (i := 4) sc_law_spots.nd rfl (Or.inl rfl) (pe_lst pa_nil))
      (pss_cons (ps_for PassesOwn.never rfl (pi_range1 (by rfl) T.range (pa_cons (pv 1) pa_nil)) (pg_name (i := 5) sc_law_spots.nd rfl (Or.inl rfl))
        (pss_cons (ps_set (i := 6) sc_law_spots.nd rfl (Or.inl rfl) (pe_own O_law_take hr (by rfl) (pa_cons (pv 0) (pa_cons (pv 2) pa_nil))))
        (pss_cons (ps_for PassesOwn.never rfl (pi_range1 (by rfl) T.range (pa_cons (pv 1) pa_nil)) (pg_name (i := 7) sc_law_spots.nd rfl (Or.inl rfl))
          (pss_one (ps_if (pt_cmpR op_in_seq (pe_op op_add (pv 3) (pv 6)) (pv 4) rfl)
            (pss_one (ps_set (i := 6) sc_law_spots.nd rfl (Or.inl rfl) (pe_op op_mod (pe_callTy call_int1 (by rfl) T.int (by decide +kernel) (pa_cons (pe_op op_add (pv 6) pe_int) pa_nil)) (pv 2))))
            pss_nil)))
        (pss_one (ps_expr (pe_bm PySem.F.plainAttrs_list PySem.F.slot_list_append PySem.F.type_list_append mt_append (pv 4) (pa_cons (pe_op op_add (pv 3) (pv 6)) pa_nil)))))))
      (pss_one (ps_ret (pv 4)))))))), ?_⟩
    have sz : 1000 < sizeLine := by decide
    refine ⟨_, rfl, _, rfl, S, s, _, rfl, hS.so, by decide, fun H1 r k1 so1 r0 r1 => ⟨_, _, rfl, rfl, ?_⟩⟩
    have S1 := hS.keep k1 so1
    refine gn_h (σ' := [some (.ref s), some (.int many), some (.int (many + r)), none, none, none, none, none]) rfl ?_
    dsimp only
    refine ⟨_, rfl, _, rfl, _, _, rfl, rfl, (by show 4 ≤ sizeLine; decide), fun B nB => ?_⟩
    refine pick_list S1.so nB (by simp) (by show 4 ≤ 1000000; decide) fun H2 b k2 _ so2 hb => ?_
    obtain ⟨bs, rfl, b0, b1⟩ : ∃ b' : Int, b = .int b' ∧ 0 ≤ b' ∧ b' + (many + r) ≤ 10000 := by
      simp only [List.mem_cons, List.not_mem_nil, or_false] at hb
      rcases hb with rfl | rfl | rfl | rfl
      · exact ⟨0, rfl, by omega, by omega⟩
      · exact ⟨0, rfl, by omega, by omega⟩
      · exact ⟨5, rfl, by omega, by omega⟩
      · exact ⟨_, rfl, by omega, by omega⟩
    have k02 := k1.trans k2
    refine gn_h (σ' := [some (.ref s), some (.int many), some (.int (many + r)), some (.int bs), none, none, none, none]) rfl ?_
    dsimp only
    refine ⟨fun σ' H' => Keep s H H' ∧ SO S s H' ∧ ∃ room base : Int, σ' = [some (.ref s), some (.int many), some (.int room), some (.int base), none, none, none, none] ∧ 1 ≤ room ∧ many ≤ room ∧ 0 ≤ base ∧ base + room ≤ 10000, ?_, ?_⟩
    · refine ifs_h ?_
      refine ⟨_, rfl, S, s, _, rfl, so2, by decide, fun H3 t k3 so3 _ _ => ⟨rfl, _, rfl, ?_⟩⟩
      refine ite2 (fun _ => ?_) fun _ => ⟨k02.trans k3, so3, _, _, rfl, by omega, by omega, b0, b1⟩
      exact ⟨k02.trans k3, so3, 10000, 0, rfl, by omega, by omega, by omega, by omega⟩
    clear b0 b1 hb
    rintro σ' H3 ⟨k3, so3, room, base, rfl, h3, h4, b0, b1⟩
    have S3 := hS.keep k3 so3
    refine ⟨(by show 0 ≤ sizeLine; decide), fun R nR => ?_⟩
    obtain ⟨H4, e4, S4, k4, sm4, e4', f4, nRs⟩ := fresh (.lst []) S3 k3 nR
    rw [e4]
    clear e4
    have nRH : H R = none := k3.free nRs nR
    refine gn_h (σ' := [some (.ref s), some (.int many), some (.int room), some (.int base), some (.ref R), none, none, none]) rfl ?_
    dsimp only
    refine ⟨_, rfl, _, rfl, by omega, by omega, for_range (n := many.toNat) (fun i σ H' => Keep s H H' ∧ SO S s H' ∧ ∃ (M : List Int) (t u w : Option V), σ = [some (.ref s), some (.int many), some (.int room), some (.int base), some (.ref R), t, u, w] ∧ H' R = some (.lst ((M.map fun x => base + x).map V.int)) ∧ M.Nodup ∧ M.length = i ∧ ∀ x ∈ M, 0 ≤ x ∧ x < room) ⟨k4, S4.so, [], _, _, _, rfl, e4', .nil, rfl, by simp⟩ ?_ ?_⟩
    · rintro i σ H5 hi ⟨k5, so5, M, t, u, w', rfl, eR, nd, hl, hr'⟩
      refine ⟨_, rfl, _, rfl, S, s, _, rfl, so5, by omega, fun H6 x0 k6 so6 x0a x0b => ?_⟩
      have eR6 := k6 _ _ nRs eR
      have mem : ∀ v : Int, base + v ∈ M.map (fun x => base + x) ↔ v ∈ M := fun v => by
        rw [List.mem_map]
        exact ⟨fun ⟨x, hx, e⟩ => by rw [← show x = v by omega]; exact hx, fun h => ⟨v, h, rfl⟩⟩
      refine ⟨_, rfl, _, rfl, by omega, by omega, for_range (n := many.toNat) (fun j σ H' => H' = H6 ∧ ∃ (tv : Option V) (v : Int) (w : Option V), σ = [some (.ref s), some (.int many), some (.int room), some (.int base), some (.ref R), tv, some (.int v), w] ∧ 0 ≤ v ∧ v < room ∧ (v ∉ M ∨ (v = (x0 + (j : Int)) % room ∧ ∀ i' : Nat, i' < j → (x0 + (i' : Int)) % room ∈ M))) ⟨rfl, _, x0, _, rfl, x0a, by omega, .inr ⟨?_, fun i' h => by omega⟩⟩ ?_ ?_⟩
      · rw [show x0 + ((0 : Nat) : Int) = x0 by omega, Int.emod_eq_of_lt x0a (by omega)]
      · rintro j σ H7 hj ⟨rfl, tv, v, w, rfl, v0, v1, hv⟩
        refine ⟨_, rfl, _, rfl, _, _, rfl, rfl, _, rfl, R, _, rfl, .inl (.of eR6), rfl, flat_ints, ?_⟩
        rw [inV_ints]
        refine ⟨_, rfl, ite2 (fun e => ?_) fun e => ?_⟩
        · have hvL : v ∈ M := (mem v).mp (by simpa using e)
          refine ⟨_, rfl, _, _, rfl, rfl, .inl ⟨_, rfl, _, rfl, _, _, rfl, rfl, (show (0 : Int) < room by omega), ?_⟩⟩
          refine ⟨rfl, _, _, _, rfl, Int.emod_nonneg _ (by omega), Int.emod_lt_of_pos _ (by omega), .inr ?_⟩
          rcases hv with hv | ⟨hv1, hv2⟩
          · exact absurd hvL hv
          · refine ⟨?_, fun i' hi' => ?_⟩
            · rw [hv1, Int.emod_add_emod]
              congr 1
              omega
            · rcases Nat.lt_or_eq_of_le (Nat.le_of_lt_succ hi') with h | rfl
              · exact hv2 i' h
              · exact hv1 ▸ hvL
        · have hvL : v ∉ M := fun h => e (decide_eq_true ((mem v).mpr h))
          exact ⟨rfl, _, v, _, rfl, v0, v1, .inl hvL⟩
      · rintro σ H7 ⟨rfl, tv, v, w, rfl, v0, v1, hv⟩
        have hvL : v ∉ M := hv.resolve_right fun h => probe_end (m := many.toNat) h3 (by omega) (by omega) h.2
        refine ⟨_, rfl, .inl ⟨rfl, _, .of eR6⟩, _, rfl, _, rfl, _, _, rfl, rfl, R, _, _, rfl, rfl, eR6, by rw [List.length_map, List.length_map]; omega, ?_⟩
        refine ⟨(k5.trans k6).new nRH, so6.put f4, M ++ [v], _, _, _, rfl, by rw [upd_same, List.map_append, List.map_append]; rfl, List.nodup_append.mpr ⟨nd, by simp, fun a ha b hb => by rw [List.mem_singleton.mp hb]; exact fun z => hvL (z ▸ ha)⟩, by rw [List.length_append, hl]; rfl, fun x hx => ?_⟩
        rcases List.mem_append.mp hx with hx | hx
        · exact hr' x hx
        · rw [List.mem_singleton.mp hx]
          exact ⟨v0, v1⟩
    rintro σ H5 ⟨k5, so5, M, t, u, w', rfl, eR, nd, hl, hr'⟩
    refine ⟨_, rfl, q H5 R _ k5 so5 nRs f4 eR ?_ (by rw [List.length_map]; omega) fun x hx => ?_⟩
    · exact List.pairwise_map.mpr (nd.imp fun h e => h (by omega))
    · obtain ⟨y, hy, rfl⟩ := List.mem_map.mp hx
      have := hr' y hy
      omega


set_option maxHeartbeats 4000000 in
theorem ok_law_named  (F : Fun K "_law_named" "_law_named" s_law_named f fd) (T : Txt w K mg)
    (O_law_pick : Own P w K mg base k "_law_pick" ["store", "things"] (sp_law_pick K))
    (O_law_take : Own P w K mg base k "_law_take" ["store", "many"] (sp_law_take)) : FnOk P w K mg base CX0 (k + 1) f fd ["store", "many"] (sp_law_named K) := by
  refine F.ok sc_law_named (fun vs H Q E h => ?_) (fun cdv A outer s0 H vs Q E hr h => ?_)
  · obtain ⟨S, s, many, rfl, hS, h1, h2, q⟩ := h
    rfl
  · obtain ⟨S, s, many, rfl, hS, h1, h2, q⟩ := h
    refine ⟨_, (pss_cons (ps_set (i := 2) sc_law_named.nd rfl (Or.inl rfl) (pe_slice sl_str pe_str po_none (po_some (pe_own O_law_pick hr (by rfl) (pa_cons (pv 0) (pa_cons (pe_lst (pa_cons pe_int (pa_cons pe_int (pa_cons pe_int (pa_cons pe_int (pa_cons pe_int pa_nil)))))) pa_nil))))))
      (pss_cons (ps_set (i := 3) sc_law_named.nd rfl (Or.inl rfl) (pe_own O_law_take hr (by rfl) (pa_cons (pv 0) (pa_cons pe_int pa_nil))))
      (pss_cons (ps_set (i := 4) sc_law_named.nd rfl (Or.inl rfl) (pe_lst pa_nil))
      (pss_cons (ps_for PassesOwn.never rfl (pi_range1 (by rfl) T.range (pa_cons (pv 1) pa_nil)) (pg_name (i := 5) sc_law_named.nd rfl (Or.inl rfl))
        (pss_cons (ps_set (i := 6) sc_law_named.nd rfl (Or.inl rfl) (pe_own O_law_pick hr (by rfl) (pa_cons (pv 0) (pa_cons pe_str pa_nil))))
        (pss_cons (ps_for PassesOwn.never rfl (pi_range1 (by rfl) T.range (pa_cons (pe_own O_law_take hr (by rfl) (pa_cons (pv 0) (pa_cons (pe_op op_sub pe_int (pe_callB call_len_str (by rfl) T.len PySem.boot_len (pa_cons (pv 2) pa_nil))) pa_nil))) pa_nil)) (pg_name (i := 7) sc_law_named.nd rfl (Or.inl rfl))
          (pss_one (ps_set (i := 6) sc_law_named.nd rfl (Or.inl rfl) (pe_op op_add_str (pv 6) (pe_own O_law_pick hr (by rfl) (pa_cons (pv 0) (pa_cons pe_str pa_nil)))))))
        (C8.pss_cut (ps_if (pt_cmpR op_eq (pv 3) pe_int (nomark _))
          (pss_one (ps_set (i := 6) sc_law_named.nd rfl (Or.inl rfl) (pe_op op_add_str (pv 6) (pv 2))))
          (pss_one (ps_if (pt_cmpR op_ne (pv 2) pe_str (nomark _))
            (pss_one (ps_set (i := 6) sc_law_named.nd rfl (Or.inl rfl) (pe_op op_add_str (pv 2) (pv 6))))
            pss_nil)))
        (pss_cons (ps_for PassesOwn.never rfl (pi_range1 (by rfl) T.range (pa_cons pe_int pa_nil)) (pg_name (i := 8) sc_law_named.nd rfl (Or.inl rfl))
          (pss_one (ps_if (pt_cmpR op_in_seq (pv 6) (pv 4) rfl)
            (pss_one (ps_set (i := 6) sc_law_named.nd rfl (Or.inl rfl) (pe_op op_add_str pe_str (pe_callTy call_str_int (by rfl) T.str (by decide +kernel) (pa_cons (pv 8) pa_nil)))))
            pss_nil)))
        (pss_one (ps_expr (pe_bm PySem.F.plainAttrs_list PySem.F.slot_list_append PySem.F.type_list_append mt_append (pv 4) (pa_cons (pv 6) pa_nil)))))))))
      (pss_one (ps_ret (pv 4))))))), ?_⟩
    have sz : 1000 < sizeLine := by decide
    have app : ∀ (m : List Nat) {l : List Nat}, wordL l = true → (∀ c ∈ m, (isLet c || isDig c) = true) → wordL (l ++ m) = true := fun m => by
      induction m with
      | nil => intro l h1 _; rw [List.append_nil]; exact h1
      | cons c m ih =>
        intro l h1 h2
        rw [show l ++ c :: m = (l ++ [c]) ++ m by rw [List.append_assoc]; rfl]
        exact ih (wordL_snoc h1 (h2 c List.mem_cons_self)) fun x hx => h2 x (List.mem_cons_of_mem _ hx)
    have alls : ∀ {l : List Nat}, wordL l = true → ∀ c ∈ l, (isLet c || isDig c) = true := fun {l} h c hc => by
      cases l with
      | nil => cases hc
      | cons a r =>
        unfold wordL at h
        simp only [Bool.and_eq_true, List.all_eq_true] at h
        rcases List.mem_cons.mp hc with rfl | hc
        · rw [h.1]; rfl
        · exact h.2 c hc
    refine ⟨_, rfl, (by show 5 ≤ sizeLine; decide), fun B nB => ?_⟩
    refine pick_list hS.so nB (by simp) (by show 5 ≤ 1000000; decide) fun H1 b k1 _ so1 hb => ?_
    obtain ⟨i, rfl, hi⟩ : ∃ i : Int, b = .int i ∧ (i = 0 ∨ i = 1 ∨ i = 4 ∨ i = 7) := by
      simp only [List.mem_cons, List.not_mem_nil, or_false] at hb
      rcases hb with rfl | rfl | rfl | rfl | rfl
      · exact ⟨_, rfl, .inl rfl⟩
      · exact ⟨_, rfl, .inl rfl⟩
      · exact ⟨_, rfl, .inr (.inl rfl)⟩
      · exact ⟨_, rfl, .inr (.inr (.inl rfl))⟩
      · exact ⟨_, rfl, .inr (.inr (.inr rfl))⟩
    refine ⟨_, rfl, "a1b2c3d4", rfl, by decide +kernel, ?_⟩
    obtain ⟨st, hst, l7, sa, sw⟩ : ∃ st : Str, cutS "a1b2c3d4" none (some i) = st ∧ st.length ≤ 7 ∧ (∀ c ∈ st.cps.toList, (isLet c || isDig c) = true) ∧ (st ≠ "" → wordL st.cps.toList = true) := by
      rcases hi with rfl | rfl | rfl | rfl
      · exact ⟨"", by decide +kernel, by decide +kernel, by decide +kernel, fun h => absurd rfl h⟩
      · exact ⟨"a", by decide +kernel, by decide +kernel, by decide +kernel, fun _ => by decide +kernel⟩
      · exact ⟨"a1b2", by decide +kernel, by decide +kernel, by decide +kernel, fun _ => by decide +kernel⟩
      · exact ⟨"a1b2c3d", by decide +kernel, by decide +kernel, by decide +kernel, fun _ => by decide +kernel⟩
    rw [hst]
    refine gn_h (σ' := [some (.ref s), some (.int many), some (.str st), none, none, none, none, none, none]) rfl ?_
    dsimp only
    refine ⟨_, rfl, S, s, _, rfl, so1, by decide, fun H2 fr k2 so2 _ _ => ?_⟩
    have k02 := k1.trans k2
    have S2 := hS.keep k02 so2
    refine gn_h (σ' := [some (.ref s), some (.int many), some (.str st), some (.int fr), none, none, none, none, none]) rfl ?_
    dsimp only
    refine ⟨(by show 0 ≤ sizeLine; decide), fun R nR => ?_⟩
    obtain ⟨H3, e3, S3, k3, sm3, e3', f3, nRs⟩ := fresh (.lst []) S2 k02 nR
    rw [e3]
    clear e3
    have nRH : H R = none := k02.free nRs nR
    refine gn_h (σ' := [some (.ref s), some (.int many), some (.str st), some (.int fr), some (.ref R), none, none, none, none]) rfl ?_
    dsimp only
    refine ⟨_, rfl, _, rfl, by omega, by omega, for_range (n := many.toNat) (fun i σ H' => Keep s H H' ∧ SO S s H' ∧ ∃ (L : List Str) (t u v w : Option V), σ = [some (.ref s), some (.int many), some (.str st), some (.int fr), some (.ref R), t, u, v, w] ∧ H' R = some (.lst (L.map V.str)) ∧ L.Nodup ∧ L.length = i ∧ ∀ z ∈ L, nameL z.cps.toList = true ∧ z.length ≤ 8) ⟨k3, S3.so, [], _, _, _, _, rfl, e3', .nil, rfl, by simp⟩ ?_ ?_⟩
    · rintro i σ H4 hi ⟨k4, so4, L, t, u, v, w, rfl, eR, nd, hl, hr'⟩
      refine gn_h (σ' := [some (.ref s), some (.int many), some (.str st), some (.int fr), some (.ref R), some (.int (0 + (i : Int))), u, v, w]) rfl ?_
      dsimp only
      refine ⟨_, rfl, ?_⟩
      refine pick_str so4 (by decide) (by decide) fun H5 c k5 so5 hc => ?_
      refine gn_h (σ' := [some (.ref s), some (.int many), some (.str st), some (.int fr), some (.ref R), some (.int (0 + (i : Int))), some (.str ⟨#[c]⟩), v, w]) rfl ?_
      dsimp only
      have c1 : wordL [c] = true := by
        have : ∀ c ∈ ("abcdefghijklmnopqrstuvwxyz" : Str).cps.toList, wordL [c] = true := by decide +kernel
        exact this c (by simpa using hc)
      refine ⟨_, rfl, _, rfl, st, rfl, Nat.le_trans (show st.length ≤ 1000 by omega) (Nat.le_of_lt sz), _, _, rfl, rfl, S, s, _, rfl, so5, by omega, fun H6 r k6 so6 r0 r1 => ?_⟩
      obtain ⟨r, rfl⟩ : ∃ h : Nat, r = (h : Int) := ⟨r.toNat, by omega⟩
      refine ⟨_, rfl, by omega, by omega, for_range (n := r) (fun j σ H' => Keep s H6 H' ∧ SO S s H' ∧ ∃ (nm : Str) (v w : Option V), σ = [some (.ref s), some (.int many), some (.str st), some (.int fr), some (.ref R), some (.int (0 + (i : Int))), some (.str nm), v, w] ∧ wordL nm.cps.toList = true ∧ nm.length = 1 + j) ⟨.refl _ _, so6, _, _, _, rfl, c1, rfl⟩ ?_ ?_⟩
      · rintro j σ H7 hj ⟨k7, so7, nm, v, w, rfl, wn, ln⟩
        refine ⟨_, rfl, _, rfl, ?_⟩
        refine pick_str so7 (by decide) (by decide) fun H8 e k8 so8 he => ?_
        have se : (isLet e || isDig e) = true := by
          have : ∀ c ∈ ("abcdefghijklmnopqrstuvwxyz0123456789" : Str).cps.toList, (isLet c || isDig c) = true := by decide +kernel
          exact this e (by simpa using he)
        refine ⟨_, _, rfl, rfl, Nat.le_trans (show nm.length + 1 ≤ 1000 by omega) (Nat.le_of_lt sz), ?_⟩
        refine ⟨k7.trans k8, so8, _, _, _, rfl, ?_, ?_⟩
        · rw [str_app_list]
          exact wordL_snoc wn se
        · show (nm ++ (⟨#[e]⟩ : Str)).cps.toList.length = _
          rw [str_app_list, List.length_append]
          show nm.length + 1 = _
          omega
      rintro σ H7 ⟨k7, so7, nm, v, w, rfl, wn, ln⟩
      have l8 : nm.length + st.length ≤ 8 := by omega
      have ll : ∀ {a b : Str}, (a ++ b).length = a.length + b.length := fun {a b} => by
        show (a ++ b).cps.toList.length = _
        rw [str_app_list, List.length_append]
        rfl
      have nmo : ∀ {z : Str}, wordL z.cps.toList = true → 1 ≤ z.length → z.length ≤ 8 → nameL z.cps.toList = true ∧ z.length ≤ 8 := fun {z} h1 h2 h3 => ⟨by
        rw [nameL_eq h2, h1, Bool.true_and]
        exact decide_eq_true h3, h3⟩
      refine ⟨fun σ' H' => H' = H7 ∧ ∃ z : Str, σ' = [some (.ref s), some (.int many), some (.str st), some (.int fr), some (.ref R), some (.int (0 + (i : Int))), some (.str z), v, w] ∧ nameL z.cps.toList = true ∧ z.length ≤ 8, ?_, ?_⟩
      · refine ifs_h ?_
        refine ⟨_, rfl, rfl, _, rfl, ite2 (fun _ => ?_) fun _ => ?_⟩
        · refine ⟨_, rfl, _, rfl, _, _, rfl, rfl, Nat.le_trans (show nm.length + st.length ≤ 1000 by omega) (Nat.le_of_lt sz), rfl, _, rfl, nmo ?_ ?_ ?_⟩
          · rw [str_app_list]
            exact app _ wn sa
          · rw [ll]
            omega
          · rw [ll]
            omega
        refine ifs_h ?_
        refine ⟨_, rfl, rfl, _, rfl, ite2 (fun e => ?_) fun _ => ?_⟩
        · have ne : st ≠ "" := fun h => by
            rw [h] at e
            exact absurd e (by decide +kernel)
          refine ⟨_, rfl, _, rfl, _, _, rfl, rfl, Nat.le_trans (show st.length + nm.length ≤ 1000 by omega) (Nat.le_of_lt sz), rfl, _, rfl, nmo ?_ ?_ ?_⟩
          · rw [str_app_list]
            exact app _ (sw ne) (alls wn)
          · rw [ll]
            omega
          · rw [ll]
            omega
        exact ⟨rfl, _, rfl, nmo wn (by omega) (by omega)⟩
      rintro σ' H' ⟨rfl, z0, rfl, z1, z2⟩
      have k47 := (k5.trans k6).trans k7
      have eR4 := k47 _ _ nRs eR
      refine ⟨13, rfl, by decide, by decide, for_range (n := 13) (fun j σ H8 => H8 = H' ∧ ∃ (z : Str) (w : Option V), σ = [some (.ref s), some (.int many), some (.str st), some (.int fr), some (.ref R), some (.int (0 + (i : Int))), some (.str z), v, w] ∧ nameL z.cps.toList = true ∧ z.length ≤ 8 ∧ (z ∉ L ∨ ((∀ i' : Nat, i' + 1 < j → knS i' ∈ L) ∧ (1 ≤ j → z = knS (j - 1))))) ⟨rfl, z0, _, rfl, z1, z2, .inr ⟨fun i' h => by omega, fun h => by omega⟩⟩ ?_ ?_⟩
      · rintro j σ H8 hj ⟨rfl, z, w, rfl, hz1, hz2, hz⟩
        refine ⟨_, rfl, _, rfl, R, _, rfl, .inl (.of eR4), rfl, flat_strs, ?_⟩
        rw [inV_strs]
        refine ⟨_, rfl, ite2 (fun e => ?_) fun e => ?_⟩
        · have hzL : z ∈ L := by simpa using e
          refine ⟨_, rfl, _, rfl, ?_, _, _, rfl, rfl, ?_, ?_⟩
          · exact (knS_small (by omega)).1
          · exact Nat.le_trans (knS_small (by omega)).2.1 (Nat.le_of_lt sz)
          · refine ⟨rfl, knS j, some (.int (0 + (j : Int))), ?_, (knS_ok (by omega)).1, (knS_ok (by omega)).2, .inr ⟨fun i' hi' => ?_, fun _ => rfl⟩⟩
            · rw [(knS_small (by omega)).2.2]
              rfl
            · rcases hz with hz | ⟨hz3, hz4⟩
              · exact absurd hzL hz
              · by_cases c : i' + 1 < j
                · exact hz3 i' c
                · have e2 : i' = j - 1 := by omega
                  rw [e2, ← hz4 (by omega)]
                  exact hzL
        · have hzL : z ∉ L := by simpa using e
          exact ⟨rfl, z, _, rfl, hz1, hz2, .inl hzL⟩
      · rintro σ H8 ⟨rfl, z, w, rfl, hz1, hz2, hz⟩
        have hzL : z ∉ L := fun hzm => by
          rcases hz with hz | h
          · exact hz hzm
          have h12 : z = knS 12 := h.2 (by decide)
          have := nodup_le (show ((List.range 13).map knS).Nodup by decide +kernel) (M := L) fun k hk => by
            obtain ⟨i, hi, rfl⟩ := List.mem_map.mp hk
            have hi := List.mem_range.mp hi
            by_cases c : i + 1 < 13
            · exact h.1 i c
            · rw [show i = 12 by omega, ← h12]
              exact hzm
          rw [List.length_map, List.length_range] at this
          omega
        refine ⟨_, rfl, .inl ⟨rfl, _, .of eR4⟩, _, rfl, R, _, _, rfl, rfl, eR4, by rw [List.length_map]; omega, ?_⟩
        refine ⟨(k4.trans k47).new nRH, so7.put f3, L ++ [z], _, _, _, _, rfl, by rw [upd_same, List.map_append]; rfl, List.nodup_append.mpr ⟨nd, by simp, fun a ha b hb => by rw [List.mem_singleton.mp hb]; exact fun e => hzL (e ▸ ha)⟩, by rw [List.length_append, hl]; rfl, fun x hx => ?_⟩
        rcases List.mem_append.mp hx with hx | hx
        · exact hr' x hx
        · rw [List.mem_singleton.mp hx]
          exact ⟨hz1, hz2⟩
    rintro σ H4 ⟨k4, so4, L, t, u, v, w, rfl, eR, nd, hl, hr'⟩
    exact ⟨_, rfl, q H4 R L k4 so4 nRs f3 eR nd (by omega) hr'⟩


set_option maxHeartbeats 4000000 in
theorem ok_law_size  (F : Fun K "_law_size" "_law_size" s_law_size f fd) (T : Txt w K mg)
    (O_law_take : Own P w K mg base k "_law_take" ["store", "many"] (sp_law_take))
    (O_law_pick : Own P w K mg base k "_law_pick" ["store", "things"] (sp_law_pick K)) : FnOk P w K mg base CX0 (k + 1) f fd ["store"] (sp_law_size K) := by
  refine F.ok sc_law_size (fun vs H Q E h => ?_) (fun cdv A outer s0 H vs Q E hr h => ?_)
  · obtain ⟨S, s, rfl, hS, q⟩ := h
    rfl
  · obtain ⟨S, s, rfl, hS, q⟩ := h
    refine ⟨_, (pss_cons (ps_set (i := 1) sc_law_size.nd rfl (Or.inl rfl) (pe_own O_law_take hr (by rfl) (pa_cons (pv 0) (pa_cons pe_int pa_nil))))
      (pss_cons (ps_if (pt_cmpR op_eq (pv 1) pe_int (nomark _))
        (pss_one (ps_ret (pe_own O_law_pick hr (by rfl) (pa_cons (pv 0) (pa_cons (pe_lst (pa_cons (pe_lst (pa_cons pe_int (pa_cons pe_int pa_nil))) (pa_cons (pe_lst (pa_cons pe_int (pa_cons pe_int pa_nil))) (pa_cons (pe_lst (pa_cons pe_int (pa_cons pe_int pa_nil))) (pa_cons (pe_lst (pa_cons pe_int (pa_cons pe_int pa_nil))) (pa_cons (pe_lst (pa_cons pe_int (pa_cons pe_int pa_nil))) pa_nil)))))) pa_nil)))))
        pss_nil)
      (pss_cons (ps_if (pt_cmpR op_eq (pv 1) pe_int (nomark _))
        (pss_one (ps_ret (pe_lst (pa_cons (pe_op op_add pe_int (pe_own O_law_take hr (by rfl) (pa_cons (pv 0) (pa_cons pe_int pa_nil)))) (pa_cons (pe_own O_law_take hr (by rfl) (pa_cons (pv 0) (pa_cons pe_int pa_nil))) pa_nil)))))
        pss_nil)
      (pss_cons (ps_if (pt_cmpR op_lt (pv 1) pe_int (nomark _))
        (pss_one (ps_ret (pe_own O_law_pick hr (by rfl) (pa_cons (pv 0) (pa_cons (pe_lst (pa_cons (pe_lst (pa_cons pe_int (pa_cons pe_int pa_nil))) (pa_cons (pe_lst (pa_cons pe_int (pa_cons pe_int pa_nil))) (pa_cons (pe_lst (pa_cons pe_int (pa_cons pe_int pa_nil))) (pa_cons (pe_lst (pa_cons pe_int (pa_cons pe_int pa_nil))) (pa_cons (pe_lst (pa_cons pe_int (pa_cons pe_int pa_nil))) pa_nil)))))) pa_nil)))))
        pss_nil)
      (pss_one (ps_ret (pe_lst (pa_cons (pe_op op_add pe_int (pe_own O_law_take hr (by rfl) (pa_cons (pv 0) (pa_cons pe_int pa_nil)))) (pa_cons (pe_own O_law_take hr (by rfl) (pa_cons (pv 0) (pa_cons pe_int pa_nil))) pa_nil))))))))), ?_⟩
    have sz : 1000 < sizeLine := by decide
    refine ⟨_, rfl, S, s, _, rfl, hS.so, by decide, fun H1 r k1 so1 r0 r1 => ?_⟩
    have S1 := hS.keep k1 so1
    refine gn_h (σ' := [some (.ref s), some (.int r)]) rfl ?_
    dsimp only
    refine seq_ifs_h ?_
    refine ⟨_, rfl, rfl, _, rfl, ?_⟩
    by_cases c0 : r = 0
    · rw [decide_eq_true (congrArg V.int c0)]
      refine ite2 (fun _ => ?_) fun e => absurd rfl e
      refine ret_h ?_
      refine ⟨_, rfl, (by show 2 ≤ sizeLine; decide), fun T1 f1 => ?_⟩
      obtain ⟨G1, z1, S1_, k1_, sm1, e1, _, ne1⟩ := fresh (.lst [.int 12, .int 8]) S1 k1 f1
      rw [z1]
      clear z1
      refine ⟨(by show 2 ≤ sizeLine; decide), fun T2 f2 => ?_⟩
      obtain ⟨G2, z2, S2_, k2_, sm2, e2, _, ne2⟩ := fresh (.lst [.int 12, .int 0]) S1_ k1_ f2
      rw [z2]
      clear z2
      refine ⟨(by show 2 ≤ sizeLine; decide), fun T3 f3 => ?_⟩
      obtain ⟨G3, z3, S3_, k3_, sm3, e3, _, ne3⟩ := fresh (.lst [.int 2, .int 8]) S2_ k2_ f3
      rw [z3]
      clear z3
      refine ⟨(by show 2 ≤ sizeLine; decide), fun T4 f4 => ?_⟩
      obtain ⟨G4, z4, S4_, k4_, sm4, e4, _, ne4⟩ := fresh (.lst [.int 7, .int 5]) S3_ k3_ f4
      rw [z4]
      clear z4
      refine ⟨(by show 2 ≤ sizeLine; decide), fun T5 f5 => ?_⟩
      obtain ⟨G5, z5, S5_, k5_, sm5, e5, _, ne5⟩ := fresh (.lst [.int 12, .int 3]) S4_ k4_ f5
      rw [z5]
      clear z5
      refine ⟨(by show 5 ≤ sizeLine; decide), fun P nP => ?_⟩
      refine pick_list S5_.so nP (by simp) (by show 5 ≤ 1000000; decide) fun H9 v kk kl so9 hv => ?_
      have sP := same_new (o := .lst [.ref T1, .ref T2, .ref T3, .ref T4, .ref T5]) (Same.refl G5) nP
      have k9 := k5_.trans kk
      simp only [List.mem_cons, List.not_mem_nil, or_false] at hv
      rcases hv with rfl | rfl | rfl | rfl | rfl
      · exact q _ _ 12 8 k9 so9 ne1 (kk _ _ ne1 (sm5 _ _ (sm4 _ _ (sm3 _ _ (sm2 _ _ e1))))) (by decide) (by decide) (by decide)
      · exact q _ _ 12 0 k9 so9 ne2 (kk _ _ ne2 (sm5 _ _ (sm4 _ _ (sm3 _ _ e2)))) (by decide) (by decide) (by decide)
      · exact q _ _ 2 8 k9 so9 ne3 (kk _ _ ne3 (sm5 _ _ (sm4 _ _ e3))) (by decide) (by decide) (by decide)
      · exact q _ _ 7 5 k9 so9 ne4 (kk _ _ ne4 (sm5 _ _ e4)) (by decide) (by decide) (by decide)
      · exact q _ _ 12 3 k9 so9 ne5 (kk _ _ ne5 e5) (by decide) (by decide) (by decide)
    rw [decide_eq_false fun e => c0 (V.int.inj e)]
    refine ite2 (fun e => absurd e (by decide)) fun _ => ?_
    refine next_h ?_
    dsimp only
    refine seq_ifs_h ?_
    refine ⟨_, rfl, rfl, _, rfl, ?_⟩
    by_cases c1 : r = 1
    · rw [decide_eq_true (congrArg V.int c1)]
      refine ite2 (fun _ => ?_) fun e => absurd rfl e
      refine ret_h ?_
      refine ⟨_, rfl, S, s, _, rfl, so1, by decide, fun H2 a k2 so2 a0 a1 => ⟨_, _, rfl, rfl, _, rfl, S, s, _, rfl, so2, by decide, fun H3 b k3 so3 b0 b1 => ?_⟩⟩
      refine ⟨(by show 2 ≤ sizeLine; decide), fun P nP => ?_⟩
      obtain ⟨a, rfl⟩ : ∃ h : Nat, a = (h : Int) := ⟨a.toNat, by omega⟩
      obtain ⟨b, rfl⟩ : ∃ h : Nat, b = (h : Int) := ⟨b.toNat, by omega⟩
      have k03 := (k1.trans k2).trans k3
      obtain ⟨G, z, SG, kG, _, eG, _, nG⟩ := fresh (.lst [.int (1 + (a : Int)), .int (b : Int)]) (hS.keep k03 so3) k03 nP
      rw [z]
      exact q G P (1 + a) b kG SG.so nG eG (by omega) (by omega) (by omega)
    rw [decide_eq_false fun e => c1 (V.int.inj e)]
    refine ite2 (fun e => absurd e (by decide)) fun _ => ?_
    refine next_h ?_
    dsimp only
    refine seq_ifs_h ?_
    refine ⟨_, rfl, _, _, rfl, rfl, _, rfl, ?_⟩
    by_cases c2 : r < 6
    · rw [decide_eq_true c2]
      refine ite2 (fun _ => ?_) fun e => absurd rfl e
      refine ret_h ?_
      refine ⟨_, rfl, (by show 2 ≤ sizeLine; decide), fun T1 f1 => ?_⟩
      obtain ⟨G1, z1, S1_, k1_, sm1, e1, _, ne1⟩ := fresh (.lst [.int 1, .int 0]) S1 k1 f1
      rw [z1]
      clear z1
      refine ⟨(by show 2 ≤ sizeLine; decide), fun T2 f2 => ?_⟩
      obtain ⟨G2, z2, S2_, k2_, sm2, e2, _, ne2⟩ := fresh (.lst [.int 2, .int 0]) S1_ k1_ f2
      rw [z2]
      clear z2
      refine ⟨(by show 2 ≤ sizeLine; decide), fun T3 f3 => ?_⟩
      obtain ⟨G3, z3, S3_, k3_, sm3, e3, _, ne3⟩ := fresh (.lst [.int 2, .int 1]) S2_ k2_ f3
      rw [z3]
      clear z3
      refine ⟨(by show 2 ≤ sizeLine; decide), fun T4 f4 => ?_⟩
      obtain ⟨G4, z4, S4_, k4_, sm4, e4, _, ne4⟩ := fresh (.lst [.int 2, .int 2]) S3_ k3_ f4
      rw [z4]
      clear z4
      refine ⟨(by show 2 ≤ sizeLine; decide), fun T5 f5 => ?_⟩
      obtain ⟨G5, z5, S5_, k5_, sm5, e5, _, ne5⟩ := fresh (.lst [.int 1, .int 3]) S4_ k4_ f5
      rw [z5]
      clear z5
      refine ⟨(by show 5 ≤ sizeLine; decide), fun P nP => ?_⟩
      refine pick_list S5_.so nP (by simp) (by show 5 ≤ 1000000; decide) fun H9 v kk kl so9 hv => ?_
      have sP := same_new (o := .lst [.ref T1, .ref T2, .ref T3, .ref T4, .ref T5]) (Same.refl G5) nP
      have k9 := k5_.trans kk
      simp only [List.mem_cons, List.not_mem_nil, or_false] at hv
      rcases hv with rfl | rfl | rfl | rfl | rfl
      · exact q _ _ 1 0 k9 so9 ne1 (kk _ _ ne1 (sm5 _ _ (sm4 _ _ (sm3 _ _ (sm2 _ _ e1))))) (by decide) (by decide) (by decide)
      · exact q _ _ 2 0 k9 so9 ne2 (kk _ _ ne2 (sm5 _ _ (sm4 _ _ (sm3 _ _ e2)))) (by decide) (by decide) (by decide)
      · exact q _ _ 2 1 k9 so9 ne3 (kk _ _ ne3 (sm5 _ _ (sm4 _ _ e3))) (by decide) (by decide) (by decide)
      · exact q _ _ 2 2 k9 so9 ne4 (kk _ _ ne4 (sm5 _ _ e4)) (by decide) (by decide) (by decide)
      · exact q _ _ 1 3 k9 so9 ne5 (kk _ _ ne5 e5) (by decide) (by decide) (by decide)
    rw [decide_eq_false c2]
    refine ite2 (fun e => absurd e (by decide)) fun _ => ?_
    refine next_h ?_
    dsimp only
    refine ret_h ?_
    refine ⟨_, rfl, S, s, _, rfl, so1, by decide, fun H2 a k2 so2 a0 a1 => ⟨_, _, rfl, rfl, _, rfl, S, s, _, rfl, so2, by decide, fun H3 b k3 so3 b0 b1 => ?_⟩⟩
    refine ⟨(by show 2 ≤ sizeLine; decide), fun P nP => ?_⟩
    obtain ⟨a, rfl⟩ : ∃ h : Nat, a = (h : Int) := ⟨a.toNat, by omega⟩
    obtain ⟨b, rfl⟩ : ∃ h : Nat, b = (h : Int) := ⟨b.toNat, by omega⟩
    have k03 := (k1.trans k2).trans k3
    obtain ⟨G, z, SG, kG, _, eG, _, nG⟩ := fresh (.lst [.int (2 + (a : Int)), .int (b : Int)]) (hS.keep k03 so3) k03 nP
    rw [z]
    exact q G P (2 + a) b kG SG.so nG eG (by omega) (by omega) (by omega)


set_option maxHeartbeats 4000000 in
theorem ok_law_woven  (F : Fun K "_law_woven" "_law_woven" s_law_woven f fd) (T : Txt w K mg)
    (O_law_spots : Own P w K mg base k "_law_spots" ["store", "many"] (sp_law_spots K))
    (O_law_take : Own P w K mg base k "_law_take" ["store", "many"] (sp_law_take)) : FnOk P w K mg base CX0 (k + 1) f fd ["store", "names", "mixings"] (sp_law_woven K) := by
  refine F.ok sc_law_woven (fun vs H Q E h => ?_) (fun cdv A outer s0 H vs Q E hr h => ?_)
  · obtain ⟨S, s, a, ns, m, rfl, hS, nas, ea, hn1, hn2, hm, hnd, hw, q⟩ := h
    rfl
  · obtain ⟨S, s, a, ns, m, rfl, hS, nas, ea, hn1, hn2, hm, hnd, hw, q⟩ := h
    refine ⟨_, (pss_cons (ps_set (i := 3) sc_law_woven.nd rfl (Or.inr rfl) (pe_own O_law_spots hr (by rfl) (pa_cons (pv 0) (pa_cons (pe_op op_add (pe_op op_mul pe_int (pe_callB call_len_seq (by rfl) T.len PySem.boot_len (pa_cons (pv 1) pa_nil))) (pe_op op_mul pe_int (pv 2))) pa_nil))))
      (pss_cons (ps_setLc (i := 4) (own := [("k", 15)]) (by rfl) sc_law_woven.nd rfl rfl (sw_true rfl rfl rfl (by decide +kernel)) (pi_range1 (by rfl) T.range (pa_cons (pe_callB call_len_seq (by rfl) T.len PySem.boot_len (pa_cons (pv 1) pa_nil)) pa_nil)) (blkOk_by (own := [("k", 15)]) (N := ["store", "names", "mixings", "spots", "leaves", "lines", "arrows", "crowned", "turn", "how", "twin", "end", "new", "other", "others", "k", "leaf", "line"]) (sc := defScope s_law_woven) (by decide +kernel)) (fun _ _ _ _ _ => pg_name (i := 15) sc_law_woven.nd rfl (Or.inl rfl)) (fun _ _ _ _ _ => pts_nil) (fun _ _ _ _ _ => (pe_tup (pa_cons (pe_ix (ix_listK K rfl) (pv 3) (pv 15) (fun _ _ => rfl)) (pa_cons (pe_ix (ix_listK K rfl) (pv 1) (pv 15) (fun _ _ => rfl)) pa_nil)))))
      (pss_cons (ps_set (i := 3) sc_law_woven.nd rfl (Or.inr rfl) (pe_slice sl_list (pv 3) (po_some (pe_callB call_len_seq (by rfl) T.len PySem.boot_len (pa_cons (pv 1) pa_nil))) po_none))
      (pss_cons (ps_setLc (i := 5) (own := [("leaf", 16)]) (by rfl) sc_law_woven.nd rfl rfl (sw_true rfl rfl rfl (by decide +kernel)) (pi_list (pv 4)) (blkOk_by (own := [("leaf", 16)]) (N := ["store", "names", "mixings", "spots", "leaves", "lines", "arrows", "crowned", "turn", "how", "twin", "end", "new", "other", "others", "k", "leaf", "line"]) (sc := defScope s_law_woven) (by decide +kernel)) (fun _ _ _ _ _ => pg_name (i := 16) sc_law_woven.nd rfl (Or.inl rfl)) (fun _ _ _ _ _ => pts_nil) (fun _ _ _ _ _ => (pe_ix (ix_tupK K rfl) (pv 16) pe_int (fun _ _ => rfl))))
      (pss_cons (ps_set (i := 6) sc_law_woven.nd rfl (Or.inl rfl) (pe_lst pa_nil))
      (pss_cons (ps_set (i := 7) sc_law_woven.nd rfl (Or.inl rfl) (pe_lst pa_nil))
      (C8.pss_cut (ps_for PassesOwn.never rfl (pi_range1 (by rfl) T.range (pa_cons pe_int pa_nil)) (pg_name (i := 8) sc_law_woven.nd rfl (Or.inl rfl))
        (C8.pss_cut (ps_if (PW.pt (pw_and (pt_cmpR op_eq (pe_callB call_len_seq (by rfl) T.len PySem.boot_len (pa_cons (pv 5) pa_nil)) pe_int (nomark _)) (pw_and1 (PW.pt (pw_or (pt_cmpR op_lt (pv 2) pe_int (nomark _)) (pw_or1 (pt_cmpR op_eq (pe_own O_law_take hr (by rfl) (pa_cons (pv 0) (pa_cons pe_int pa_nil))) pe_int (nomark _))))))))
          (pss_one ps_break)
          pss_nil)
        (pss_cons (ps_set (i := 9) sc_law_woven.nd rfl (Or.inl rfl) (pe_own O_law_take hr (by rfl) (pa_cons (pv 0) (pa_cons pe_int pa_nil))))
        (C8.pss_cut (ps_set (i := 10) sc_law_woven.nd rfl (Or.inl rfl) (pe_and (pe_cmpR op_eq (pe_callB call_len_seq (by rfl) T.len PySem.boot_len (pa_cons (pv 5) pa_nil)) pe_int (nomark _)) (pe_one (pe_cmpR op_eq (pe_ix ix_list (pv 5) pe_int (fun _ _ => rfl)) (pe_ix ix_list (pv 5) pe_int (fun _ _ => rfl)) (nomark _)))))
        (pss_cons (ps_set (i := 11) sc_law_woven.nd rfl (Or.inr rfl) (pe_bm PySem.F.plainAttrs_list PySem.F.slot_list_pop PySem.F.type_list_pop mt_popAt (pv 5) (pa_cons (pe_own O_law_take hr (by rfl) (pa_cons (pv 0) (pa_cons (pe_callB call_len_seq (by rfl) T.len PySem.boot_len (pa_cons (pv 5) pa_nil)) pa_nil))) pa_nil)))
        (pss_cons (ps_set (i := 12) sc_law_woven.nd rfl (Or.inl rfl) (pe_slice sl_list (pv 3) po_none (po_some pe_int)))
        (C8.pss_cut (ps_if (PW.pt (pw_and (pt_cmpR op_eq (pv 9) pe_int (nomark _)) (pw_and (pt_cmpR op_gt (pv 2) pe_int (nomark _)) (pw_and1 (pt_cmpR op_gt (pe_callB call_len_seq (by rfl) T.len PySem.boot_len (pa_cons (pv 5) pa_nil)) pe_int (nomark _))))))
          (pss_cons (ps_set (i := 13) sc_law_woven.nd rfl (Or.inl rfl) (pe_bm PySem.F.plainAttrs_list PySem.F.slot_list_pop PySem.F.type_list_pop mt_popAt (pv 5) (pa_cons (pe_own O_law_take hr (by rfl) (pa_cons (pv 0) (pa_cons (pe_callB call_len_seq (by rfl) T.len PySem.boot_len (pa_cons (pv 5) pa_nil)) pa_nil))) pa_nil)))
          (pss_cons (ps_set (i := 6) sc_law_woven.nd rfl (Or.inl rfl) (pe_op op_cat (pv 6) (pe_lst (pa_cons (pe_tup (pa_cons (pe_ix ix_list (pv 12) pe_int (fun _ _ => rfl)) (pa_cons (pe_ix ix_list (pv 12) pe_int (fun _ _ => rfl)) pa_nil))) (pa_cons (pe_tup (pa_cons (pe_ix ix_list (pv 12) pe_int (fun _ _ => rfl)) (pa_cons (pe_ix ix_list (pv 12) pe_int (fun _ _ => rfl)) pa_nil))) (pa_cons (pe_tup (pa_cons (pe_ix ix_list (pv 12) pe_int (fun _ _ => rfl)) (pa_cons (pe_ix ix_list (pv 12) pe_int (fun _ _ => rfl)) pa_nil))) (pa_cons (pe_tup (pa_cons (pe_ix ix_list (pv 12) pe_int (fun _ _ => rfl)) (pa_cons (pe_ix ix_list (pv 12) pe_int (fun _ _ => rfl)) pa_nil))) pa_nil)))))))
          (pss_cons (ps_set (i := 6) sc_law_woven.nd rfl (Or.inl rfl) (pe_op op_cat (pv 6) (pe_lst (pa_cons (pe_tup (pa_cons (pe_ix ix_list (pv 12) pe_int (fun _ _ => rfl)) (pa_cons (pv 11) pa_nil))) (pa_cons (pe_tup (pa_cons (pe_ix ix_list (pv 12) pe_int (fun _ _ => rfl)) (pa_cons (pv 13) pa_nil))) pa_nil)))))
          (pss_cons (ps_set (i := 5) sc_law_woven.nd rfl (Or.inl rfl) (pe_op op_cat (pv 5) (pe_slice sl_list (pv 12) po_none (po_some pe_int))))
          (pss_cons (ps_set (i := 7) sc_law_woven.nd rfl (Or.inl rfl) (pe_op op_cat (pv 7) (pe_lst (pa_cons (pe_callB cr_sorted (by rfl) T.sorted (by decide +kernel) (pa_cons (pv 12) pa_nil)) pa_nil))))
          (pss_one (ps_set (i := 2) sc_law_woven.nd rfl (Or.inl rfl) (pe_op op_sub (pv 2) pe_int))))))))
          (pss_one (ps_if (PW.pt (pw_and (pt_cmpR op_eq (pv 9) pe_int (nomark _)) (pw_and1 (pt_cmpR op_gt (pv 2) pe_int (nomark _)))))
            (pss_cons (ps_set (i := 12) sc_law_woven.nd rfl (Or.inl rfl) (pe_slice sl_list (pv 3) po_none (po_some pe_int)))
            (pss_cons (ps_set (i := 6) sc_law_woven.nd rfl (Or.inl rfl) (pe_op op_cat (pv 6) (pe_lst (pa_cons (pe_tup (pa_cons (pe_ix ix_list (pv 12) pe_int (fun _ _ => rfl)) (pa_cons (pv 11) pa_nil))) (pa_cons (pe_tup (pa_cons (pe_ix ix_list (pv 12) pe_int (fun _ _ => rfl)) (pa_cons (pe_ix ix_list (pv 12) pe_int (fun _ _ => rfl)) pa_nil))) (pa_cons (pe_tup (pa_cons (pe_ix ix_list (pv 12) pe_int (fun _ _ => rfl)) (pa_cons (pe_ix ix_list (pv 12) pe_int (fun _ _ => rfl)) pa_nil))) pa_nil))))))
            (pss_cons (ps_set (i := 5) sc_law_woven.nd rfl (Or.inl rfl) (pe_op op_cat (pv 5) (pe_lst (pa_cons (pe_ix ix_list (pv 12) pe_int (fun _ _ => rfl)) (pa_cons (pe_ix ix_list (pv 12) pe_int (fun _ _ => rfl)) (pa_cons (pe_ix ix_list (pv 12) pe_int (fun _ _ => rfl)) (pa_cons (pe_ix ix_list (pv 12) pe_int (fun _ _ => rfl)) pa_nil)))))))
            (pss_one (ps_set (i := 2) sc_law_woven.nd rfl (Or.inl rfl) (pe_op op_sub (pv 2) pe_int))))))
            (pss_cons (ps_set (i := 12) sc_law_woven.nd rfl (Or.inl rfl) (pe_slice sl_list (pv 3) po_none (po_some pe_int)))
            (pss_cons (ps_expr (pe_bm PySem.F.plainAttrs_list PySem.F.slot_list_append PySem.F.type_list_append mt_append (pv 6) (pa_cons (pe_tup (pa_cons (pe_ix ix_list (pv 12) pe_int (fun _ _ => rfl)) (pa_cons (pv 11) pa_nil))) pa_nil)))
            (pss_one (ps_if (PW.pt (pw_or (pt_cmpR op_eq (pe_callB call_len_seq (by rfl) T.len PySem.boot_len (pa_cons (pv 5) pa_nil)) pe_int (nomark _)) (pw_or (pt_val (pv 10)) (pw_or1 (PW.pt (pw_and (pt_cmpR op_lt (pv 9) pe_int (nomark _)) (pw_and1 (pt_cmpR op_gt (pv 2) pe_int (nomark _)))))))))
              (pss_cons (ps_set (i := 5) sc_law_woven.nd rfl (Or.inl rfl) (pe_op op_cat (pv 5) (pe_lst (pa_cons (pe_ix ix_list (pv 12) pe_int (fun _ _ => rfl)) (pa_cons (pe_ix ix_list (pv 12) pe_int (fun _ _ => rfl)) pa_nil)))))
              (pss_one (ps_set (i := 2) sc_law_woven.nd rfl (Or.inl rfl) (pe_op op_sub (pv 2) pe_int))))
              (pss_cons (ps_setLc (i := 14) (own := [("line", 17)]) (by rfl) sc_law_woven.nd rfl rfl (sw_true rfl rfl rfl (by decide +kernel)) (pi_list (pv 5)) (blkOk_by (own := [("line", 17)]) (N := ["store", "names", "mixings", "spots", "leaves", "lines", "arrows", "crowned", "turn", "how", "twin", "end", "new", "other", "others", "k", "leaf", "line"]) (sc := defScope s_law_woven) (by decide +kernel)) (fun _ _ _ _ _ => pg_name (i := 17) sc_law_woven.nd rfl (Or.inl rfl)) (fun _ _ _ _ _ => (pts_one (pt_cmpR op_ne (pv 17) (pv 11) (nomark _)))) (fun _ _ _ _ _ => (pv 17)))
              (pss_cons (ps_set (i := 13) sc_law_woven.nd rfl (Or.inl rfl) (pe_ix ix_list (pv 14) (pe_own O_law_take hr (by rfl) (pa_cons (pv 0) (pa_cons (pe_callB call_len_seq (by rfl) T.len PySem.boot_len (pa_cons (pv 14) pa_nil)) pa_nil))) (fun _ _ => rfl)))
              (pss_cons (ps_expr (pe_bm PySem.F.plainAttrs_list PySem.F.slot_list_remove PySem.F.type_list_remove mt_remove (pv 5) (pa_cons (pv 13) pa_nil)))
              (pss_cons (ps_expr (pe_bm PySem.F.plainAttrs_list PySem.F.slot_list_append PySem.F.type_list_append mt_append (pv 6) (pa_cons (pe_tup (pa_cons (pe_ix ix_list (pv 12) pe_int (fun _ _ => rfl)) (pa_cons (pv 13) pa_nil))) pa_nil)))
              (pss_one (ps_expr (pe_bm PySem.F.plainAttrs_list PySem.F.slot_list_append PySem.F.type_list_append mt_append (pv 5) (pa_cons (pe_ix ix_list (pv 12) pe_int (fun _ _ => rfl)) pa_nil)))))))))))))))
        (pss_one (ps_set (i := 3) sc_law_woven.nd rfl (Or.inr rfl) (pe_slice sl_list (pv 3) (po_some (pe_callB call_len_seq (by rfl) T.len PySem.boot_len (pa_cons (pv 12) pa_nil))) po_none))))))))))
      (pss_one (ps_ret (pe_lst (pa_cons (pe_lst (pa_cons (pe_callB cr_sortedPO (by rfl) T.sorted (by decide +kernel) (pa_cons (pv 6) pa_nil)) (pa_cons (pe_callB cr_sortedPS (by rfl) T.sorted (by decide +kernel) (pa_cons (pv 4) pa_nil)) pa_nil))) (pa_cons (pv 7) pa_nil)))))))))))), ?_⟩
    have sz : 1000 < sizeLine := by decide
    have cm2 : ∀ j : Int, CMul 2 j := fun j => .inl ⟨by decide, by decide⟩
    have ln0 : (ns.map V.str).length = ns.length := List.length_map ..
    refine ⟨_, rfl, _, rfl, a, _, rfl, .inl (.of ea), _, _, rfl, rfl, cm2 _, _, rfl, _, _, rfl, rfl, cm2 _, _, _, rfl, rfl, S, s, _, rfl, hS, by omega, by omega, fun H1 SP0 L k1 so1 nSs fS eS nd ln rg => ?_⟩
    rw [ln0] at ln
    have S1 := hS.keep k1 so1
    have ea1 := k1 _ _ nas ea
    refine gn_h (σ' := [some (.ref s), some (.ref a), some (.int m), some (.ref SP0), none, none, none, none, none, none, none, none, none, none, none, none, none, none]) rfl ?_
    dsimp only
    refine seq_asg ?_
    have hLn : ns.length ≤ L.length := by omega
    obtain ⟨Ls, hLs⟩ : ∃ Ls, Ls = L.zip ns := ⟨_, rfl⟩
    have hll : Ls.length = ns.length := by rw [hLs, List.length_zip]; omega
    refine lc_rngD (n := ns.length) (S := S) (fun R h => ⟨_, rfl, a, _, rfl, .inl (.of ea1), by rw [ln0]; exact h⟩) S1.al (Ls.map ld) (by rw [List.length_map, hll]) (by omega) ?_ ?_
    · rintro i H6 N' B d hd sm hS6 hB2
      rw [List.getElem?_map] at hd
      obtain ⟨l, hl, rfl⟩ := Option.map_eq_some_iff.mp hd
      have hi : i < ns.length := by
        have := (List.getElem?_eq_some_iff.mp hl).1
        omega
      have hzi : ns[i]? = some (ns[i]'(by omega)) := List.getElem?_eq_getElem (by omega)
      have hxi : L[i]? = some (L[i]'(by omega)) := List.getElem?_eq_getElem (by omega)
      have hl2 : l = (L[i]'(by omega), ns[i]'(by omega)) := by
        rw [hLs, (List.getElem?_zip_eq_some (z := (L[i]'(by omega), ns[i]'(by omega)))).mpr ⟨hxi, hzi⟩] at hl
        exact (Option.some.inj hl).symm
      subst hl2
      refine ⟨rfl, _, rfl, _, rfl, SP0, _, _, _, rfl, rfl, .of (sm _ _ eS), atI_nat (j := i) (by rw [List.getElem?_map, hxi]; rfl), _, rfl, _, rfl, a, _, _, _, rfl, rfl, .of (sm _ _ ea1), atI_nat (j := i) (by rw [List.getElem?_map, hzi]; rfl), (by show 2 ≤ sizeLine; decide), fun t2 n2 => ?_⟩
      have h2 := da_ld2 (S := S) (p := (L[i]'(by omega), ns[i]'(by omega))) hS6 (Same.refl _) n2
      exact hB2 _ _ (same_new (Same.refl _) n2) h2.1 fun D hD _ => h2.2 D hD
    intro LV zs H2 nLV s2 fLV eLV hzs
    have S2 := S1.same s2
    have k2 := k1.trans (Keep.of s2)
    have nLV0 : H LV = none := k1.free (S1.ne nLV) nLV
    refine gn_h (σ' := [some (.ref s), some (.ref a), some (.int m), some (.ref SP0), some (.ref LV), none, none, none, none, none, none, none, none, none, none, none, none, none]) rfl ?_
    dsimp only
    refine ⟨_, rfl, _, rfl, a, _, rfl, .inl (.of (k2 _ _ nas ea)), _, rfl, SP0, _, rfl, .of (s2 _ _ eS), fun SP nSP => ?_⟩
    rw [ln0, cutV_drop _ _ (by rw [List.length_map]; omega), ← List.map_drop]
    obtain ⟨H3, e3, S3, k3, s3, eSP, fSP, nSPs⟩ := fresh (.lst ((L.drop ns.length).map V.int)) S2 k2 nSP
    rw [e3]
    clear e3
    have nSP0 : H SP = none := k2.free nSPs nSP
    refine gn_h (σ' := [some (.ref s), some (.ref a), some (.int m), some (.ref SP), some (.ref LV), none, none, none, none, none, none, none, none, none, none, none, none, none]) rfl ?_
    dsimp only
    refine seq_asg ?_
    have lzs : zs.length = ns.length := by rw [hzs.length, List.length_map, hll]
    have hzs3 := hzs.same s3
    refine lc_listG (K := K) (fun R h => ⟨_, rfl, h⟩) (s3 _ _ eLV) (Ls.map fun p => V.int p.1) (by rw [List.length_map, lzs, hll]) (by omega) ?_ ?_
    · rintro i x H6 N' B z hz sm hx hB
      obtain ⟨p, t, ed, rfl, nt, et⟩ := hzs3.ldS sm hx
      rw [List.getElem?_map, ed] at hz
      cases hz
      exact ⟨rfl, _, rfl, t, _, 0, _, rfl, rfl, .of et, rfl, hB _ (Same.refl _)⟩
    intro LN H4 nLN s4 eLN
    have lf2 : (Ls.map fun p : Int × Str => V.int p.1) = (L.take ns.length).map V.int := by rw [← wzip_fst hLn, ← hLs, List.map_map]; rfl
    rw [lf2] at eLN
    have S4 := S3.same s4
    have k4 := k3.trans (Keep.of s4)
    have nLN0 : H LN = none := k3.free (S3.ne nLN) nLN
    refine gn_h (σ' := [some (.ref s), some (.ref a), some (.int m), some (.ref SP), some (.ref LV), some (.ref LN), none, none, none, none, none, none, none, none, none, none, none, none]) rfl ?_
    dsimp only
    refine ⟨(by show 0 ≤ sizeLine; decide), fun AR nAR => ?_⟩
    obtain ⟨H5, e5, S5, k5, s5, eAR, fAR, nARs⟩ := fresh (.lst []) S4 k4 nAR
    rw [e5]
    clear e5
    have nAR0 : H AR = none := k4.free nARs nAR
    refine gn_h (σ' := [some (.ref s), some (.ref a), some (.int m), some (.ref SP), some (.ref LV), some (.ref LN), some (.ref AR), none, none, none, none, none, none, none, none, none, none, none]) rfl ?_
    dsimp only
    refine ⟨(by show 0 ≤ sizeLine; decide), fun CR nCR => ?_⟩
    obtain ⟨H6, e6, S6, k6, s6, eCR, fCR, nCRs⟩ := fresh (.lst []) S5 k5 nCR
    rw [e6]
    clear e6
    have nCR0 : H CR = none := k5.free nCRs nCR
    refine gn_h (σ' := [some (.ref s), some (.ref a), some (.int m), some (.ref SP), some (.ref LV), some (.ref LN), some (.ref AR), some (.ref CR), none, none, none, none, none, none, none, none, none, none]) rfl ?_
    dsimp only
    have eLV3 := s3 _ _ eLV
    have eSP4 := s4 _ _ eSP
    have eLV4 := s4 _ _ eLV3
    have eLN5 := s5 _ _ eLN
    have w0 : WV S s H SP LN AR CR LV (L.drop ns.length) (L.take ns.length) [] [] zs Ls [] [] H6 := ⟨k6, S6.so, nSP0, nLN0, nAR0, nCR0, nLV0, ne_of_none eSP nLN, ne_of_none eSP4 nAR, (ne_of_none eLN5 nCR).symm, (ne_of_none eAR nCR).symm, ne_of_none eLV3 nLN, ne_of_none eLV4 nAR, ne_of_none eLN nAR, s6 _ _ (s5 _ _ eSP4), s6 _ _ eLN5, s6 _ _ eAR, .nil, s6 _ _ (s5 _ _ eLV4), hzs3.same ((s4.trans s5).trans s6), eCR, trivial⟩
    have st0 : Wst ns.length m 0 (L.drop ns.length) (L.take ns.length) [] Ls (L.take ns.length) [] m := Wst.start nd hLs (by omega) hn1 rg
    clear eLV3 eSP4 eLV4 eLN5 nCR nAR nLN eLN nSP eSP eLV nLV eS nSs fS
    generalize L.drop ns.length = sp at w0 st0
    generalize L.take ns.length = lines at w0 st0
    have ct : ∀ (xs : List V) (i : Nat), cutV xs none (some (i : Int)) = xs.take i := cutV_take
    have mid : ∀ {H' : Hp} {mi : Int} {mx t : Nat} {SP LN AR CR : Addr} {sp lines : List Int} {ys : List V} {As : List (Int × Int)} {cs : List V} {crs : List (List Int)} {U : List Int}, WV S s H SP LN AR CR LV sp lines ys As zs Ls cs crs H' → Wst ns.length m t sp lines As Ls U crs mx → ys.length ≤ 46 ∧ cs.length ≤ 4 ∧ lines.length ≤ 28 ∧ sp.length ≤ 40 ∧ mx ≤ 8 := fun w st => by
      obtain ⟨kk, g, h1, h2⟩ := st.wov
      have a1 := w.hys.length
      rw [List.length_map] at a1
      have a2 := w.hcs.len
      have := st.al
      have := st.l1
      have := st.tl
      have := st.ul
      omega
    refine ⟨fun σ' H' => ∃ (mi : Int) (mx t : Nat) (SP LN AR CR : Addr) (sp lines : List Int) (ys : List V) (As : List (Int × Int)) (cs : List V) (crs : List (List Int)) (U : List Int) (v8 v9 v10 v11 v12 v13 v14 : Option V), σ' = [some (.ref s), some (.ref a), some (.int mi), some (.ref SP), some (.ref LV), some (.ref LN), some (.ref AR), some (.ref CR), v8, v9, v10, v11, v12, v13, v14, none, none, none] ∧ WV S s H SP LN AR CR LV sp lines ys As zs Ls cs crs H' ∧ Wst ns.length m t sp lines As Ls U crs mx ∧ lines.length = 1, ?_, ?_⟩
    · refine ⟨60, rfl, by decide, by decide, ?_⟩
      refine for_range (n := 60) (fun t σ H' => ∃ (mi : Int) (mx : Nat) (SP LN AR CR : Addr) (sp lines : List Int) (ys : List V) (As : List (Int × Int)) (cs : List V) (crs : List (List Int)) (U : List Int) (v8 v9 v10 v11 v12 v13 v14 : Option V), σ = [some (.ref s), some (.ref a), some (.int mi), some (.ref SP), some (.ref LV), some (.ref LN), some (.ref AR), some (.ref CR), v8, v9, v10, v11, v12, v13, v14, none, none, none] ∧ mi = (mx : Int) ∧ WV S s H SP LN AR CR LV sp lines ys As zs Ls cs crs H' ∧ Wst ns.length m t sp lines As Ls U crs mx) ⟨_, m, _, _, _, _, _, _, _, _, _, _, _, _, _, _, _, _, _, _, rfl, rfl, w0, st0⟩ ?_ ?_
      · clear w0 st0
        rintro t σ H7 ht ⟨mi, mx, SP, LN, AR, CR, sp, lines, ys, As, cs, crs, U, v8, v9, v10, v11, v12, v13, v14, rfl, hmi, w, st⟩
        subst hmi
        obtain ⟨ly, lc, ll, lsp, lmx⟩ := mid (mi := 0) w st
        have lln : (lines.map V.int).length = lines.length := List.length_map ..
        refine ⟨fun σ' H' => σ' = [some (.ref s), some (.ref a), some (.int mx), some (.ref SP), some (.ref LV), some (.ref LN), some (.ref AR), some (.ref CR), some (.int (0 + (t : Int))), v9, v10, v11, v12, v13, v14, none, none, none] ∧ WV S s H SP LN AR CR LV sp lines ys As zs Ls cs crs H' ∧ (lines.length = 1 → 2 ≤ mx), ?_, ?_⟩
        · refine ifs_h ?_
          refine ⟨_, rfl, LN, _, rfl, .inl (.of w.eLN), rfl, _, rfl, ?_⟩
          by_cases l1 : lines.length = 1
          · rw [decide_eq_true (by rw [lln, l1]; rfl)]
            refine ite2 (fun _ => ?_) fun e => absurd rfl e
            refine ⟨_, rfl, _, _, rfl, rfl, _, rfl, ?_⟩
            by_cases m2 : (mx : Int) < 2
            · rw [decide_eq_true m2]
              refine ite2 (fun _ => ?_) fun e => absurd rfl e
              refine ite2 (fun _ => ?_) fun e => absurd rfl e
              exact ⟨_, mx, t, _, _, _, _, _, _, _, _, _, _, _, _, _, _, _, _, _, _, rfl, w, st, l1⟩
            rw [decide_eq_false m2]
            refine ite2 (fun e => absurd e (by decide)) fun _ => ?_
            refine ⟨_, rfl, S, s, _, rfl, w.so, by decide, fun H8 r k8 so8 _ _ => ⟨rfl, _, rfl, ?_⟩⟩
            have w8 := w.keep hS k8 so8
            refine ite2 (fun _ => ?_) fun _ => ⟨rfl, w8, fun _ => by omega⟩
            exact ⟨_, mx, t, _, _, _, _, _, _, _, _, _, _, _, _, _, _, _, _, _, _, rfl, w8, st, l1⟩
          rw [decide_eq_false fun e => l1 (by have := V.int.inj e; rw [lln] at this; omega)]
          refine ite2 (fun e => absurd e (by decide)) fun _ => ?_
          refine ite2 (fun e => absurd e (by decide)) fun _ => ?_
          exact ⟨rfl, w, fun e => absurd e l1⟩
        clear w
        rintro σ' H8 ⟨rfl, w, hone⟩
        refine ⟨_, rfl, S, s, _, rfl, w.so, by decide, fun H9 r k9 so9 r0 r1 => ?_⟩
        have w9 := w.keep hS k9 so9
        clear w
        refine gn_h (σ' := [some (.ref s), some (.ref a), some (.int mx), some (.ref SP), some (.ref LV), some (.ref LN), some (.ref AR), some (.ref CR), some (.int (0 + (t : Int))), some (.int r), v10, v11, v12, v13, v14, none, none, none]) rfl ?_
        dsimp only
        refine ⟨fun σ' H' => H' = H9 ∧ ∃ tw : Bool, σ' = [some (.ref s), some (.ref a), some (.int mx), some (.ref SP), some (.ref LV), some (.ref LN), some (.ref AR), some (.ref CR), some (.int (0 + (t : Int))), some (.int r), some (.bl tw), v11, v12, v13, v14, none, none, none] ∧ (tw = true ↔ ∃ x, lines = [x, x]), ?_, ?_⟩
        · refine ⟨_, rfl, LN, _, rfl, .inl (.of w9.eLN), rfl, _, rfl, ?_⟩
          by_cases l2 : lines.length = 2
          · rw [decide_eq_true (by rw [lln, l2]; rfl)]
            refine ite2 (fun _ => ?_) fun e => absurd rfl e
            obtain ⟨x, y, hxy⟩ := two_els l2
            subst hxy
            refine ⟨_, rfl, LN, _, ((0 : Nat) : Int), .int x, rfl, rfl, .of w9.eLN, atI_nat (j := 0) rfl, _, rfl, LN, _, ((1 : Nat) : Int), .int y, rfl, rfl, .of w9.eLN, atI_nat (j := 1) rfl, rfl, rfl, _, rfl, ?_⟩
            rw [decide_eq_true_iff]
            exact ⟨fun e => ⟨x, by rw [V.int.inj e]⟩, fun ⟨z, hz⟩ => by injection hz with h1 h2; injection h2 with h2; rw [h1, h2]⟩
          · rw [decide_eq_false fun e => l2 (by have := V.int.inj e; rw [lln] at this; omega)]
            refine ite2 (fun e => absurd e (by decide)) fun _ => ?_
            exact ⟨rfl, _, rfl, fun e => (by cases e), fun ⟨x, hx⟩ => absurd (by rw [hx]; rfl) l2⟩
        rintro σ' H' ⟨rfl, tw, rfl, htw⟩
        -- end
        refine ⟨_, rfl, .inl ⟨rfl, _, .of w9.eLN⟩, _, rfl, _, rfl, LN, _, rfl, .inl (.of w9.eLN), S, s, _, rfl, w9.so, by omega, fun H10 i k10 so10 i0 i1 => ?_⟩
        have w10 := w9.keep hS k10 so10
        clear w9
        have l1 := st.l1
        obtain ⟨i, rfl⟩ : ∃ j : Nat, i = (j : Int) := ⟨i.toNat, by omega⟩
        have hi : i < lines.length := by omega
        obtain ⟨e, he⟩ : ∃ e, lines[i]? = some e := ⟨_, List.getElem?_eq_getElem hi⟩
        have hp1 := erase_perm he
        refine ⟨LN, lines.map V.int, (i : Int), i, .int e, rfl, rfl, w10.eLN, by omega, by omega, ix_some (by omega), by rw [List.getElem?_map, he]; rfl, ?_⟩
        rw [erase_mapI]
        have w11 := w10.setLN hS (lines.eraseIdx i)
        clear w10
        generalize upd H10 LN (.lst ((lines.eraseIdx i).map V.int)) = H11 at w11 ⊢
        refine gn_h (σ' := [some (.ref s), some (.ref a), some (.int mx), some (.ref SP), some (.ref LV), some (.ref LN), some (.ref AR), some (.ref CR), some (.int (0 + (t : Int))), some (.int r), some (.bl tw), some (.int e), v12, v13, v14, none, none, none]) rfl ?_
        dsimp only
        refine ⟨_, rfl, _, rfl, SP, _, rfl, .of w11.eSP, fun NW nNW => ?_⟩
        rw [show (some (4 : Int)) = some (((4 : Nat) : Int)) from rfl, ct, ← List.map_take]
        obtain ⟨H12, e12, w12, s12, eNW⟩ := w11.any hS (.lst ((sp.take 4).map V.int)) nNW
        rw [e12]
        have nNL := ne_of_none w11.eLN nNW
        have nNA := ne_of_none w11.eAR nNW
        have nNs : NW ≠ s := w11.so.ne nNW
        clear e12 w11 s12 nNW
        refine gn_h (σ' := [some (.ref s), some (.ref a), some (.int mx), some (.ref SP), some (.ref LV), some (.ref LN), some (.ref AR), some (.ref CR), some (.int (0 + (t : Int))), some (.int r), some (.bl tw), some (.int e), some (.ref NW), v13, v14, none, none, none]) rfl ?_
        dsimp only
        have ll1 := hp1.length_eq
        rw [List.length_cons] at ll1
        have l1m : ((lines.eraseIdx i).map V.int).length = (lines.eraseIdx i).length := List.length_map ..
        generalize lines.eraseIdx i = l1' at hp1 w12 ll1 l1m ⊢
        have lAs := w12.hys.length
        rw [List.length_map] at lAs
        have lLN : l1'.length ≤ 27 := by omega
        refine ⟨fun σ' H' => ∃ (mi : Int) (mx' : Nat) (NW LN AR CR : Addr) (nw lines' : List Int) (ys' : List V) (As' : List (Int × Int)) (cs' : List V) (crs' : List (List Int)) (U' : List Int) (v9 v10 v11 v13 v14 : Option V), σ' = [some (.ref s), some (.ref a), some (.int mi), some (.ref SP), some (.ref LV), some (.ref LN), some (.ref AR), some (.ref CR), some (.int (0 + (t : Int))), v9, v10, v11, some (.ref NW), v13, v14, none, none, none] ∧ mi = (mx' : Int) ∧ WV S s H SP LN AR CR LV sp lines' ys' As' zs Ls cs' crs' H' ∧ H' NW = some (.lst (nw.map V.int)) ∧ nw.length ≤ sp.length ∧ Wst ns.length m (t + 1) (sp.drop nw.length) lines' As' Ls U' crs' mx', ?_, ?_⟩
        · refine ifs_h (tand_h (fun R h => ⟨_, rfl, rfl, _, rfl, h⟩) (fun R h => tand_h (fun R h => ⟨_, rfl, _, _, rfl, rfl, _, rfl, h⟩) (fun R h => ⟨_, rfl, LN, _, rfl, .inl (.of w12.eLN), _, _, rfl, rfl, _, rfl, h⟩) h) ?_)
          refine ite2 (fun eb => ?_) fun _ => ?_
          · rw [Bool.and_eq_true, Bool.and_eq_true, decide_eq_true_iff, decide_eq_true_iff, decide_eq_true_iff, l1m] at eb
            obtain ⟨_, m1, l0⟩ := eb
            obtain ⟨n0, n1, n2, n3, sp', rfl⟩ := four_of (L := sp) (by have := st.spl; omega)
            have eNW : H12 NW = some (.lst [.int n0, .int n1, .int n2, .int n3]) := eNW
            refine ⟨_, rfl, .inl ⟨rfl, _, .of w12.eLN⟩, _, rfl, _, rfl, LN, _, rfl, .inl (.of w12.eLN), S, s, _, rfl, w12.so, by omega, fun H13 j k13 so13 j0 j1 => ?_⟩
            have w13 := w12.keep hS k13 so13
            have eNW := k13 _ _ nNs eNW
            clear w12
            obtain ⟨j, rfl⟩ : ∃ j' : Nat, j = (j' : Int) := ⟨j.toNat, by omega⟩
            have hj : j < l1'.length := by omega
            obtain ⟨o, ho⟩ : ∃ o, l1'[j]? = some o := ⟨_, List.getElem?_eq_getElem hj⟩
            have hp2 := erase_perm ho
            refine ⟨LN, l1'.map V.int, (j : Int), j, .int o, rfl, rfl, w13.eLN, by omega, by omega, ix_some (by omega), by rw [List.getElem?_map, ho]; rfl, ?_⟩
            rw [erase_mapI]
            have w14 := w13.setLN hS (l1'.eraseIdx j)
            have eNW : upd H13 LN (.lst ((l1'.eraseIdx j).map V.int)) NW = _ := (upd_ne nNL.symm).trans eNW
            generalize upd H13 LN (.lst ((l1'.eraseIdx j).map V.int)) = H14 at w14 eNW ⊢
            have ll2 := hp2.length_eq
            rw [List.length_cons] at ll2
            generalize l1'.eraseIdx j = l2 at hp2 w14 ll2 ⊢
            have l1m : (l2.map V.int).length = l2.length := List.length_map ..
            refine gn_h (σ' := [some (.ref s), some (.ref a), some (.int (mx : Int)), some (.ref SP), some (.ref LV), some (.ref LN), some (.ref AR), some (.ref CR), some (.int (0 + (t : Int))), some (.int r), some (.bl tw), some (.int e), some (.ref NW), some (.int o), v14, none, none, none]) rfl ?_
            dsimp only
            -- the six arrows
            refine ⟨_, rfl, _, rfl, NW, _, ((0 : Nat) : Int), .int n0, rfl, rfl, .of eNW, atI_nat (j := 0) rfl, _, rfl, NW, _, ((2 : Nat) : Int), .int n2, rfl, rfl, .of eNW, atI_nat (j := 2) rfl, (by show 2 ≤ sizeLine; decide), fun T1 nT1 => ?_⟩
            obtain ⟨G1, e_, w_1, s_1, d1⟩ := w14.tup hS (n0, n2) nT1
            rw [show upd H14 T1 (.tup [.int n0, .int n2]) = G1 from e_]
            have eNW := s_1 _ _ eNW
            clear e_ s_1 nT1
            refine ⟨_, rfl, NW, _, ((0 : Nat) : Int), .int n0, rfl, rfl, .of eNW, atI_nat (j := 0) rfl, _, rfl, NW, _, ((3 : Nat) : Int), .int n3, rfl, rfl, .of eNW, atI_nat (j := 3) rfl, (by show 2 ≤ sizeLine; decide), fun T2 nT2 => ?_⟩
            obtain ⟨G2, e_, w_2, s_2, d2⟩ := w_1.tup hS (n0, n3) nT2
            rw [show upd G1 T2 (.tup [.int n0, .int n3]) = G2 from e_]
            have eNW := s_2 _ _ eNW
            have d1 := d1.same s_2
            clear e_ s_2 nT2
            refine ⟨_, rfl, NW, _, ((1 : Nat) : Int), .int n1, rfl, rfl, .of eNW, atI_nat (j := 1) rfl, _, rfl, NW, _, ((2 : Nat) : Int), .int n2, rfl, rfl, .of eNW, atI_nat (j := 2) rfl, (by show 2 ≤ sizeLine; decide), fun T3 nT3 => ?_⟩
            obtain ⟨G3, e_, w_3, s_3, d3⟩ := w_2.tup hS (n1, n2) nT3
            rw [show upd G2 T3 (.tup [.int n1, .int n2]) = G3 from e_]
            have eNW := s_3 _ _ eNW
            have d1 := d1.same s_3
            have d2 := d2.same s_3
            clear e_ s_3 nT3
            refine ⟨_, rfl, NW, _, ((1 : Nat) : Int), .int n1, rfl, rfl, .of eNW, atI_nat (j := 1) rfl, _, rfl, NW, _, ((3 : Nat) : Int), .int n3, rfl, rfl, .of eNW, atI_nat (j := 3) rfl, (by show 2 ≤ sizeLine; decide), fun T4 nT4 => ?_⟩
            obtain ⟨G4, e_, w_4, s_4, d4⟩ := w_3.tup hS (n1, n3) nT4
            rw [show upd G3 T4 (.tup [.int n1, .int n3]) = G4 from e_]
            have eNW := s_4 _ _ eNW
            have d1 := d1.same s_4
            have d2 := d2.same s_4
            have d3 := d3.same s_4
            clear e_ s_4 nT4
            refine ⟨(by show 4 ≤ sizeLine; decide), fun X nX => ?_⟩
            obtain ⟨G5, e_, w_5, s_5, eX⟩ := w_4.any hS (.lst [.ref T1, .ref T2, .ref T3, .ref T4]) nX
            rw [e_]
            have eNW := s_5 _ _ eNW
            have d1 := d1.same s_5
            have d2 := d2.same s_5
            have d3 := d3.same s_5
            have d4 := d4.same s_5
            clear e_ s_5 nX
            have ly_ := w_5.hys.length
            rw [List.length_map] at ly_
            refine ⟨AR, X, ys, _, rfl, rfl, w_5.eAR, eX, (by have := lAs; simp only [List.length_cons, List.length_nil, List.length_append] at ly_ ⊢; omega), fun A5 nA => ?_⟩
            have w_6 := w_5.toAR hS nA (Bs := [(n0, n2), (n0, n3), (n1, n2), (n1, n3)]) (.cons d1 (.cons d2 (.cons d3 (.cons d4 .nil))))
            have eNW : upd G5 A5 (.lst (ys ++ [.ref T1, .ref T2, .ref T3, .ref T4])) NW = _ := (upd_ne (ne_of_none eNW nA)).trans eNW
            generalize upd G5 A5 (.lst (ys ++ [.ref T1, .ref T2, .ref T3, .ref T4])) = G6 at w_6 eNW ⊢
            clear w_5 nA eX d1 d2 d3 d4 ly_
            refine gn_h (σ' := [some (.ref s), some (.ref a), some (.int (mx : Int)), some (.ref SP), some (.ref LV), some (.ref LN), some (.ref A5), some (.ref CR), some (.int (0 + (t : Int))), some (.int r), some (.bl tw), some (.int e), some (.ref NW), some (.int o), v14, none, none, none]) rfl ?_
            dsimp only
            refine ⟨_, rfl, _, rfl, NW, _, ((2 : Nat) : Int), .int n2, rfl, rfl, .of eNW, atI_nat (j := 2) rfl, _, rfl, (by show 2 ≤ sizeLine; decide), fun T5 nT5 => ?_⟩
            obtain ⟨G7, e_, w_7, s_7, d5⟩ := w_6.tup hS (n2, e) nT5
            rw [show upd G6 T5 (.tup [.int n2, .int e]) = G7 from e_]
            have eNW := s_7 _ _ eNW
            clear e_ s_7 nT5
            refine ⟨_, rfl, NW, _, ((3 : Nat) : Int), .int n3, rfl, rfl, .of eNW, atI_nat (j := 3) rfl, _, rfl, (by show 2 ≤ sizeLine; decide), fun T6 nT6 => ?_⟩
            obtain ⟨G8, e_, w_8, s_8, d6⟩ := w_7.tup hS (n3, o) nT6
            rw [show upd G7 T6 (.tup [.int n3, .int o]) = G8 from e_]
            have eNW := s_8 _ _ eNW
            have d5 := d5.same s_8
            clear e_ s_8 nT6
            refine ⟨(by show 2 ≤ sizeLine; decide), fun X nX => ?_⟩
            obtain ⟨G9, e_, w_9, s_9, eX⟩ := w_8.any hS (.lst [.ref T5, .ref T6]) nX
            rw [e_]
            have eNW := s_9 _ _ eNW
            have d5 := d5.same s_9
            have d6 := d6.same s_9
            clear e_ s_9 nX
            have ly_ := w_9.hys.length
            rw [List.length_map] at ly_
            refine ⟨A5, X, (ys ++ [.ref T1, .ref T2, .ref T3, .ref T4]), _, rfl, rfl, w_9.eAR, eX, (by have := lAs; simp only [List.length_cons, List.length_nil, List.length_append] at ly_ ⊢; omega), fun A9 nA => ?_⟩
            have w_10 := w_9.toAR hS nA (Bs := [(n2, e), (n3, o)]) (.cons d5 (.cons d6 .nil))
            have eNW : upd G9 A9 (.lst ((ys ++ [.ref T1, .ref T2, .ref T3, .ref T4]) ++ [.ref T5, .ref T6])) NW = _ := (upd_ne (ne_of_none eNW nA)).trans eNW
            generalize upd G9 A9 (.lst ((ys ++ [.ref T1, .ref T2, .ref T3, .ref T4]) ++ [.ref T5, .ref T6])) = G10 at w_10 eNW ⊢
            clear w_9 nA eX d5 d6 ly_
            refine gn_h (σ' := [some (.ref s), some (.ref a), some (.int (mx : Int)), some (.ref SP), some (.ref LV), some (.ref LN), some (.ref A9), some (.ref CR), some (.int (0 + (t : Int))), some (.int r), some (.bl tw), some (.int e), some (.ref NW), some (.int o), v14, none, none, none]) rfl ?_
            dsimp only
            refine ⟨_, rfl, _, rfl, _, rfl, NW, _, rfl, .of eNW, fun Y nY => ?_⟩
            rw [show (some (2 : Int)) = some (((2 : Nat) : Int)) from rfl, ct]
            obtain ⟨G11, e_, w_11, s_11, eY⟩ := w_10.any hS (.lst [.int n0, .int n1]) nY
            rw [show upd G10 Y (.lst (List.take 2 [.int n0, .int n1, .int n2, .int n3])) = G11 from e_]
            have eNW := s_11 _ _ eNW
            refine ⟨LN, Y, _, _, rfl, rfl, w_11.eLN, eY, (by have := l1m; have := lLN; simp only [List.length_cons, List.length_nil, List.length_map]; omega), fun L11 nL => ?_⟩
            have w_12 := w_11.toLN hS nL (l2 ++ [n0, n1])
            have eNW : upd G11 L11 (.lst ((l2 ++ [n0, n1]).map V.int)) NW = _ := (upd_ne (ne_of_none eNW nL)).trans eNW
            rw [show l2.map V.int ++ [.int n0, .int n1] = (l2 ++ [n0, n1]).map V.int by rw [List.map_append]; rfl]
            generalize upd G11 L11 (.lst ((l2 ++ [n0, n1]).map V.int)) = G12 at w_12 eNW ⊢
            clear w_11 s_11 e_ eY nY nL
            refine gn_h (σ' := [some (.ref s), some (.ref a), some (.int (mx : Int)), some (.ref SP), some (.ref LV), some (.ref L11), some (.ref A9), some (.ref CR), some (.int (0 + (t : Int))), some (.int r), some (.bl tw), some (.int e), some (.ref NW), some (.int o), v14, none, none, none]) rfl ?_
            dsimp only
            refine ⟨_, rfl, _, rfl, NW, [n0, n1, n2, n3], rfl, .of eNW, (by show 4 < 64; decide), fun cr SC pm srt nSC => ?_⟩
            obtain ⟨G13, e_, w_13, s_13, eSC⟩ := w_12.any hS (.lst (cr.map V.int)) nSC
            rw [e_]
            have eNW := s_13 _ _ eNW
            have nSC0 := w_12.free nSC
            have nSL := (ne_of_none w_12.eLN nSC).symm
            have nSA := (ne_of_none w_12.eAR nSC).symm
            refine ⟨(by show 1 ≤ sizeLine; decide), fun X nX => ?_⟩
            obtain ⟨G14, e2_, w_14, s_14, eX⟩ := w_13.any hS (.lst [.ref SC]) nX
            rw [e2_]
            have eNW := s_14 _ _ eNW
            have eSC := s_14 _ _ eSC
            refine ⟨CR, X, cs, _, rfl, rfl, w_14.eCR, eX, (by simp only [List.length_cons, List.length_nil]; omega), fun C nC => ?_⟩
            have w_15 := w_14.toCR hS nC nSC0 nSL nSA eSC
            have eNW : upd G14 C (.lst (cs ++ [.ref SC])) NW = _ := (upd_ne (ne_of_none eNW nC)).trans eNW
            generalize upd G14 C (.lst (cs ++ [.ref SC])) = G15 at w_15 eNW ⊢
            refine gn_h (σ' := [some (.ref s), some (.ref a), some (.int (mx : Int)), some (.ref SP), some (.ref LV), some (.ref L11), some (.ref A9), some (.ref C), some (.int (0 + (t : Int))), some (.int r), some (.bl tw), some (.int e), some (.ref NW), some (.int o), v14, none, none, none]) rfl ?_
            dsimp only
            refine ⟨_, rfl, _, _, rfl, rfl, ?_⟩
            exact ⟨_, mx - 2, NW, _, _, _, [n0, n1, n2, n3], _, _, _, _, _, _, _, _, _, _, _, rfl, by omega, w_15, eNW, (by simp), st.crown (hp1.trans (hp2.cons e)) (by omega) rfl pm srt⟩
          refine ifs_h (tand_h (fun R h => ⟨_, rfl, rfl, _, rfl, h⟩) (fun R h => ⟨_, rfl, _, _, rfl, rfl, _, rfl, h⟩) ?_)
          refine ite2 (fun eb => ?_) fun _ => ?_
          · rw [Bool.and_eq_true, decide_eq_true_iff, decide_eq_true_iff] at eb
            obtain ⟨_, m2⟩ := eb
            obtain ⟨n0, n1, n2, n3, sp', rfl⟩ := four_of (L := sp) (by have := st.spl; omega)
            clear nNL nNA nNs eNW
            refine ⟨_, rfl, _, rfl, SP, _, rfl, .of w12.eSP, fun NW2 nNW => ?_⟩
            rw [show (some (3 : Int)) = some (((3 : Nat) : Int)) from rfl, ct]
            obtain ⟨H13, e13, w13, s13, eNW⟩ := w12.any hS (.lst [.int n0, .int n1, .int n2]) nNW
            rw [show upd H12 NW2 (.lst (((n0 :: n1 :: n2 :: n3 :: sp').map V.int).take 3)) = H13 from e13]
            clear e13 s13
            refine gn_h (σ' := [some (.ref s), some (.ref a), some (.int (mx : Int)), some (.ref SP), some (.ref LV), some (.ref LN), some (.ref AR), some (.ref CR), some (.int (0 + (t : Int))), some (.int r), some (.bl tw), some (.int e), some (.ref NW2), v13, v14, none, none, none]) rfl ?_
            dsimp only
            refine ⟨_, rfl, _, rfl, NW2, _, ((0 : Nat) : Int), .int n0, rfl, rfl, .of eNW, atI_nat (j := 0) rfl, _, rfl, (by show 2 ≤ sizeLine; decide), fun T1 nT1 => ?_⟩
            obtain ⟨G1, e_, w_1, s_1, d1⟩ := w13.tup hS (n0, e) nT1
            rw [show upd H13 T1 (.tup [.int n0, .int e]) = G1 from e_]
            have eNW := s_1 _ _ eNW
            clear e_ s_1 nT1
            refine ⟨_, rfl, NW2, _, ((1 : Nat) : Int), .int n1, rfl, rfl, .of eNW, atI_nat (j := 1) rfl, _, rfl, NW2, _, ((0 : Nat) : Int), .int n0, rfl, rfl, .of eNW, atI_nat (j := 0) rfl, (by show 2 ≤ sizeLine; decide), fun T2 nT2 => ?_⟩
            obtain ⟨G2, e_, w_2, s_2, d2⟩ := w_1.tup hS (n1, n0) nT2
            rw [show upd G1 T2 (.tup [.int n1, .int n0]) = G2 from e_]
            have eNW := s_2 _ _ eNW
            have d1 := d1.same s_2
            clear e_ s_2 nT2
            refine ⟨_, rfl, NW2, _, ((2 : Nat) : Int), .int n2, rfl, rfl, .of eNW, atI_nat (j := 2) rfl, _, rfl, NW2, _, ((0 : Nat) : Int), .int n0, rfl, rfl, .of eNW, atI_nat (j := 0) rfl, (by show 2 ≤ sizeLine; decide), fun T3 nT3 => ?_⟩
            obtain ⟨G3, e_, w_3, s_3, d3⟩ := w_2.tup hS (n2, n0) nT3
            rw [show upd G2 T3 (.tup [.int n2, .int n0]) = G3 from e_]
            have eNW := s_3 _ _ eNW
            have d1 := d1.same s_3
            have d2 := d2.same s_3
            clear e_ s_3 nT3
            refine ⟨(by show 3 ≤ sizeLine; decide), fun X nX => ?_⟩
            obtain ⟨G4, e_, w_4, s_4, eX⟩ := w_3.any hS (.lst [.ref T1, .ref T2, .ref T3]) nX
            rw [e_]
            have eNW := s_4 _ _ eNW
            have d1 := d1.same s_4
            have d2 := d2.same s_4
            have d3 := d3.same s_4
            clear e_ s_4 nX
            have ly_ := w_4.hys.length
            rw [List.length_map] at ly_
            refine ⟨AR, X, ys, _, rfl, rfl, w_4.eAR, eX, (by have := lAs; simp only [List.length_cons, List.length_nil, List.length_append] at ly_ ⊢; omega), fun A4 nA => ?_⟩
            have w_5 := w_4.toAR hS nA (Bs := [(n0, e), (n1, n0), (n2, n0)]) (.cons d1 (.cons d2 (.cons d3 .nil)))
            have eNW : upd G4 A4 (.lst (ys ++ [.ref T1, .ref T2, .ref T3])) NW2 = _ := (upd_ne (ne_of_none eNW nA)).trans eNW
            generalize upd G4 A4 (.lst (ys ++ [.ref T1, .ref T2, .ref T3])) = G5 at w_5 eNW ⊢
            clear w_4 nA eX d1 d2 d3 ly_
            refine gn_h (σ' := [some (.ref s), some (.ref a), some (.int (mx : Int)), some (.ref SP), some (.ref LV), some (.ref LN), some (.ref A4), some (.ref CR), some (.int (0 + (t : Int))), some (.int r), some (.bl tw), some (.int e), some (.ref NW2), v13, v14, none, none, none]) rfl ?_
            dsimp only
            refine ⟨_, rfl, _, rfl, NW2, _, ((1 : Nat) : Int), .int n1, rfl, rfl, .of eNW, atI_nat (j := 1) rfl, _, rfl, NW2, _, ((1 : Nat) : Int), .int n1, rfl, rfl, .of eNW, atI_nat (j := 1) rfl, _, rfl, NW2, _, ((2 : Nat) : Int), .int n2, rfl, rfl, .of eNW, atI_nat (j := 2) rfl, _, rfl, NW2, _, ((2 : Nat) : Int), .int n2, rfl, rfl, .of eNW, atI_nat (j := 2) rfl, (by show 4 ≤ sizeLine; decide), fun Y nY => ?_⟩
            obtain ⟨G6, e_, w_6, s_6, eY⟩ := w_5.any hS (.lst [.int n1, .int n1, .int n2, .int n2]) nY
            rw [show upd G5 Y (.lst [.int n1, .int n1, .int n2, .int n2]) = G6 from e_]
            have eNW := s_6 _ _ eNW
            refine ⟨LN, Y, _, _, rfl, rfl, w_6.eLN, eY, (by have := l1m; have := lLN; simp only [List.length_cons, List.length_nil, List.length_map]; omega), fun L6 nL => ?_⟩
            have w_7 := w_6.toLN hS nL (l1' ++ [n1, n1, n2, n2])
            have eNW : upd G6 L6 (.lst ((l1' ++ [n1, n1, n2, n2]).map V.int)) NW2 = _ := (upd_ne (ne_of_none eNW nL)).trans eNW
            rw [show l1'.map V.int ++ [.int n1, .int n1, .int n2, .int n2] = (l1' ++ [n1, n1, n2, n2]).map V.int by rw [List.map_append]; rfl]
            generalize upd G6 L6 (.lst ((l1' ++ [n1, n1, n2, n2]).map V.int)) = G7 at w_7 eNW ⊢
            clear w_6 s_6 e_ eY nY nL
            refine gn_h (σ' := [some (.ref s), some (.ref a), some (.int (mx : Int)), some (.ref SP), some (.ref LV), some (.ref L6), some (.ref A4), some (.ref CR), some (.int (0 + (t : Int))), some (.int r), some (.bl tw), some (.int e), some (.ref NW2), v13, v14, none, none, none]) rfl ?_
            dsimp only
            refine ⟨_, rfl, _, _, rfl, rfl, ?_⟩
            exact ⟨_, mx - 3, NW2, _, _, _, [n0, n1, n2], _, _, _, _, _, _, _, _, _, _, _, rfl, by omega, w_7, eNW, (by simp), st.hyb hp1 (by omega) rfl⟩
          obtain ⟨n0, sp', rfl⟩ : ∃ n0 sp', sp = n0 :: sp' := one_of (L := sp) (by have := st.spl; omega)
          clear nNL nNA nNs eNW
          refine ⟨_, rfl, _, rfl, SP, _, rfl, .of w12.eSP, fun NW2 nNW => ?_⟩
          rw [show (some (1 : Int)) = some (((1 : Nat) : Int)) from rfl, ct]
          obtain ⟨H13, e13, w13, s13, eNW⟩ := w12.any hS (.lst [.int n0]) nNW
          rw [show upd H12 NW2 (.lst (((n0 :: sp').map V.int).take 1)) = H13 from e13]
          have nNL := ne_of_none w12.eLN nNW
          have nNA := ne_of_none w12.eAR nNW
          have nNs : NW2 ≠ s := w12.so.ne nNW
          clear e13 s13
          refine gn_h (σ' := [some (.ref s), some (.ref a), some (.int (mx : Int)), some (.ref SP), some (.ref LV), some (.ref LN), some (.ref AR), some (.ref CR), some (.int (0 + (t : Int))), some (.int r), some (.bl tw), some (.int e), some (.ref NW2), v13, v14, none, none, none]) rfl ?_
          dsimp only
          refine ⟨_, rfl, .inl ⟨rfl, _, .of w13.eAR⟩, _, rfl, NW2, _, ((0 : Nat) : Int), .int n0, rfl, rfl, .of eNW, atI_nat (j := 0) rfl, _, rfl, (by show 2 ≤ sizeLine; decide), fun T nT => ?_⟩
          have nAT := ne_of_none w13.eAR nT
          refine ⟨AR, ys, .ref T, rfl, rfl, (upd_ne nAT).trans w13.eAR, by omega, ?_⟩
          have w14 := w13.appAR hS (n0, e) nT
          have eNW : upd (upd H13 T (.tup [.int n0, .int e])) AR (.lst (ys ++ [.ref T])) NW2 = _ := (upd_ne nNA.symm).trans ((upd_ne (ne_of_none eNW nT)).trans eNW)
          generalize upd (upd H13 T (.tup [.int n0, .int e])) AR (.lst (ys ++ [.ref T])) = H14 at w14 eNW ⊢
          dsimp only
          refine ifs_h (tor_h (fun R h => ⟨_, rfl, LN, _, rfl, .inl (.of w14.eLN), rfl, _, rfl, h⟩) (fun R h => tor_h (fun R h => ⟨_, rfl, _, rfl, h⟩) (fun R h => tand_h (fun R h => ⟨_, rfl, _, _, rfl, rfl, _, rfl, h⟩) (fun R h => ⟨_, rfl, _, _, rfl, rfl, _, rfl, h⟩) h) h) ?_)
          have tw2 : ∀ x, lines = [x, x] → 1 ≤ mx := fun x hx => st.two x hx
          refine ite2 (fun eb => ?_) fun eb => ?_
          · have eb : l1'.length = 0 ∨ tw = true ∨ 0 < mx := by
              rcases Bool.or_eq_true_iff.mp eb with z | z
              · have := V.int.inj (of_decide_eq_true z)
                exact .inl (by omega)
              rcases Bool.or_eq_true_iff.mp z with z | z
              · exact .inr (.inl z)
              · have := of_decide_eq_true (Bool.and_eq_true_iff.mp z).2
                exact .inr (.inr (by omega))
            have h0 : l1' = [] → 2 ≤ mx := fun z => hone (by rw [ll1, z]; rfl)
            have m1 : 1 ≤ mx := by
              rcases eb with z | z | z
              · have := h0 (List.length_eq_zero_iff.mp z)
                omega
              · obtain ⟨x, hx⟩ := htw.mp z
                exact st.two x hx
              · exact z
            refine ⟨_, rfl, _, rfl, NW2, _, ((0 : Nat) : Int), .int n0, rfl, rfl, .of eNW, atI_nat (j := 0) rfl, _, rfl, NW2, _, ((0 : Nat) : Int), .int n0, rfl, rfl, .of eNW, atI_nat (j := 0) rfl, (by show 2 ≤ sizeLine; decide), fun Y nY => ?_⟩
            obtain ⟨G1, e_, w_1, s_1, eY⟩ := w14.any hS (.lst [.int n0, .int n0]) nY
            rw [show upd H14 Y (.lst [.int n0, .int n0]) = G1 from e_]
            have eNW := s_1 _ _ eNW
            refine ⟨LN, Y, _, _, rfl, rfl, w_1.eLN, eY, (by have := l1m; have := lLN; simp only [List.length_cons, List.length_nil, List.length_map]; omega), fun L1 nL => ?_⟩
            have w_2 := w_1.toLN hS nL (l1' ++ [n0, n0])
            have eNW : upd G1 L1 (.lst ((l1' ++ [n0, n0]).map V.int)) NW2 = _ := (upd_ne (ne_of_none eNW nL)).trans eNW
            rw [show l1'.map V.int ++ [.int n0, .int n0] = (l1' ++ [n0, n0]).map V.int by rw [List.map_append]; rfl]
            generalize upd G1 L1 (.lst ((l1' ++ [n0, n0]).map V.int)) = G2 at w_2 eNW ⊢
            clear w_1 s_1 e_ eY nY nL
            refine gn_h (σ' := [some (.ref s), some (.ref a), some (.int (mx : Int)), some (.ref SP), some (.ref LV), some (.ref L1), some (.ref AR), some (.ref CR), some (.int (0 + (t : Int))), some (.int r), some (.bl tw), some (.int e), some (.ref NW2), v13, v14, none, none, none]) rfl ?_
            dsimp only
            refine ⟨_, rfl, _, _, rfl, rfl, ?_⟩
            exact ⟨_, mx - 1, NW2, _, _, _, [n0], _, _, _, _, _, _, _, _, _, _, _, rfl, by omega, w_2, eNW, (by simp), st.mixing hp1 m1 h0 rfl⟩
          have eb : l1' ≠ [] ∧ tw = false := by
            have z : _ = false := Bool.eq_false_iff.mpr eb
            rw [Bool.or_eq_false_iff, Bool.or_eq_false_iff] at z
            exact ⟨fun y => by rw [y] at z; exact absurd z.1 (by decide), z.2.1⟩
          have hoth := st.other hp1 eb.1 fun x hx => by have := htw.mpr ⟨x, hx⟩; rw [eb.2] at this; cases this
          refine seq_asg ?_
          refine lc_listF (K := K) (a := LN) (fun R h => ⟨_, rfl, h⟩) w14.eLN (fun x => decide (x ≠ e)) (by omega) (fun _ => rfl) (fun _ => rfl) ?_ ?_
          · intro x hx H15 k s15 hk
            refine ⟨_, rfl, _, rfl, rfl, _, rfl, ?_⟩
            rw [show (!decide (V.int x = V.int e)) = decide (x ≠ e) by by_cases h : x = e <;> simp [h]]
            exact hk H15 (Same.refl _)
          intro OT H15 nOT s15 eOT
          have w15 := w14.same hS s15
          have eNW := s15 _ _ eNW
          have nOs := w14.so.ne nOT
          have lfl := List.length_filter_le (fun x => decide (x ≠ e)) l1'
          have msub : ∀ x ∈ l1'.filter (fun x => decide (x ≠ e)), x ∈ l1' ∧ x ≠ e := fun x hx => by
            obtain ⟨h1, h2⟩ := List.mem_filter.mp hx
            exact ⟨h1, of_decide_eq_true h2⟩
          generalize l1'.filter (fun x => decide (x ≠ e)) = ot at eOT hoth lfl msub
          clear w14 s15 nOT
          have lot : (ot.map V.int).length = ot.length := List.length_map ..
          have lo := List.length_pos_iff.mpr hoth
          refine gn_h (σ' := [some (.ref s), some (.ref a), some (.int (mx : Int)), some (.ref SP), some (.ref LV), some (.ref LN), some (.ref AR), some (.ref CR), some (.int (0 + (t : Int))), some (.int r), some (.bl tw), some (.int e), some (.ref NW2), v13, some (.ref OT), none, none, none]) rfl ?_
          dsimp only
          refine ⟨_, rfl, _, rfl, _, rfl, OT, _, rfl, .inl (.of eOT), S, s, _, rfl, w15.so, by omega, fun H16 j k16 so16 j0 j1 => ?_⟩
          have w16 := w15.keep hS k16 so16
          have eNW := k16 _ _ nNs eNW
          obtain ⟨j, rfl⟩ : ∃ j' : Nat, j = (j' : Int) := ⟨j.toNat, by omega⟩
          obtain ⟨o, ho⟩ : ∃ o, ot[j]? = some o := ⟨_, List.getElem?_eq_getElem (by omega)⟩
          obtain ⟨om, one⟩ := msub o (List.mem_of_getElem? ho)
          refine ⟨OT, _, (j : Int), .int o, rfl, rfl, .of (k16 _ _ nOs eOT), atI_nat (by rw [List.getElem?_map, ho]; rfl), ?_⟩
          clear w15
          refine gn_h (σ' := [some (.ref s), some (.ref a), some (.int (mx : Int)), some (.ref SP), some (.ref LV), some (.ref LN), some (.ref AR), some (.ref CR), some (.int (0 + (t : Int))), some (.int r), some (.bl tw), some (.int e), some (.ref NW2), some (.int o), some (.ref OT), none, none, none]) rfl ?_
          dsimp only
          obtain ⟨q', hq, hno, her⟩ := erase_at om
          refine ⟨_, rfl, .inl ⟨rfl, _, .of w16.eLN⟩, _, rfl, LN, l1', o, q', rfl, rfl, w16.eLN, hq, hno, ?_⟩
          rw [her]
          have w17 := w16.setLN hS (l1'.erase o)
          have eNW : upd H16 LN (.lst ((l1'.erase o).map V.int)) NW2 = _ := (upd_ne nNL.symm).trans eNW
          generalize upd H16 LN (.lst ((l1'.erase o).map V.int)) = H17 at w17 eNW ⊢
          have hp2 := List.perm_cons_erase om
          have ll2 := hp2.length_eq
          rw [List.length_cons] at ll2
          generalize l1'.erase o = l2 at hp2 w17 ll2 ⊢
          clear w16
          refine ⟨_, rfl, .inl ⟨rfl, _, .of w17.eAR⟩, _, rfl, NW2, _, ((0 : Nat) : Int), .int n0, rfl, rfl, .of eNW, atI_nat (j := 0) rfl, _, rfl, (by show 2 ≤ sizeLine; decide), fun T2 nT2 => ?_⟩
          have nAT2 := ne_of_none w17.eAR nT2
          refine ⟨AR, _, .ref T2, rfl, rfl, (upd_ne nAT2).trans w17.eAR, (by rw [List.length_append]; simp only [List.length_cons, List.length_nil]; omega), ?_⟩
          have w18 := w17.appAR hS (n0, o) nT2
          have eNW : upd (upd H17 T2 (.tup [.int n0, .int o])) AR (.lst ((ys ++ [.ref T]) ++ [.ref T2])) NW2 = _ := (upd_ne nNA.symm).trans ((upd_ne (ne_of_none eNW nT2)).trans eNW)
          generalize upd (upd H17 T2 (.tup [.int n0, .int o])) AR (.lst ((ys ++ [.ref T]) ++ [.ref T2])) = H18 at w18 eNW ⊢
          refine ⟨_, rfl, .inl ⟨rfl, _, .of w18.eLN⟩, _, rfl, NW2, _, ((0 : Nat) : Int), .int n0, rfl, rfl, .of eNW, atI_nat (j := 0) rfl, LN, _, .int n0, rfl, rfl, w18.eLN, (by rw [List.length_map]; omega), ?_⟩
          rw [show l2.map V.int ++ [.int n0] = (l2 ++ [n0]).map V.int by rw [List.map_append]; rfl]
          have w19 := w18.setLN hS (l2 ++ [n0])
          have eNW : upd H18 LN (.lst ((l2 ++ [n0]).map V.int)) NW2 = _ := (upd_ne nNL.symm).trans eNW
          exact ⟨_, mx, NW2, _, _, _, [n0], _, _, _, _, _, _, _, _, _, _, _, rfl, rfl, w19, eNW, (by simp), st.join (hp1.trans (hp2.cons e)) one rfl⟩
        clear w12 eNW hp1 ll1 l1m lAs lLN
        rintro σ' H' ⟨mi, mx', NW, LN, AR, CR, nw, lines', ys', As', cs', crs', U', v9, v10, v11, v13, v14, rfl, hmi, w, eNW, hnw, st'⟩
        refine ⟨_, rfl, _, rfl, NW, _, rfl, .inl (.of eNW), _, rfl, SP, _, rfl, .of w.eSP, fun X nX => ?_⟩
        rw [List.length_map, cutV_drop _ _ (by rw [List.length_map]; exact hnw), ← List.map_drop]
        exact ⟨mi, mx', X, _, _, _, _, _, _, _, _, _, _, _, _, _, _, _, _, _, rfl, hmi, w.toSP hS nX _, st'⟩
      rintro σ H7 ⟨mi, mx, SP, LN, AR, CR, sp, lines, ys, As, cs, crs, U, v8, v9, v10, v11, v12, v13, v14, rfl, hmi, w, st⟩
      have := st.tl
      have := st.l1
      omega
    rintro σ H7 ⟨mi, mx, t, SP, LN, AR, CR, sp, lines, ys, As, cs, crs, U, v8, v9, v10, v11, v12, v13, v14, rfl, w, st, l1⟩
    obtain ⟨P, g⟩ := st.good l1 ⟨hn1, hn2⟩ hm hll (by rw [hLs, wzip_snd hLn]; exact hnd) fun l hl => hw l.2 (by have h2 := List.mem_map_of_mem (f := fun p : Int × Str => p.2) hl; rw [hLs, wzip_snd hLn] at h2; exact h2)
    obtain ⟨Bs, hB⟩ := srtA_exists As
    refine ⟨_, rfl, AR, ys, pairAt H7, rfl, .of w.eAR, fun x hx => ?_, fun zs2 Y hs1 hs2 nY => ?_⟩
    · obtain ⟨i, hi⟩ := List.mem_iff_getElem?.mp hx
      obtain ⟨p, t, _, rfl, _, et⟩ := w.hys.pd hi
      rw [pairAt_eq et]
      exact ⟨t, rfl, et⟩
    have ha := sorted_pdA w.hys hB hs1 hs2
    obtain ⟨H8, e8, w8, s8, eY⟩ := w.any hS (.lst zs2) nY
    have fY := (w.ss hS).free nY
    rw [e8]
    have ha := ha.same s8
    refine ⟨_, rfl, LV, zs, isAt H8, rfl, .of w8.eLV, fun x hx => ?_, fun zs3 Y3 hs3 hs4 nY3 => ?_⟩
    · obtain ⟨i, hi⟩ := List.mem_iff_getElem?.mp hx
      obtain ⟨p, t, _, rfl, _, et⟩ := w8.hzs.ld hi
      rw [isAt_eq et]
      exact ⟨t, rfl, et⟩
    obtain ⟨Ms, hMs, hz⟩ := sorted_ldA w8.hzs hs3 hs4
    obtain ⟨H9, e9, w9, s9, eY3⟩ := w8.any hS (.lst zs3) nY3
    have fY3 := (w8.ss hS).free nY3
    rw [e9]
    have ha := ha.same s9
    have hz := hz.same s9
    have eY := s9 _ _ eY
    refine ⟨(by show 2 ≤ sizeLine; decide), fun W nW => ?_⟩
    obtain ⟨H10, e10, w10, s10, eW⟩ := w9.any hS (.lst [.ref Y, .ref Y3]) nW
    have fW := (w9.ss hS).free nW
    rw [e10]
    refine ⟨_, rfl, (by show 2 ≤ sizeLine; decide), fun R nR => ?_⟩
    obtain ⟨H11, e11, w11, s11, eR⟩ := w10.any hS (.lst [.ref W, .ref CR]) nR
    rw [e11]
    have t := s10.trans s11
    refine q H11 R (.ref W) CR Bs Ms P crs w11.k w11.so (w10.so.ne nR) eR (.lst fW (s11 _ _ eW) (.cons (.lst fY (t _ _ eY) (ha.same t)) (.one (.lst fY3 (t _ _ eY3) (hz.same t))))) (.lst (hS.free w11.nCR) w11.eCR (w11.hcs.da fun _ => hS.free)) (fun cr h => (st.crn cr h).more fun a ha => hB.1.mem_iff.mpr ha) ?_ (g.perm hB.1 hMs.1) ⟨.refl _, hB.2⟩
    obtain ⟨kk, gg, h1, h2⟩ := st.wov
    omega


set_option maxHeartbeats 4000000 in
theorem ok_law_tangled  (F : Fun K "_law_tangled" "_law_tangled" s_law_tangled f fd) (T : Txt w K mg)
    (O_law_size : Own P w K mg base k "_law_size" ["store"] (sp_law_size K))
    (O_law_take : Own P w K mg base k "_law_take" ["store", "many"] (sp_law_take))
    (O_law_woven : Own P w K mg base k "_law_woven" ["store", "names", "mixings"] (sp_law_woven K))
    (O_law_named : Own P w K mg base k "_law_named" ["store", "many"] (sp_law_named K)) : FnOk P w K mg base CX0 (k + 1) f fd ["store"] (sp_law_tangled K) := by
  refine F.ok sc_law_tangled (fun vs H Q E h => ?_) (fun cdv A outer s0 H vs Q E hr h => ?_)
  · obtain ⟨S, s, rfl, hS, q⟩ := h
    rfl
  · obtain ⟨S, s, rfl, hS, q⟩ := h
    refine ⟨_, (pss_cons (ps_set (i := 1) sc_law_tangled.nd rfl (Or.inl rfl) (pe_own O_law_size hr (by rfl) (pa_cons (pv 0) pa_nil)))
      (pss_cons (ps_set (i := 2) sc_law_tangled.nd rfl (Or.inl rfl) (pe_callB (call_min2 rfl) (by rfl) T.min (by decide +kernel) (pa_cons pe_int (pa_cons (pe_op op_add (pe_ix ix_list (pv 1) pe_int (fun _ _ => rfl)) (pe_own O_law_take hr (by rfl) (pa_cons (pv 0) (pa_cons pe_int pa_nil)))) pa_nil))))
      (pss_one (ps_ret (pe_own O_law_woven hr (by rfl) (pa_cons (pv 0) (pa_cons (pe_own O_law_named hr (by rfl) (pa_cons (pv 0) (pa_cons (pe_ix ix_list (pv 1) pe_int (fun _ _ => rfl)) pa_nil))) (pa_cons (pv 2) pa_nil)))))))), ?_⟩
    have sz : 1000 < sizeLine := by decide
    refine ⟨_, rfl, S, s, rfl, hS, fun H1 R1 n m k1 so1 nR1 eR1 n1 n2 m2 => ?_⟩
    have S1 := hS.keep k1 so1
    refine gn_h (σ' := [some (.ref s), some (.ref R1), none]) rfl ?_
    dsimp only
    refine ⟨_, rfl, R1, _, ((1 : Nat) : Int), .int m, rfl, rfl, .of eR1, atI_nat (j := 1) rfl, _, rfl, S, s, _, rfl, so1, by decide, fun H2 t k2 so2 t0 t1 => ⟨_, _, rfl, rfl, _, _, rfl, ?_⟩⟩
    obtain ⟨mm, em, hmm⟩ : ∃ mm : Nat, (if (m : Int) + t < 8 then (m : Int) + t else 8) = (mm : Int) ∧ mm ≤ 8 := by
      by_cases h : (m : Int) + t < 8
      · exact ⟨((m : Int) + t).toNat, by rw [if_pos h]; omega, by omega⟩
      · exact ⟨8, by rw [if_neg h]; rfl, by omega⟩
    rw [em]
    have S2 := S1.keep k2 so2
    refine ⟨_, rfl, _, rfl, _, rfl, R1, _, ((0 : Nat) : Int), .int n, rfl, rfl, .of (k2 _ _ nR1 eR1), atI_nat (j := 0) rfl, S, s, _, rfl, S2, by omega, by omega, fun H3 N L k3 so3 nNs fN eN nd ln hw => ⟨_, rfl, ?_⟩⟩
    have S3 := S2.keep k3 so3
    have k13 := (k1.trans k2).trans k3
    refine ⟨S, s, N, L, mm, rfl, S3, nNs, eN, by omega, by omega, hmm, nd, hw, fun H4 R v C As Ls P crs k4 => q H4 R v C As Ls P crs (k13.trans k4)⟩


set_option maxHeartbeats 4000000 in
theorem ok_law_peeled  (F : Fun K "_law_peeled" "_law_peeled" s_law_peeled f fd) (T : Txt w K mg)
    (O_law_ups : Own P w K mg base k "_law_ups" ["net"] (sp_law_ups))
    (O_law_downs : Own P w K mg base k "_law_downs" ["net"] (sp_law_downs))
    (O_law_rule : Own P w K mg base k "_law_rule" ["ups", "downs", "held", "at"] (sp_law_rule K)) : FnOk P w K mg base CX0 (k + 1) f fd ["net", "begin"] (sp_law_peeled K) := by
  refine F.ok sc_law_peeled (fun vs H Q E h => ?_) (fun cdv A outer s0 H vs Q E hr h => ?_)
  · obtain ⟨S, x, a, As, Bs, Ls, Pl, ns, M, rfl, al, hx, g, hB, ea, hl, hM, hP, q⟩ := h
    rfl
  · obtain ⟨S, x, a, As, Bs, Ls, Pl, ns, M, rfl, al, hx, g, hB, ea, hl, hM, hP, q⟩ := h
    refine ⟨_, (pss_cons (ps_set (i := 2) sc_law_peeled.nd rfl (Or.inl rfl) (pe_own O_law_ups hr (by rfl) (pa_cons (pv 0) pa_nil)))
      (pss_cons (ps_set (i := 3) sc_law_peeled.nd rfl (Or.inl rfl) (pe_own O_law_downs hr (by rfl) (pa_cons (pv 0) pa_nil)))
      (pss_cons (ps_set (i := 4) sc_law_peeled.nd rfl (Or.inl rfl) (pe_callB (cr_sortedSet rfl) (by rfl) T.sorted (by decide +kernel) (pa_cons (pe_callTy (cr_setL rfl) (by rfl) T.set (by decide +kernel) (pa_cons (pv 1) pa_nil)) pa_nil)))
      (C8.pss_cut (ps_for PassesOwn.never rfl (pi_range1 (by rfl) T.range (pa_cons (pe_callB call_len_seq (by rfl) T.len PySem.boot_len (pa_cons (pv 1) pa_nil)) pa_nil)) (pg_name (i := 5) sc_law_peeled.nd rfl (Or.inl rfl))
        (pss_cons (ps_set (i := 6) sc_law_peeled.nd rfl (Or.inl rfl) (pe_callB call_len_seq (by rfl) T.len PySem.boot_len (pa_cons (pv 4) pa_nil)))
        (pss_cons (ps_for PassesOwn.never rfl (pi_list (pe_revL (pe_callTy call_list_of (by rfl) T.list (by decide +kernel) (pa_cons (pv 4) pa_nil)))) (pg_name (i := 7) sc_law_peeled.nd rfl (Or.inl rfl))
          (pss_one (ps_if (pt_cmpR op_isN (pe_own O_law_rule hr (by rfl) (pa_cons (pv 2) (pa_cons (pv 3) (pa_cons (pv 4) (pa_cons (pv 7) pa_nil))))) pe_non (nomark _))
            (pss_one (ps_expr (pe_bm PySem.F.plainAttrs_list PySem.F.slot_list_remove PySem.F.type_list_remove mt_remove (pv 4) (pa_cons (pv 7) pa_nil))))
            pss_nil)))
        (pss_one (ps_if (pt_cmpR op_eq (pe_callB call_len_seq (by rfl) T.len PySem.boot_len (pa_cons (pv 4) pa_nil)) (pv 6) (nomark _))
          (pss_one ps_break)
          pss_nil)))))
      (pss_one (ps_ret (pv 4))))))), ?_⟩
    have sz : 1000 < sizeLine := by decide
    have a46 := g.a46
    have l12 := g.l12
    have p64 := g.p64
    refine ⟨_, rfl, S, x, As, Bs, Ls, Pl, rfl, hx, by omega, g.asc, g.p64, hB, fun H1 U am s1 hU => ?_⟩
    have hU := hU.r
    refine gn_h (σ' := [some x, some (.ref a), some (.ref U), none, none, none, none, none]) rfl ?_
    dsimp only
    refine ⟨_, rfl, S, x, As, Bs, Ls, Pl, rfl, hx.same s1, by omega, g.asc, g.p64, hB, fun H2 D ac s2 hD => ?_⟩
    have hD := hD.r
    have hU := hU.same s2
    refine gn_h (σ' := [some x, some (.ref a), some (.ref U), some (.ref D), none, none, none, none]) rfl ?_
    dsimp only
    have s12 := s1.trans s2
    refine ⟨_, rfl, a, ns, rfl, .of (s12 _ _ ea), hl, fun T L nT nd hL => ?_⟩
    have mL : ∀ p, p ∈ M ↔ p ∈ L := fun p => (hM.2 p).trans (hL p).symm
    have ndM : M.Nodup := hM.1.imp fun h e => by omega
    have lL : L.length = M.length := ((List.perm_ext_iff_of_nodup nd ndM).mpr fun p => (mL p).symm).length_eq
    have hPM : ∀ p ∈ M, p ∈ Pl ∧ downsOf Bs p ≠ [] := fun p hp => by
      obtain ⟨h1, h2⟩ := List.mem_filter.mp (hP p hp)
      exact ⟨h1, fun e => by rw [e] at h2; cases h2⟩
    have lM : M.length < 64 := Nat.lt_of_le_of_lt (nodup_le ndM fun p hp => (hPM p hp).1) p64
    have lMn : M.length ≤ ns.length := nodup_le ndM fun p hp => (hM.2 p).mp hp
    refine ⟨T, _, _, rfl, upd_same, by omega, fun ms R om hm _ nR => ?_⟩
    obtain rfl : ms = M := asc_eq om hM.1 fun p => by
      rw [hm, decide_eq_true_iff]
      exact (hM.2 p).symm
    have nR2 : H2 R = none := by
      have h1 : R ≠ T := fun z => by rw [z, upd_same] at nR; cases nR
      rw [upd_ne h1] at nR
      exact nR
    have nRH : H R = none := s12.free nR2
    refine gn_h (σ' := [some x, some (.ref a), some (.ref U), some (.ref D), some (.ref R), none, none, none]) rfl ?_
    dsimp only
    refine heap_h (H' := upd (upd H2 T (SetO w T (fun j => decide (j ∈ ns)) L.length)) R (.lst (ms.map V.int))) (fun H3 => Same H2 H3 ∧ H3 R = some (.lst (ms.map V.int))) ⟨same_snoc (same_snoc (Same.refl _) nT) nR, upd_same⟩ ?_
    rintro H3 ⟨s3, eR3⟩
    clear nR nT nd hL mL lL T
    refine ⟨fun σ' H' => Same H2 H' ∧ (∃ u5 u6 u7 : Option V, σ' = [some x, some (.ref a), some (.ref U), some (.ref D), some (.ref R), u5, u6, u7]) ∧ H' R = some (.lst ((knot Bs ms).map V.int)), ?_, ?_⟩
    · refine ⟨_, rfl, a, _, rfl, .inl (.of (s3 _ _ (s12 _ _ ea))), _, rfl, ?_, ?_, ?_⟩
      · rw [List.length_map]
        omega
      · rw [List.length_map]
        omega
      have ln : ((((ns.map V.int).length : Nat) : Int)).toNat = ns.length := by rw [List.length_map]; rfl
      refine for_range (n := ((((ns.map V.int).length : Nat) : Int)).toNat) (fun t σ H' => Same H2 H' ∧ (∃ u5 u6 u7 : Option V, σ = [some x, some (.ref a), some (.ref U), some (.ref D), some (.ref R), u5, u6, u7]) ∧ ∃ L : List Int, H' R = some (.lst (L.map V.int)) ∧ Peels Bs ms L ∧ L.length + t ≤ ms.length) ⟨s3, ⟨_, _, _, rfl⟩, ms, eR3, .refl, by omega⟩ ?_ ?_
      · rintro t σ H4 ht ⟨sm, ⟨u5, u6, u7, rfl⟩, L, eR, pe, hlt⟩
        have ndL : L.reverse.Nodup := (List.reverse_perm L).nodup_iff.mpr (ndM.sublist pe.sub)
        refine ⟨_, rfl, R, _, rfl, .inl (.of eR), ?_⟩
        refine gn_h (σ' := [some x, some (.ref a), some (.ref U), some (.ref D), some (.ref R), some (.int (0 + (t : Int))), some (.int (((L.map V.int).length : Nat) : Int)), u7]) rfl ?_
        dsimp only
        refine ⟨_, rfl, R, _, rfl, .inl (.of eR), fun T1 nT1 => ⟨T1, _, rfl, .of upd_same, fun T2 nT2 => ⟨T2, rfl, ⟨_, .of upd_same⟩, ?_⟩⟩⟩
        have s5 : Same H4 (upd (upd H4 T1 (.lst (L.map V.int))) T2 (.lst (L.map V.int).reverse)) := same_snoc (same_snoc (Same.refl _) nT1) nT2
        have eT5 : upd (upd H4 T1 (.lst (L.map V.int))) T2 (.lst (L.map V.int).reverse) T2 = some (.lst (L.reverse.map V.int)) := by rw [upd_same, List.map_reverse]
        have nTR : T2 ≠ R := fun z => by
          have h1 : T2 ≠ T1 := fun z2 => by rw [z2, upd_same] at nT2; cases nT2
          rw [upd_ne h1, z, eR] at nT2
          cases nT2
        rw [show (L.map V.int).reverse = L.reverse.map V.int from (List.map_reverse ..).symm] at s5 eT5 ⊢
        generalize upd (upd H4 T1 (.lst (L.map V.int))) T2 (.lst (L.reverse.map V.int)) = H5 at s5 eT5 ⊢
        clear nT1 nT2
        refine for_it (walk_list (K := K) (a := T2) (xs := L.reverse.map V.int)) (fun i σ H' => Same H2 H' ∧ H' T2 = some (.lst (L.reverse.map V.int)) ∧ (∃ u7 : Option V, σ = [some x, some (.ref a), some (.ref U), some (.ref D), some (.ref R), some (.int (0 + (t : Int))), some (.int (((L.map V.int).length : Nat) : Int)), u7]) ∧ ∃ L' : List Int, H' R = some (.lst (L'.map V.int)) ∧ Peels Bs ms L' ∧ L'.length ≤ L.length ∧ (∀ p ∈ L.reverse.drop i, p ∈ L') ∧ ((L' = L ∧ ∀ p ∈ L.reverse.take i, heldB Bs L p = true) ∨ L'.length < L.length)) ⟨sm.trans s5, eT5, ⟨_, rfl⟩, L, s5 _ _ eR, pe, Nat.le_refl _, fun p hp => List.mem_reverse.mp hp, .inl ⟨rfl, fun p hp => by simp at hp⟩⟩ (fun i σ H' _ h => .of h.2.1) ?_ ?_
        · rintro i xv σ H6 H7 hi ⟨s6, eT6, ⟨v7, rfl⟩, L', eR6, pe6, le6, dr6, or6⟩ ⟨rfl, hxv⟩
          obtain ⟨p, hp, rfl⟩ := int_at hxv
          have pL' : p ∈ L' := dr6 p (List.mem_iff_getElem?.mpr ⟨0, by rw [List.getElem?_drop]; exact hp⟩)
          have pms := pe6.sub.subset pL'
          refine ⟨_, rfl, _, rfl, _, rfl, _, rfl, U, D, R, As, Bs, Ls, Pl, am, ac, L', p, rfl, hU.same s6, hD.same s6, g, hB, eR6, by omega, (hPM p pms).1, (hPM p pms).2, fun H8 s8 => ⟨rfl, _, rfl, ?_⟩⟩
          have s68 := s6.trans s8
          have tk : L.reverse.take (i + 1) = L.reverse.take i ++ [p] := (take_snoc hp).symm
          have dr : ∀ q ∈ L.reverse.drop (i + 1), q ∈ L' ∧ q ≠ p := fun q hq => by
            obtain ⟨j, hj⟩ := List.mem_iff_getElem?.mp hq
            rw [List.getElem?_drop] at hj
            refine ⟨dr6 q (List.mem_iff_getElem?.mpr ⟨j + 1, by rw [List.getElem?_drop, ← hj]; congr 1; omega⟩), fun z => ?_⟩
            rw [z] at hj
            obtain ⟨a1, b1⟩ := List.getElem?_eq_some_iff.mp hj
            obtain ⟨a2, b2⟩ := List.getElem?_eq_some_iff.mp hp
            have := (List.getElem_inj ndL).mp (b1.trans b2.symm)
            omega
          cases c : heldB Bs L' p with
          | true =>
            obtain ⟨z, hz⟩ := ruleV_held c
            rw [hz, decide_eq_false (by simp)]
            refine ite2 (fun e => absurd e (by decide)) fun _ => ?_
            refine ⟨s68, s8 _ _ eT6, ⟨_, rfl⟩, L', s8 _ _ eR6, pe6, le6, fun q hq => (dr q hq).1, ?_⟩
            rcases or6 with ⟨rfl, h⟩ | h
            · refine .inl ⟨rfl, fun q hq => ?_⟩
              rw [tk] at hq
              rcases List.mem_append.mp hq with hq | hq
              · exact h q hq
              · rw [List.mem_singleton.mp hq]
                exact c
            · exact .inr h
          | false =>
            rw [ruleV_free c, decide_eq_true rfl]
            refine ite2 (fun _ => ?_) fun e => absurd rfl e
            have eR8 := s8 _ _ eR6
            obtain ⟨j, hj, hno, her⟩ := erase_at pL'
            refine ⟨_, rfl, .inl ⟨rfl, _, .of eR8⟩, _, rfl, R, L', p, j, rfl, rfl, eR8, hj, hno, ?_⟩
            rw [her]
            have le := List.length_erase_of_mem pL'
            have lp := List.length_pos_of_mem pL'
            exact ⟨same_upd s68 nR2, by rw [upd_ne nTR]; exact s8 _ _ eT6, ⟨_, rfl⟩, _, upd_same, pe6.erase c, by omega, fun q hq => (List.mem_erase_of_ne (dr q hq).2).mpr (dr q hq).1, .inr (by omega)⟩
        rintro σ H6 ⟨s6, eT6, ⟨v7, rfl⟩, L', eR6, pe6, le6, dr6, or6⟩
        refine ⟨_, rfl, R, _, rfl, .inl (.of eR6), _, rfl, rfl, _, rfl, ?_⟩
        by_cases c : L'.length = L.length
        · rw [decide_eq_true (by rw [List.length_map, List.length_map, c])]
          refine ite2 (fun _ => ?_) fun e => absurd rfl e
          refine ⟨s6, ⟨_, _, _, rfl⟩, ?_⟩
          rcases or6 with ⟨rfl, h⟩ | h
          · rw [eR6, ← pe6.done hM.1 fun p hp => h p (by rw [List.length_map, List.take_length]; exact List.mem_reverse.mpr hp)]
          · omega
        · rw [decide_eq_false (fun e => c (by have := V.int.inj e; rw [List.length_map, List.length_map] at this; omega))]
          refine ite2 (fun e => absurd e (by decide)) fun _ => ?_
          exact ⟨s6, ⟨_, _, _, rfl⟩, L', eR6, pe6, by omega⟩
      rintro σ H4 ⟨sm, ⟨u5, u6, u7, rfl⟩, L, eR, pe, hlt⟩
      refine ⟨sm, ⟨_, _, _, rfl⟩, ?_⟩
      have l0 : L = [] := List.length_eq_zero_iff.mp (by omega)
      rw [eR, ← pe.done hM.1 (by rw [l0]; exact fun p hp => by cases hp)]
    rintro σ' H4 ⟨sm, ⟨u5, u6, u7, rfl⟩, eR⟩
    exact ⟨_, rfl, q H4 R (s12.trans sm) nRH eR⟩


set_option maxHeartbeats 4000000 in
theorem ok_law_core  (F : Fun K "_law_core" "_law_core" s_law_core f fd) (T : Txt w K mg)
    (O_law_peeled : Own P w K mg base k "_law_peeled" ["net", "begin"] (sp_law_peeled K))
    (O_law_inner : Own P w K mg base k "_law_inner" ["net", "many"] (sp_law_inner)) : FnOk P w K mg base CX0 (k + 1) f fd ["net"] (sp_law_core K) := by
  refine F.ok sc_law_core (fun vs H Q E h => ?_) (fun cdv A outer s0 H vs Q E hr h => ?_)
  · obtain ⟨S, x, As, Bs, Ls, Pl, I, rfl, al, hx, g, hB, hI, q⟩ := h
    rfl
  · obtain ⟨S, x, As, Bs, Ls, Pl, I, rfl, al, hx, g, hB, hI, q⟩ := h
    refine ⟨_, (pss_cons (ps_set (i := 1) sc_law_core.nd rfl (Or.inl rfl) (pe_own O_law_peeled hr (by rfl) (pa_cons (pv 0) (pa_cons (pe_own O_law_inner hr (by rfl) (pa_cons (pv 0) (pa_cons pe_int pa_nil))) pa_nil))))
      (pss_cons (ps_for PassesOwn.never rfl (pi_list (pe_callTy call_list_of (by rfl) T.list (by decide +kernel) (pa_cons (pv 1) pa_nil))) (pg_name (i := 2) sc_law_core.nd rfl (Or.inr rfl))
        (pss_one (ps_if (pt_cmpR op_in_seq (pv 2) (pv 1) rfl)
          (pss_cons (ps_set (i := 3) sc_law_core.nd rfl (Or.inl rfl) (pe_own O_law_peeled hr (by rfl) (pa_cons (pv 0) (pa_cons (pe_lc (own := [("at", 4)]) (by rfl) sc_law_core.nd (pi_list (pv 1)) (blkOk_by (own := [("at", 4)]) (N := ["net", "left", "place", "less", "at"]) (sc := defScope s_law_core) (by decide +kernel)) (fun _ _ _ _ _ => pg_name (i := 4) sc_law_core.nd rfl (Or.inl rfl)) (fun _ _ _ _ _ => (pts_one (pt_cmpR op_ne (pv 4) (pv 2) (nomark _)))) (fun _ _ _ _ _ => (pv 4))) pa_nil))))
          (pss_one (ps_if (pt_cmpR op_gt (pe_callB call_len_seq (by rfl) T.len PySem.boot_len (pa_cons (pv 3) pa_nil)) pe_int (nomark _))
            (pss_one (ps_set (i := 1) sc_law_core.nd rfl (Or.inl rfl) (pv 3)))
            pss_nil)))
          pss_nil)))
      (pss_one (ps_ret (pv 1))))), ?_⟩
    have sz : 1000 < sizeLine := by decide
    have a46 := g.a46
    have l12 := g.l12
    have p64 := g.p64
    have iI : ∀ p ∈ I, p ∈ Pl.filter fun p => !(downsOf Bs p).isEmpty := fun p hp => by rw [← hI]; exact hp
    have lI : I.length < 64 := by rw [hI]; exact Nat.lt_of_le_of_lt (List.length_filter_le _ _) p64
    have aI : Asc I I := ⟨by rw [hI]; exact g.asc.1.filter _, fun _ => Iff.rfl⟩
    refine ⟨_, rfl, _, rfl, S, x, As, Bs, Ls, Pl, 0, rfl, hx, by omega, g.asc, p64, hB, fun H1 R0 s1 nR0 eR0 => ?_⟩
    have eR0 : H1 R0 = some (.lst (I.map V.int)) := by rw [hI]; exact eR0
    refine ⟨S, x, R0, As, Bs, Ls, Pl, I, I, rfl, al.same s1, hx.same s1, g, hB, eR0, by omega, aI, iI, fun H2 R1 s2 nR1 eR1 => ?_⟩
    have s12 := s1.trans s2
    have nR1 := s1.free nR1
    have lK : (knot Bs I).length < 64 := Nat.lt_of_le_of_lt knot_sub.length_le lI
    refine gn_h (σ' := [some x, some (.ref R1), none, none, none]) rfl ?_
    dsimp only
    refine ⟨_, rfl, R1, _, rfl, .inl (.of eR1), fun T nT => ⟨T, rfl, ⟨_, .of upd_same⟩, ?_⟩⟩
    have s3 : Same H2 (upd H2 T (.lst ((knot Bs I).map V.int))) := same_snoc (Same.refl _) nT
    have eT : upd H2 T (.lst ((knot Bs I).map V.int)) T = some (.lst ((knot Bs I).map V.int)) := upd_same
    generalize upd H2 T (.lst ((knot Bs I).map V.int)) = H3 at s3 eT ⊢
    refine for_it (walk_list (K := K) (a := T) (xs := (knot Bs I).map V.int)) (fun i σ H' => Same H H' ∧ H' T = some (.lst ((knot Bs I).map V.int)) ∧ ∃ (CA : Addr) (u v : Option V), σ = [some x, some (.ref CA), u, v, none] ∧ H CA = none ∧ H' CA = some (.lst ((((knot Bs I).take i).foldl (coreS Bs) (knot Bs I)).map V.int))) ⟨s12.trans s3, eT, R1, _, _, rfl, nR1, s3 _ _ eR1⟩ (fun i σ H' _ h => .of h.2.1) ?_ ?_
    · rintro i xv σ H4 H5 hi ⟨sm, eT4, CA, u, v, rfl, nCA, eCA⟩ ⟨rfl, hxv⟩
      obtain ⟨p, hp, rfl⟩ := int_at hxv
      obtain ⟨C, hC⟩ : ∃ C, C = ((knot Bs I).take i).foldl (coreS Bs) (knot Bs I) := ⟨_, rfl⟩
      rw [← hC] at eCA
      rw [fold_snoc hp, ← hC]
      have subC : C.Sublist I := by rw [hC]; exact fold_sub.trans knot_sub
      have lC := subC.length_le
      clear hC
      refine ifs_h ?_
      refine ⟨_, rfl, _, rfl, CA, _, rfl, .inl (.of eCA), rfl, flat_ints, _, rfl, ?_⟩
      rw [inV_ints]
      unfold coreS
      by_cases h : p ∈ C
      · rw [decide_eq_true h, if_pos h]
        refine ite2 (fun _ => ?_) fun e => absurd rfl e
        refine ⟨_, rfl, ?_⟩
        refine lc_listF (K := K) (a := CA) (fun R h => ⟨_, rfl, h⟩) eCA (fun x => decide (x ≠ p)) (by omega) (fun _ => rfl) (fun _ => rfl) ?_ ?_
        · intro x hx H6 k s6 hk
          refine ⟨_, rfl, _, rfl, rfl, _, rfl, ?_⟩
          rw [show (!decide (V.int x = V.int p)) = decide (x ≠ p) by by_cases h : x = p <;> simp [h]]
          exact hk H6 (Same.refl _)
        intro R2 H6 nR2 s6 eR2
        have lf := List.length_filter_le (fun x => decide (x ≠ p)) C
        have subF : (C.filter fun x => decide (x ≠ p)).Sublist I := List.filter_sublist.trans subC
        have sm6 := sm.trans s6
        refine ⟨S, x, R2, As, Bs, Ls, Pl, _, _, rfl, al.same sm6, hx.same sm6, g, hB, eR2, by omega, ⟨aI.1.sublist subF, fun _ => Iff.rfl⟩, fun y hy => iI y (subF.subset hy), fun H7 R3 s7 nR3 eR3 => ?_⟩
        refine gn_h (σ' := [some x, some (.ref CA), some (.int p), some (.ref R3), none]) rfl ?_
        dsimp only
        refine ifs_h ?_
        have s67 := s6.trans s7
        refine ⟨_, rfl, R3, _, rfl, .inl (.of eR3), _, _, rfl, rfl, _, rfl, ?_⟩
        by_cases e : knot Bs (C.filter fun x => decide (x ≠ p)) = []
        · rw [if_pos e, e]
          refine ite2 (fun e => absurd e (by decide)) fun _ => ?_
          exact ⟨sm.trans s67, s67 _ _ eT4, CA, _, _, rfl, nCA, s67 _ _ eCA⟩
        · rw [if_neg e]
          have lp := List.length_pos_iff.mpr e
          refine ite2 (fun _ => ?_) fun z => absurd (decide_eq_true (by rw [List.length_map]; omega)) z
          exact ⟨_, rfl, sm.trans s67, s67 _ _ eT4, R3, _, _, rfl, sm6.free nR3, eR3⟩
      · rw [decide_eq_false h, if_neg h]
        refine ite2 (fun e => absurd e (by decide)) fun _ => ?_
        exact ⟨sm, eT4, CA, _, _, rfl, nCA, eCA⟩
    rintro σ H4 ⟨sm, eT4, CA, u, v, rfl, nCA, eCA⟩
    refine ⟨_, rfl, q H4 CA sm nCA ?_⟩
    rw [List.length_map, List.take_length] at eCA
    exact eCA


set_option maxHeartbeats 4000000 in
theorem ok_law_is_core  (F : Fun K "_law_is_core" "_law_is_core" s_law_is_core f fd) (T : Txt w K mg)
    (O_law_peeled : Own P w K mg base k "_law_peeled" ["net", "begin"] (sp_law_peeled K))
    (O_law_rising : Own P w K mg base k "_law_rising" ["things"] (sp_law_rising K)) : FnOk P w K mg base CX0 (k + 1) f fd ["net", "told"] (sp_law_is_core K) := by
  refine F.ok sc_law_is_core (fun vs H Q E h => ?_) (fun cdv A outer s0 H vs Q E hr h => ?_)
  · obtain ⟨S, x, a, As, Bs, Ls, Pl, I, rfl, al, hx, g, hB, hI, ea, q⟩ := h
    rfl
  · obtain ⟨S, x, a, As, Bs, Ls, Pl, I, rfl, al, hx, g, hB, hI, ea, q⟩ := h
    refine ⟨_, (pss_cons (ps_if (PW.pt (pw_or (pt_not (pt_val (pe_own O_law_rising hr (by rfl) (pa_cons (pv 1) pa_nil)))) (pw_or1 (pt_cmpR (op_neD hr.units) (pe_own O_law_peeled hr (by rfl) (pa_cons (pv 0) (pa_cons (pv 1) pa_nil))) (pv 1) (nomark _)))))
        (pss_one (ps_ret pe_bl))
        pss_nil)
      (pss_cons (ps_for PassesOwn.never rfl (pi_list (pv 1)) (pg_name (i := 2) sc_law_is_core.nd rfl (Or.inr rfl))
        (pss_one (ps_if (pt_cmpR op_gt (pe_callB call_len_seq (by rfl) T.len PySem.boot_len (pa_cons (pe_own O_law_peeled hr (by rfl) (pa_cons (pv 0) (pa_cons (pe_lc (own := [("at", 3)]) (by rfl) sc_law_is_core.nd (pi_list (pv 1)) (blkOk_by (own := [("at", 3)]) (N := ["net", "told", "place", "at"]) (sc := defScope s_law_is_core) (by decide +kernel)) (fun _ _ _ _ _ => pg_name (i := 3) sc_law_is_core.nd rfl (Or.inl rfl)) (fun _ _ _ _ _ => (pts_one (pt_cmpR op_ne (pv 3) (pv 2) (nomark _)))) (fun _ _ _ _ _ => (pv 3))) pa_nil))) pa_nil)) pe_int (nomark _))
          (pss_one (ps_ret pe_bl))
          pss_nil)))
      (pss_one (ps_ret pe_bl)))), ?_⟩
    have sz : 1000 < sizeLine := by decide
    have a46 := g.a46
    have l12 := g.l12
    have p64 := g.p64
    have iI : ∀ p ∈ I, p ∈ Pl.filter fun p => !(downsOf Bs p).isEmpty := fun p hp => by rw [← hI]; exact hp
    have lI : I.length < 64 := by rw [hI]; exact Nat.lt_of_le_of_lt (List.length_filter_le _ _) p64
    have subC : (coreL Bs I).Sublist I := coreL_sub.trans knot_sub
    have lC := subC.length_le
    have aI : I.Pairwise (· < ·) := by rw [hI]; exact g.asc.1.filter _
    have aC : Asc (coreL Bs I) (coreL Bs I) := ⟨aI.sublist subC, fun _ => Iff.rfl⟩
    have kC : knot Bs (coreL Bs I) = coreL Bs I := knot_self coreL_kn
    have mC : ∀ {p : Int}, p ∈ coreL Bs I → knot Bs ((coreL Bs I).filter fun x => decide (x ≠ p)) = [] := fun h => coreL_min h
    generalize coreL Bs I = C at ea subC lC aC kC mC
    have rise : ∀ {L : List Int}, L.Pairwise (· < ·) → ∀ (i : Nat) (x y : Int), L[i]? = some x → L[i + 1]? = some y → x < y := fun h i x y h1 h2 => by
      obtain ⟨a1, b1⟩ := List.getElem?_eq_some_iff.mp h1
      obtain ⟨a2, b2⟩ := List.getElem?_eq_some_iff.mp h2
      have := List.pairwise_iff_getElem.mp h i (i + 1) a1 a2 (by omega)
      rw [b1, b2] at this
      exact this
    refine seq_ifs_h ?_
    refine ⟨_, rfl, a, C, rfl, ea, by omega, fun b hb => ⟨_, rfl, ?_⟩⟩
    obtain rfl := hb.mpr (rise aC.1)
    refine ite2 (fun e => absurd e (by decide)) fun _ => ?_
    refine ⟨_, rfl, _, rfl, S, x, a, As, Bs, Ls, Pl, C, C, rfl, al, hx, g, hB, ea, by omega, aC, fun p hp => iI p (subC.subset hp), fun H1 R1 s1 nR1 eR1 => ?_⟩
    rw [kC] at eR1
    refine ⟨_, rfl, _, _, .lst (.of eR1) dp_ints, .lst (.of (s1 _ _ ea)) dp_ints, shaped_ints _, shaped_ints _, _, rfl, ?_⟩
    rw [eqv_ints, decide_eq_true rfl]
    refine ite2 (fun e => absurd e (by decide)) fun _ => ?_
    refine next_h ?_
    dsimp only
    refine ⟨_, rfl, a, rfl, ⟨_, .of (s1 _ _ ea)⟩, ?_⟩
    refine for_it (walk_list (K := K) (a := a) (xs := C.map V.int)) (fun i σ H' => (∃ u, σ = [some x, some (.ref a), u, none]) ∧ Same H H') ⟨⟨_, rfl⟩, s1⟩ (fun i σ H' _ h => .of (h.2 _ _ ea)) ?_ ?_
    · rintro i xv σ H4 H5 hi ⟨⟨u, rfl⟩, sm⟩ ⟨rfl, hxv⟩
      obtain ⟨p, hp, rfl⟩ := int_at hxv
      refine ifs_h ?_
      refine ⟨_, rfl, ?_⟩
      refine lc_listF (K := K) (a := a) (fun R h => ⟨_, rfl, h⟩) (sm _ _ ea) (fun x => decide (x ≠ p)) (by omega) (fun _ => rfl) (fun _ => rfl) ?_ ?_
      · intro x hx H6 k s6 hk
        refine ⟨_, rfl, _, rfl, rfl, _, rfl, ?_⟩
        rw [show (!decide (V.int x = V.int p)) = decide (x ≠ p) by by_cases h : x = p <;> simp [h]]
        exact hk H6 (Same.refl _)
      intro R2 H6 nR2 s6 eR2
      have lf := List.length_filter_le (fun x => decide (x ≠ p)) C
      have subF : (C.filter fun x => decide (x ≠ p)).Sublist I := List.filter_sublist.trans subC
      have sm6 := sm.trans s6
      refine ⟨S, x, R2, As, Bs, Ls, Pl, _, _, rfl, al.same sm6, hx.same sm6, g, hB, eR2, by omega, ⟨aI.sublist subF, fun _ => Iff.rfl⟩, fun y hy => iI y (subF.subset hy), fun H7 R3 s7 nR3 eR3 => ?_⟩
      rw [mC (List.mem_of_getElem? hp)] at eR3
      refine ⟨R3, _, rfl, .inl (.of eR3), _, _, rfl, rfl, _, rfl, ?_⟩
      refine ite2 (fun e => absurd e (by decide)) fun _ => ?_
      exact ⟨⟨_, rfl⟩, sm6.trans s7⟩
    rintro σ H4 ⟨_, sm⟩
    exact q H4 sm


set_option maxHeartbeats 4000000 in
theorem ok_law_holds  (F : Fun K "_law_holds" "_law_holds" s_law_holds f fd) (T : Txt w K mg)
    (O_law_core : Own P w K mg base k "_law_core" ["net"] (sp_law_core K))
    (O_knot_core : Own P w K mg base k "knot_core" ["net"] (sp_knot_core K))
    (O_law_is_core : Own P w K mg base k "_law_is_core" ["net", "told"] (sp_law_is_core K))
    (O_law_same : Own P w K mg base k "_law_same" ["given", "due"] (sp_law_same 71))
    (O_law_is_net : Own P w K mg base k "_law_is_net" ["given", "net"] (sp_law_is_net K)) : FnOk P w K mg base CX0 (k + 1) f fd ["made", "net", "crowned"] (sp_law_holds K) := by
  refine F.ok sc_law_holds (fun vs H Q E h => ?_) (fun cdv A outer s0 H vs Q E hr h => ?_)
  · obtain ⟨S, o, x, y, As, Ls, Ls', Ms, Pl, root, crs, rfl, al, hN, hx, hy, hcr, hcl, g, hB, hL, hp, q⟩ := h
    rfl
  · obtain ⟨S, o, x, y, As, Ls, Ls', Ms, Pl, root, crs, rfl, al, hN, hx, hy, hcr, hcl, g, hB, hL, hp, q⟩ := h
    refine ⟨_, (pss_cons (ps_set (i := 3) sc_law_holds.nd rfl (Or.inl rfl) (pe_own O_law_core hr (by rfl) (pa_cons (pv 1) pa_nil)))
      (pss_cons (ps_set (i := 4) sc_law_holds.nd rfl (Or.inl rfl) (pe_own O_knot_core hr (by rfl) (pa_cons (pv 0) pa_nil)))
      (pss_cons (ps_if (PW.pt (pw_or (pt_not (pt_val (pe_own O_law_same hr (by rfl) (pa_cons (pv 4) (pa_cons (pv 3) pa_nil))))) (pw_or1 (pt_not (pt_val (pe_own O_law_is_core hr (by rfl) (pa_cons (pv 1) (pa_cons (pv 4) pa_nil))))))))
        (pss_one (ps_ret pe_bl))
        pss_nil)
      (pss_cons (ps_if (PW.pt (pw_and (pt_cmpR op_gt (pe_callB call_len_seq (by rfl) T.len PySem.boot_len (pa_cons (pv 2) pa_nil)) pe_int (nomark _)) (pw_and1 (pt_cmpR op_eq (pe_callB call_len_seq (by rfl) T.len PySem.boot_len (pa_cons (pv 4) pa_nil)) pe_int (nomark _)))))
        (pss_one (ps_ret pe_bl))
        pss_nil)
      (pss_cons (ps_expr (pe_bm PySem.F.plainAttrs_list PySem.F.slot_list_append PySem.F.type_list_append mt_append (pv 4) (pa_cons (pe_un un_neg pe_int) pa_nil)))
      (pss_one (ps_ret (pe_and (pe_own O_law_same hr (by rfl) (pa_cons (pe_ownK0 O_knot_core hr (by rfl) (pk_cons (pv 0) pk_nil)) (pa_cons (pv 3) pa_nil))) (pe_one (pe_own O_law_is_net hr (by rfl) (pa_cons (pv 0) (pa_cons (pv 1) pa_nil)))))))))))), ?_⟩
    have sz : 1000 < sizeLine := by decide
    have absd : ∀ {α : Prop}, (!true) = true → α := fun e => absurd e (by decide)
    have a46 := g.a46
    have l12 := g.l12
    have p64 := g.p64
    have gL' : Good As Ls' Pl := g.perm (.refl _) hp
    have at_ : ∀ {H' : Hp}, Same H H' → NetAt S K H' o As Ls' Ms Pl root := fun s => hN.go fun b u hb e => ⟨hb, s _ _ e⟩
    obtain ⟨I, hI⟩ : ∃ I, I = Pl.filter fun p => !(downsOf As p).isEmpty := ⟨_, rfl⟩
    have lI : I.length < 64 := by rw [hI]; exact Nat.lt_of_le_of_lt (List.length_filter_le _ _) p64
    have lC : (coreL As I).length < 64 := Nat.lt_of_le_of_lt (coreL_sub.trans knot_sub).length_le lI
    have dk : Dd 1000 1 (.list ((coreL As I).map PyData.int)) := dd_ints (by omega)
    refine ⟨_, rfl, S, x, As, As, Ls, Pl, I, rfl, al, hx, g, hB, hI, fun H1 R1 s1 nR1 eR1 => ?_⟩
    refine gn_h (σ' := [some (.ref o), some x, some y, some (.ref R1), none]) rfl ?_
    dsimp only
    refine ⟨_, rfl, S, o, As, As, Ls', Ms, Pl, root, I, rfl, at_ s1, gL', hB, hI, fun H2 R2 s2 nR2 eR2 => ?_⟩
    refine gn_h (σ' := [some (.ref o), some x, some y, some (.ref R1), some (.ref R2)]) rfl ?_
    dsimp only
    have s12 := s1.trans s2
    have al1 := al.same s1
    have al2 := al.same s12
    have n12 : R1 ≠ R2 := ne_of_none eR1 nR2
    refine seq_ifs_h ?_
    refine ⟨_, rfl, _, rfl, S, .ref R2, .ref R1, _, _, 1000, 1, rfl, al2, .lst (al1.free nR2) eR2 ints_daAll, .lst (al.free nR1) (s2 _ _ eR1) ints_daAll, dk, by decide, by decide, fun H3 b s3 hb => ⟨_, rfl, ?_⟩⟩
    obtain rfl := hb.mpr rfl
    refine ite2 absd fun _ => ?_
    have s13 := s12.trans s3
    refine ⟨_, rfl, _, rfl, S, x, R2, As, As, Ls, Pl, I, rfl, al.same s13, hx.same s13, g, hB, hI, s3 _ _ eR2, fun H4 s4 => ⟨_, rfl, ?_⟩⟩
    refine ite2 absd fun _ => ?_
    refine next_h ?_
    dsimp only
    have s14 := s13.trans s4
    have s24 := s3.trans s4
    obtain ⟨C, cs, rfl, nC, eC, hC⟩ := hy.list
    have lcs : cs.length = crs.length := by rw [hC.length, List.length_map]
    have eR24 := s24 _ _ eR2
    have eR14 := s24 _ _ (s2 _ _ eR1)
    refine seq_ifs_h (tand_h (fun R h => ⟨_, rfl, C, _, rfl, .inl (.of (s14 _ _ eC)), _, _, rfl, rfl, _, rfl, h⟩) (fun R h => ⟨_, rfl, R2, _, rfl, .inl (.of eR24), rfl, _, rfl, h⟩) ?_)
    refine ite2 (fun e => ?_) fun _ => ?_
    · refine absurd e ?_
      rw [Bool.and_eq_true, decide_eq_true_iff, decide_eq_true_iff]
      rintro ⟨e1, e2⟩
      have e2 := V.int.inj e2
      rw [List.length_map] at e2
      have c0 : coreL As I = [] := List.length_eq_zero_iff.mp (by omega)
      refine coreL_ne ?_ c0
      match crs, hcr, lcs with
      | [], _, lcs => rw [lcs] at e1; exact absurd e1 (by decide)
      | cr :: _, hcr, _ =>
        have hc := hcr cr (by simp)
        obtain ⟨kn, inn⟩ := hc.kn g hB
        obtain ⟨_, a1, _, _, _, pm, _⟩ := hc
        intro z
        have := knot_max kn (M := I) (fun p hp => by rw [hI]; exact inn p hp) a1 (pm.mem_iff.mpr (by simp))
        rw [z] at this
        cases this
    refine next_h ?_
    dsimp only
    refine ⟨_, rfl, .inl ⟨rfl, _, .of eR24⟩, _, rfl, R2, _, .int (-1), rfl, rfl, eR24, (by rw [List.length_map]; omega), ?_⟩
    have s15 : Same H (upd H4 R2 (.lst ((coreL As I).map V.int ++ [.int (-1)]))) := same_upd s14 (s1.free nR2)
    have eR15 : upd H4 R2 (.lst ((coreL As I).map V.int ++ [.int (-1)])) R1 = _ := (upd_ne n12).trans eR14
    generalize upd H4 R2 (.lst ((coreL As I).map V.int ++ [.int (-1)])) = H5 at s15 eR15 ⊢
    refine ⟨_, rfl, rfl, S, o, As, As, Ls', Ms, Pl, root, I, rfl, at_ s15, gL', hB, hI, fun H6 R6 s6 nR6 eR6 => ?_⟩
    have s16 := s15.trans s6
    refine ⟨_, rfl, S, .ref R6, .ref R1, _, _, 1000, 1, rfl, al.same s16, .lst ((al.same s15).free nR6) eR6 ints_daAll, .lst (al.free nR1) (s6 _ _ eR15) ints_daAll, dk, by decide, by decide, fun H7 b s7 hb => ⟨_, rfl, ?_⟩⟩
    obtain rfl := hb.mpr rfl
    refine ite2 (fun _ => ?_) fun e => absurd rfl e
    have s17 := s16.trans s7
    exact ⟨_, rfl, _, rfl, S, o, x, As, As, Ls, Ls', Ms, Pl, root, rfl, al.same s17, at_ s17, hx.same s17, g, hB, hL, fun H8 s8 => q H8 (s17.trans s8)⟩


set_option maxHeartbeats 4000000 in
theorem ok_law  (F : Fun K "law" "law" s_law f fd) (T : Txt w K mg)
    (O_law_store : Own P w K mg base k "_law_store" ["script"] (sp_law_store K))
    (O_law_tangled : Own P w K mg base k "_law_tangled" ["store"] (sp_law_tangled K))
    (O_Net___init : OwnC P w K mg base k "Net" (He.ga K "Net") ["self", "arrows", "leaves"] (sp_Net___init K))
    (O_law_holds : Own P w K mg base k "_law_holds" ["made", "net", "crowned"] (sp_law_holds K)) : FnOk P w K mg base CX0 (k + 1) f fd ["script"] (sp_law K) := by
  refine F.ok sc_law (fun vs H Q E h => ?_) (fun cdv A outer s0 H vs Q E hr h => ?_)
  · obtain ⟨a, ns, rfl, hns, hlen, q⟩ := h
    rfl
  · obtain ⟨a, ns, rfl, hns, hlen, q⟩ := h
    refine ⟨_, (pss_cons (ps_set (i := 1) sc_law.nd rfl (Or.inl rfl) (pe_own O_law_store hr (by rfl) (pa_cons (pv 0) pa_nil)))
      (pss_cons (ps_set (i := 2) sc_law.nd rfl (Or.inl rfl) (pe_lst pa_nil))
      (pss_cons (ps_for PassesOwn.never rfl (pi_range1 (by rfl) T.range (pa_cons pe_int pa_nil)) (pg_name (i := 3) sc_law.nd rfl (Or.inl rfl))
        (pss_cons (ps_set (i := 4) sc_law.nd rfl (Or.inl rfl) (pe_own O_law_tangled hr (by rfl) (pa_cons (pv 1) pa_nil)))
        (pss_one (ps_expr (pe_bm PySem.F.plainAttrs_list PySem.F.slot_list_append PySem.F.type_list_append mt_append (pv 2) (pa_cons (pe_lst (pa_cons (pe_ownC O_Net___init hr (by rfl) (pa_cons (pe_callTy call_list_of (by rfl) T.list (by decide +kernel) (pa_cons (pe_ix ix_list (pe_ix ix_list (pv 4) pe_int (fun _ _ => rfl)) pe_int (fun _ _ => rfl)) pa_nil)) (pa_cons (pe_callTy call_list_of (by rfl) T.list (by decide +kernel) (pa_cons (pe_ix ix_list (pe_ix ix_list (pv 4) pe_int (fun _ _ => rfl)) pe_int (fun _ _ => rfl)) pa_nil)) pa_nil))) (pa_cons (pe_ix ix_list (pv 4) pe_int (fun _ _ => rfl)) (pa_cons (pe_ix ix_list (pv 4) pe_int (fun _ _ => rfl)) pa_nil)))) pa_nil))))))
      (pss_cons (ps_for PassesOwn.never rfl (pi_list (pe_op op_cat (pv 2) (pe_slice sl_list (pv 2) po_none (po_some pe_int)))) (pg_name (i := 5) sc_law.nd rfl (Or.inl rfl))
        (pss_one (ps_if (pt_not (pt_val (pe_own O_law_holds hr (by rfl) (pa_cons (pe_ix ix_list (pv 5) pe_int (fun _ _ => rfl)) (pa_cons (pe_ix ix_list (pv 5) pe_int (fun _ _ => rfl)) (pa_cons (pe_ix ix_list (pv 5) pe_int (fun _ _ => rfl)) pa_nil))))))
          (pss_one (ps_ret pe_bl))
          pss_nil)))
      (pss_one (ps_ret pe_bl)))))), ?_⟩
    have sz : 1000 < sizeLine := by decide
    have absd : ∀ {α : Prop}, (!true) = true → α := fun e => absurd e (by decide)
    refine ⟨_, rfl, a, ns, rfl, hns, hlen, fun H1 S s sm1 al1 so1 => ?_⟩
    have S1 : SS S s H1 := ⟨so1, al1⟩
    refine gn_h (σ' := [some (.ref a), some (.ref s), none, none, none, none]) rfl ?_
    dsimp only
    refine ⟨(by show 0 ≤ sizeLine; decide), fun CS nCS => ?_⟩
    obtain ⟨H2, e2, S2, k2, s2, eCS, fCS, nCSs⟩ := fresh (.lst []) S1 (Keep.refl s H1) nCS
    rw [e2]
    clear e2
    refine gn_h (σ' := [some (.ref a), some (.ref s), some (.ref CS), none, none, none]) rfl ?_
    dsimp only
    refine ⟨2, rfl, by decide, by decide, ?_⟩
    have mk : ∀ {S : Av} {H5 : Hp} {A' L' o1 dx : Addr} {xs ys : List V} {As Bs : List (Int × Int)} {Ls : List (Int × Str)} {P : List Int} {Qn : VK}, SS S s H5 → H5 A' = some (.lst xs) → DaAll S H5 xs (As.map pd) → H5 L' = some (.lst ys) → DaAll S H5 ys (Ls.map ld) → Good As Ls P → SrtA As Bs → H5 o1 = none → H5 dx = none → dx ≠ o1 →
        (∀ (H6 : Hp) (Ms : List (Int × Str)) (root : Int), Same H5 H6 → NetAt S K H6 o1 Bs Ls Ms P root → SrtL Ls Ms → Qn .non H6) → sp_Net___init K [.ref o1, .ref A', .ref L'] (upd (upd H5 dx (.own o1)) o1 (.ins (He.ga K "Net") dx [])) Qn E0 := by
      intro S H5 A' L' o1 dx xs ys As Bs Ls P Qn S5 eA hA eL hL g hB no ndx ndxo k
      have a46 := g.a46
      have l12 := g.l12
      obtain ⟨root1, hroot, hfil, hups⟩ := g.roots hB
      have no2 : upd H5 dx (.own o1) o1 = none := by rw [upd_ne ndxo.symm]; exact no
      have s2 : Same H5 (upd (upd H5 dx (.own o1)) o1 (.ins (He.ga K "Net") dx [])) := same_snoc (same_snoc (Same.refl _) ndx) no2
      have al1 : Al S (upd (upd H5 dx (.own o1)) o1 (.ins (He.ga K "Net") dx [])) := S5.al.upd.upd
      exact ⟨S, o1, dx, .ref A', .ref L', As, Bs, Ls, P, (fun _ => false), root1, rfl, upd_same, S5.al.free no, al1, ⟨A', _, rfl, s2 _ _ eA, hA.same s2⟩, ⟨L', _, rfl, s2 _ _ eL, hL.same s2⟩, by omega, by omega, g.asc, g.p64, hB, g.noring hB, fun p hp => Nat.le_trans (g.nm p hp).2 (by decide), g.lf, g.pf hB, g.lp, g.ln, hfil, fun H6 Ms1 bt hN1 => k H6 Ms1 root1 (fun b u e => bt b u (fun z => by rw [z, no] at e; cases e) (s2 b u e)) hN1 hN1.srt⟩
    have nCS1 := nCS
    refine for_range (n := 2) (fun i σ H' => Keep s H1 H' ∧ ∃ (v3 v4 : Option V) (cs : List V), σ = [some (.ref a), some (.ref s), some (.ref CS), v3, v4, none] ∧ H' CS = some (.lst cs) ∧ cs.length = i ∧ ∀ v ∈ cs, CaseK (addA S CS) K H' v) ⟨k2, _, _, [], rfl, eCS, rfl, fun v hv => by cases hv⟩ ?_ ?_
    · clear eCS s2 S2 k2 nCS
      rintro i σ H3 hi ⟨k3, v3, v4, cs, rfl, eCS3, lcs, hcs⟩
      have S3 := (S1.keep k3 (k3.so S so1)).add eCS3
      have tCS : addA S CS CS := .inr rfl
      refine ⟨_, rfl, addA S CS, s, rfl, S3, fun H4 D x C As Ls P crs k4 so4 nDs eD hx hy hcr hcl g hB => ?_⟩
      have S4 := S3.keep k4 so4
      refine gn_h (σ' := [some (.ref a), some (.ref s), some (.ref CS), some (.int (0 + (i : Int))), some (.ref D), none]) rfl ?_
      dsimp only
      obtain ⟨W, A, L, xs, ys, rfl, nW, eW, nA, eA, hA, nL, eL, hL⟩ := da_net hx
      have eCS4 := k4 _ _ nCSs eCS3
      refine ⟨_, rfl, .inl ⟨rfl, _, .of eCS4⟩, _, rfl, D, _, ((0 : Nat) : Int), .ref W, rfl, rfl, .of eD, atI_nat (j := 0) rfl, W, _, ((0 : Nat) : Int), .ref A, rfl, rfl, .of eW, atI_nat (j := 0) rfl, A, xs, rfl, .inl (.of eA), fun A' nA' => ?_⟩
      obtain ⟨H5, e5, S5, k5, s5, eA', fA', _⟩ := fresh (.lst xs) S4 (Keep.refl s H4) nA'
      rw [e5]
      refine ⟨_, rfl, D, _, ((0 : Nat) : Int), .ref W, rfl, rfl, .of (s5 _ _ eD), atI_nat (j := 0) rfl, W, _, ((1 : Nat) : Int), .ref L, rfl, rfl, .of (s5 _ _ eW), atI_nat (j := 1) rfl, L, ys, rfl, .inl (.of (s5 _ _ eL)), fun L' nL' => ?_⟩
      obtain ⟨H6, e6, S6, k6, s6, eL', fL', _⟩ := fresh (.lst ys) S5 k5 nL'
      rw [e6]
      have s46 := s5.trans s6
      intro o1 dx no ndx ndxo
      refine mk S6 (s6 _ _ eA') (hA.same s46) eL' (hL.same s46) g hB no ndx ndxo fun H7 Ms root s7 hN hM => ⟨rfl, ?_⟩
      have s47 := s46.trans s7
      refine ⟨_, rfl, D, _, ((0 : Nat) : Int), .ref W, rfl, rfl, .of (s47 _ _ eD), atI_nat (j := 0) rfl, _, rfl, D, _, ((1 : Nat) : Int), .ref C, rfl, rfl, .of (s47 _ _ eD), atI_nat (j := 1) rfl, (by show 3 ≤ sizeLine; decide), fun X nX => ?_⟩
      have S7 := S4.same s47
      have k47 := Keep.of (s := s) s47
      obtain ⟨H8, e8, S8, k8, s8, eX, fX, _⟩ := fresh (.lst [.ref o1, .ref W, .ref C]) S7 k47 nX
      rw [show upd H7 X (.lst [.ref o1, .ref W, .ref C]) = H8 from e8]
      have s48 := s47.trans s8
      refine ⟨CS, cs, .ref X, rfl, rfl, s48 _ _ eCS4, by omega, ?_⟩
      have k38 := k4.trans k8
      have put : ∀ b o, ¬ addA S CS b → H8 b = some o → upd H8 CS (.lst (cs ++ [.ref X])) b = some o := fun b o n e => by
        rw [upd_ne (fun z => n (by rw [z]; exact tCS))]
        exact e
      refine ⟨(k3.trans k38).new nCS1, _, _, _, rfl, upd_same, by rw [List.length_append, lcs]; rfl, fun v hv => ?_⟩
      rcases List.mem_append.mp hv with h | h
      · exact ((hcs v h).keep k38 S3.at_).go put
      · rw [List.mem_singleton.mp h]
        exact CaseK.go ⟨X, o1, _, _, As, Ls, Ls, Ms, P, root, crs, rfl, fX, eX, hN.go fun b u hb e => ⟨hb, s8 _ _ e⟩, hx.same s48, hy.same s48, hcr, hcl, g, hB, hM, .refl _⟩ put
    clear eCS s2 S2 k2 nCS
    rintro σ H3 ⟨k3, v3, v4, cs, rfl, eCS3, lcs, hcs⟩
    have S3 := (S1.keep k3 (k3.so S so1)).add eCS3
    have nT : ∀ {b : Addr}, ¬ addA S CS b → b ≠ s := fun h z => h (by rw [z]; exact S3.at_)
    have ct1 : ∀ xs : List V, cutV xs none (some 1) = xs.take 1 := fun xs => cutV_take xs 1
    refine ⟨_, rfl, _, rfl, _, rfl, CS, cs, rfl, .of eCS3, fun X nX => ?_⟩
    rw [ct1]
    obtain ⟨H4, e4, S4, k4, s4, eX, fX, _⟩ := fresh (.lst (cs.take 1)) S3 (Keep.refl s H3) nX
    rw [e4]
    refine ⟨CS, X, cs, _, rfl, rfl, s4 _ _ eCS3, eX, (by rw [List.length_take]; omega), fun Y nY => ⟨Y, rfl, ⟨_, .of upd_same⟩, ?_⟩⟩
    obtain ⟨H5, e5, S5, k5, s5, eY, fY, _⟩ := fresh (.lst (cs ++ cs.take 1)) S4 k4 nY
    rw [e5]
    have all : ∀ v ∈ cs ++ cs.take 1, CaseK (addA S CS) K H5 v := fun v hv => by
      rcases List.mem_append.mp hv with h | h
      · exact (hcs v h).keep k5 S3.at_
      · exact (hcs v (List.mem_of_mem_take h)).keep k5 S3.at_
    refine for_it (walk_list (K := K) (a := Y) (xs := cs ++ cs.take 1)) (fun i σ H' => (∃ u, σ = [some (.ref a), some (.ref s), some (.ref CS), v3, v4, u]) ∧ Same H5 H') ⟨⟨_, rfl⟩, Same.refl _⟩ (fun i σ H' _ h => .of (h.2 _ _ eY)) ?_ ?_
    · rintro i v σ H10 H11 hi ⟨⟨u, rfl⟩, sm⟩ ⟨rfl, hv⟩
      refine ifs_h ?_
      obtain ⟨c, o, x, y, As, Ls, Ls', Ms, P, root, crs, rfl, nc, ec, hN, hx, hy, hcr, hcl, g, hB, hL, hp⟩ := (all v (List.mem_of_getElem? hv)).keep (Keep.of sm) S3.at_
      exact ⟨_, rfl, c, _, ((0 : Nat) : Int), .ref o, rfl, rfl, .of ec, atI_nat (j := 0) rfl, _, rfl, c, _, ((1 : Nat) : Int), x, rfl, rfl, .of ec, atI_nat (j := 1) rfl, _, rfl, c, _, ((2 : Nat) : Int), y, rfl, rfl, .of ec, atI_nat (j := 2) rfl, addA S CS, o, x, y, As, Ls, Ls', Ms, P, root, crs, rfl, (S5.same sm).al, hN, hx, hy, hcr, hcl, g, hB, hL, hp, fun H' s' => ⟨_, rfl, ite2 absd fun _ => ⟨⟨_, rfl⟩, sm.trans s'⟩⟩⟩
    rintro σ H10 ⟨⟨u, rfl⟩, sm⟩
    exact q _
end
set_option maxHeartbeats 0 in
theorem facts {P : Program} {w : World} {K : PySem.W.Frag} {h : Heap} {mg : Str → Option Value} {f : Addr} (X : K.In h) (G : h.Ns mainGlobals mg) (hfa : mg ("law" : Str) = some (.ref f)) (cx : SaysX faL fnL tsL psL ckL w K) :
    ∃ fd : FuncData, (∀ (s : Shared) (v : Value), BindsTo s fd ⟨[v], []⟩ [("script", v)]) ∧ ∀ base : Heap, K.In base → base.Ns mainGlobals mg → FnOk P w K mg base CX0 73 f fd ["script"] (sp_law K) := by
  have c := cx.t.d
  have hck := cx.test
  unfold ckL at hck
  simp only [Bool.and_eq_true] at hck
  obtain ⟨h1, h2, h3, h4, h5, h6, h7, h8, h9⟩ := hck
  have T : Txt w K mg := ⟨He.free_ok X G (c.fact 55 (f := .free "len") rfl), He.int_ok X G (c.fact 56 (f := .int "LONGEST_NAME" 8) rfl), He.free_ok X G (c.fact 57 (f := .free "isinstance") rfl), He.free_ok X G (c.fact 58 (f := .free "str") rfl), He.free_ok X G (c.fact 59 (f := .free "all") rfl), He.str_ok X G (c.fact 60 (f := .str "LETTERS" "abcdefghijklmnopqrstuvwxyz") rfl), He.str_ok X G (c.fact 61 (f := .str "DIGITS" "0123456789") rfl), He.free_ok X G (c.fact 62 (f := .free "bool") rfl), He.free_ok X G (c.fact 63 (f := .free "int") rfl), He.int_ok X G (c.fact 64 (f := .int "LAST_PLACE" 9999) rfl), He.free_ok X G (c.fact 65 (f := .free "tuple") rfl), He.free_ok X G (c.fact 66 (f := .free "sorted") rfl), He.free_ok X G (c.fact 67 (f := .free "set") rfl), He.free_ok X G (c.fact 68 (f := .free "list") rfl), He.int_ok X G (c.fact 69 (f := .int "MOST_LEAVES" 12) rfl), He.int_ok X G (c.fact 70 (f := .int "MOST_ARROWS" 46) rfl), He.free_ok X G (c.fact 71 (f := .free "enumerate") rfl), He.free_ok X G (c.fact 72 (f := .free "range") rfl), ⟨He.glo_ok X G (c.fact 73 (f := .glo "DEGREES") rfl), tup2B_ok (by decide) (by decide) h1⟩, He.int_ok X G (c.fact 74 (f := .int "MOST_MIXINGS" 8) rfl), ⟨He.glo_ok X G (c.fact 75 (f := .glo "LIST_FAULTS") rfl), ktab_of (cx.keys 0 rfl) (by decide), refsB_ok h3, kdct_of (cx.keys 0 rfl) h2 (q := ("long", .glo "_long_lists")) (by simp), He.glo_ok X G (c.fact 8 (f := .glo "_long_lists") rfl), kdct_of (cx.keys 0 rfl) h2 (q := ("arrow", .glo "_bad_arrows")) (by simp), He.glo_ok X G (c.fact 9 (f := .glo "_bad_arrows") rfl), kdct_of (cx.keys 0 rfl) h2 (q := ("leaf", .glo "_bad_leaves")) (by simp), He.glo_ok X G (c.fact 10 (f := .glo "_bad_leaves") rfl), kdct_of (cx.keys 0 rfl) h2 (q := ("name", .glo "_bad_names")) (by simp), He.glo_ok X G (c.fact 11 (f := .glo "_bad_names") rfl), kdct_of (cx.keys 0 rfl) h2 (q := ("again", .glo "_leaves_again")) (by simp), He.glo_ok X G (c.fact 12 (f := .glo "_leaves_again") rfl), kdct_of (cx.keys 0 rfl) h2 (q := ("double", .glo "_arrows_again")) (by simp), He.glo_ok X G (c.fact 13 (f := .glo "_arrows_again") rfl), kdct_of (cx.keys 0 rfl) h2 (q := ("none", .glo "_no_leaves")) (by simp), He.glo_ok X G (c.fact 14 (f := .glo "_no_leaves") rfl)⟩, ⟨He.glo_ok X G (c.fact 76 (f := .glo "PLACE_FAULTS") rfl), ktab_of (cx.keys 1 rfl) (by decide), refsB_ok h5, kdct_of (cx.keys 1 rfl) h4 (q := ("degree", .glo "_bad_degrees")) (by simp), He.glo_ok X G (c.fact 15 (f := .glo "_bad_degrees") rfl), kdct_of (cx.keys 1 rfl) h4 (q := ("roots", .glo "_bad_roots")) (by simp), He.glo_ok X G (c.fact 16 (f := .glo "_bad_roots") rfl), kdct_of (cx.keys 1 rfl) h4 (q := ("ring", .glo "_ring_places")) (by simp), He.glo_ok X G (c.fact 17 (f := .glo "_ring_places") rfl), kdct_of (cx.keys 1 rfl) h4 (q := ("label", .glo "_bad_labels")) (by simp), He.glo_ok X G (c.fact 18 (f := .glo "_bad_labels") rfl), kdct_of (cx.keys 1 rfl) h4 (q := ("mixings", .glo "_too_many_mixings")) (by simp), He.glo_ok X G (c.fact 19 (f := .glo "_too_many_mixings") rfl)⟩, He.free_ok X G (c.fact 77 (f := .free "dict") rfl), He.free_ok X G (c.fact 78 (f := .free "any") rfl), ⟨He.glo_ok X G (c.fact 79 (f := .glo "RULES") rfl), ktab_of (cx.keys 2 rfl) (by decide), refsB_ok h7, kdct_of (cx.keys 2 rfl) h6 (q := ("split", .glo "_split_child")) (by simp), He.glo_ok X G (c.fact 22 (f := .glo "_split_child") rfl), kdct_of (cx.keys 2 rfl) h6 (q := ("below", .glo "_member_below_mixing")) (by simp), He.glo_ok X G (c.fact 23 (f := .glo "_member_below_mixing") rfl), kdct_of (cx.keys 2 rfl) h6 (q := ("mixings", .glo "_mixing_children")) (by simp), He.glo_ok X G (c.fact 24 (f := .glo "_mixing_children") rfl), kdct_of (cx.keys 2 rfl) h6 (q := ("child", .glo "_member_child")) (by simp), He.glo_ok X G (c.fact 25 (f := .glo "_member_child") rfl), kdct_of (cx.keys 2 rfl) h6 (q := ("mothers", .glo "_bound_mothers")) (by simp), He.glo_ok X G (c.fact 26 (f := .glo "_bound_mothers") rfl)⟩, ⟨He.glo_ok X G (c.fact 80 (f := .glo "KIND_BY_CHILDREN") rfl), fun H => He.tupB_ok h8 H⟩, He.free_ok X G (c.fact 81 (f := .free "max") rfl), He.free_ok X G (c.fact 82 (f := .free "abs") rfl), He.free_ok X G (c.fact 83 (f := .free "min") rfl), He.cls_ok (c.fact 84 (f := .cls "Net") rfl), (fun f hf => by
    simp only [List.mem_cons, List.not_mem_nil, or_false] at hf
    rcases hf with rfl | rfl | rfl | rfl | rfl | rfl | rfl | rfl
    · exact He.noat_ok (c.fact 85 (f := .noat "Net" "_arrows") rfl)
    · exact He.noat_ok (c.fact 86 (f := .noat "Net" "_leaves") rfl)
    · exact He.noat_ok (c.fact 87 (f := .noat "Net" "_mothers") rfl)
    · exact He.noat_ok (c.fact 88 (f := .noat "Net" "_children") rfl)
    · exact He.noat_ok (c.fact 89 (f := .noat "Net" "_name_at") rfl)
    · exact He.noat_ok (c.fact 90 (f := .noat "Net" "_place_at") rfl)
    · exact He.noat_ok (c.fact 91 (f := .noat "Net" "_names") rfl)
    · exact He.noat_ok (c.fact 92 (f := .noat "Net" "_root") rfl)), He.glo_ok X G (c.fact 93 (f := .glo "Net") rfl), insXB_ok (He.cls_ok (c.fact 84 (f := .cls "Net") rfl)) h9⟩
  obtain ⟨fd0, F0⟩ := c.def_ 68 (d := d_law) rfl
  have e := hfa.symm.trans (He.glo_ok X G (c.fact 54 (f := .glo "law") rfl))
  cases e
  have b := FunD.bindsA (ps := ["script"]) F0 fun _ _ _ _ _ _ us hl => match us, hl with | [_], _ => rfl
  refine ⟨fd0, fun s v => b s [v] rfl, fun base _ _ => ?_⟩
  obtain ⟨fd_is_name, FD_is_name⟩ := c.def_ 0 (d := d_is_name) rfl
  have F_is_name : Fun K "is_name" "is_name" s_is_name (He.fAd K d_is_name.at_) fd_is_name := fun_of FD_is_name
  have b_is_name : Binds K fd_is_name ["value"] [] := FD_is_name.bindsN fun _ _ _ _ _ _ us hl => match us, hl with | [_], _ => rfl
  have kb_is_name : KBn K fd_is_name ["value"] 0 ["value"] (fun _ ws => ws) (fun _ zs => zs) := kbn_of F_is_name fun _ _ _ _ _ _ ws hl => match ws, hl with | [_], _ => rfl
  have O_is_name : Own P w K mg base 1 "is_name" ["value"] (sp_is_name) := Own.mk' F_is_name (ok_is_name (k := 0) F_is_name T ) (He.glo_ok X G (c.fact 0 (f := .glo "is_name") rfl)) b_is_name kb_is_name
  obtain ⟨fd_is_whole, FD_is_whole⟩ := c.def_ 1 (d := d_is_whole) rfl
  have F_is_whole : Fun K "is_whole" "is_whole" s_is_whole (He.fAd K d_is_whole.at_) fd_is_whole := fun_of FD_is_whole
  have b_is_whole : Binds K fd_is_whole ["value"] [] := FD_is_whole.bindsN fun _ _ _ _ _ _ us hl => match us, hl with | [_], _ => rfl
  have kb_is_whole : KBn K fd_is_whole ["value"] 0 ["value"] (fun _ ws => ws) (fun _ zs => zs) := kbn_of F_is_whole fun _ _ _ _ _ _ ws hl => match ws, hl with | [_], _ => rfl
  have O_is_whole : Own P w K mg base 1 "is_whole" ["value"] (sp_is_whole) := Own.mk' F_is_whole (ok_is_whole (k := 0) F_is_whole T ) (He.glo_ok X G (c.fact 1 (f := .glo "is_whole") rfl)) b_is_whole kb_is_whole
  obtain ⟨fd_is_place, FD_is_place⟩ := c.def_ 2 (d := d_is_place) rfl
  have F_is_place : Fun K "is_place" "is_place" s_is_place (He.fAd K d_is_place.at_) fd_is_place := fun_of FD_is_place
  have b_is_place : Binds K fd_is_place ["value"] [] := FD_is_place.bindsN fun _ _ _ _ _ _ us hl => match us, hl with | [_], _ => rfl
  have kb_is_place : KBn K fd_is_place ["value"] 0 ["value"] (fun _ ws => ws) (fun _ zs => zs) := kbn_of F_is_place fun _ _ _ _ _ _ ws hl => match ws, hl with | [_], _ => rfl
  have O_is_place : Own P w K mg base 2 "is_place" ["value"] (sp_is_place) := Own.mk' F_is_place (ok_is_place (k := 1) F_is_place T (O_is_whole.up (by decide))) (He.glo_ok X G (c.fact 2 (f := .glo "is_place") rfl)) b_is_place kb_is_place
  obtain ⟨fd_is_place_pair, FD_is_place_pair⟩ := c.def_ 3 (d := d_is_place_pair) rfl
  have F_is_place_pair : Fun K "is_place_pair" "is_place_pair" s_is_place_pair (He.fAd K d_is_place_pair.at_) fd_is_place_pair := fun_of FD_is_place_pair
  have b_is_place_pair : Binds K fd_is_place_pair ["value"] [] := FD_is_place_pair.bindsN fun _ _ _ _ _ _ us hl => match us, hl with | [_], _ => rfl
  have kb_is_place_pair : KBn K fd_is_place_pair ["value"] 0 ["value"] (fun _ ws => ws) (fun _ zs => zs) := kbn_of F_is_place_pair fun _ _ _ _ _ _ ws hl => match ws, hl with | [_], _ => rfl
  have O_is_place_pair : Own P w K mg base 3 "is_place_pair" ["value"] (sp_is_place_pair) := Own.mk' F_is_place_pair (ok_is_place_pair (k := 2) F_is_place_pair T (O_is_place.up (by decide))) (He.glo_ok X G (c.fact 3 (f := .glo "is_place_pair") rfl)) b_is_place_pair kb_is_place_pair
  obtain ⟨fd_is_labelled_place, FD_is_labelled_place⟩ := c.def_ 4 (d := d_is_labelled_place) rfl
  have F_is_labelled_place : Fun K "_is_labelled_place" "_is_labelled_place" s_is_labelled_place (He.fAd K d_is_labelled_place.at_) fd_is_labelled_place := fun_of FD_is_labelled_place
  have b_is_labelled_place : Binds K fd_is_labelled_place ["value"] [] := FD_is_labelled_place.bindsN fun _ _ _ _ _ _ us hl => match us, hl with | [_], _ => rfl
  have kb_is_labelled_place : KBn K fd_is_labelled_place ["value"] 0 ["value"] (fun _ ws => ws) (fun _ zs => zs) := kbn_of F_is_labelled_place fun _ _ _ _ _ _ ws hl => match ws, hl with | [_], _ => rfl
  have O_is_labelled_place : Own P w K mg base 3 "_is_labelled_place" ["value"] (sp_is_labelled_place) := Own.mk' F_is_labelled_place (ok_is_labelled_place (k := 2) F_is_labelled_place T (O_is_place.up (by decide))) (He.glo_ok X G (c.fact 4 (f := .glo "_is_labelled_place") rfl)) b_is_labelled_place kb_is_labelled_place
  obtain ⟨fd_all_places, FD_all_places⟩ := c.def_ 5 (d := d_all_places) rfl
  have F_all_places : Fun K "all_places" "all_places" s_all_places (He.fAd K d_all_places.at_) fd_all_places := fun_of FD_all_places
  have b_all_places : Binds K fd_all_places ["arrows", "leaves"] [] := FD_all_places.bindsN fun _ _ _ _ _ _ us hl => match us, hl with | [_, _], _ => rfl
  have kb_all_places : KBn K fd_all_places ["arrows", "leaves"] 0 ["arrows", "leaves"] (fun _ ws => ws) (fun _ zs => zs) := kbn_of F_all_places fun _ _ _ _ _ _ ws hl => match ws, hl with | [_, _], _ => rfl
  have O_all_places : Own P w K mg base 1 "all_places" ["arrows", "leaves"] (sp_all_places) := Own.mk' F_all_places (ok_all_places (k := 0) F_all_places T ) (He.glo_ok X G (c.fact 5 (f := .glo "all_places") rfl)) b_all_places kb_all_places
  obtain ⟨fd_relatives, FD_relatives⟩ := c.def_ 6 (d := d_relatives) rfl
  have F_relatives : Fun K "relatives" "relatives" s_relatives (He.fAd K d_relatives.at_) fd_relatives := fun_of FD_relatives
  have b_relatives : Binds K fd_relatives ["arrows", "leaves"] [] := FD_relatives.bindsN fun _ _ _ _ _ _ us hl => match us, hl with | [_, _], _ => rfl
  have kb_relatives : KBn K fd_relatives ["arrows", "leaves"] 0 ["arrows", "leaves"] (fun _ ws => ws) (fun _ zs => zs) := kbn_of F_relatives fun _ _ _ _ _ _ ws hl => match ws, hl with | [_, _], _ => rfl
  have O_relatives : Own P w K mg base 2 "relatives" ["arrows", "leaves"] (sp_relatives) := Own.mk' F_relatives (ok_relatives (k := 1) F_relatives T (O_all_places.up (by decide))) (He.glo_ok X G (c.fact 6 (f := .glo "relatives") rfl)) b_relatives kb_relatives
  obtain ⟨fd_places_below, FD_places_below⟩ := c.def_ 7 (d := d_places_below) rfl
  have F_places_below : Fun K "places_below" "places_below" s_places_below (He.fAd K d_places_below.at_) fd_places_below := fun_of FD_places_below
  have b_places_below : Binds K fd_places_below ["place", "children"] [] := FD_places_below.bindsN fun _ _ _ _ _ _ us hl => match us, hl with | [_, _], _ => rfl
  have kb_places_below : KBn K fd_places_below ["place", "children"] 0 ["place", "children"] (fun _ ws => ws) (fun _ zs => zs) := kbn_of F_places_below fun _ _ _ _ _ _ ws hl => match ws, hl with | [_, _], _ => rfl
  have O_places_below : Own P w K mg base 1 "places_below" ["place", "children"] (sp_places_below) := Own.mk' F_places_below (ok_places_below (k := 0) F_places_below T ) (He.glo_ok X G (c.fact 7 (f := .glo "places_below") rfl)) b_places_below kb_places_below
  obtain ⟨fd_long_lists, FD_long_lists⟩ := c.def_ 8 (d := d_long_lists) rfl
  have F_long_lists : Fun K "_long_lists" "_long_lists" s_long_lists (He.fAd K d_long_lists.at_) fd_long_lists := fun_of FD_long_lists
  have b_long_lists : Binds K fd_long_lists ["arrows", "leaves"] [] := FD_long_lists.bindsN fun _ _ _ _ _ _ us hl => match us, hl with | [_, _], _ => rfl
  have kb_long_lists : KBn K fd_long_lists ["arrows", "leaves"] 0 ["arrows", "leaves"] (fun _ ws => ws) (fun _ zs => zs) := kbn_of F_long_lists fun _ _ _ _ _ _ ws hl => match ws, hl with | [_, _], _ => rfl
  have O_long_lists : Own P w K mg base 1 "_long_lists" ["arrows", "leaves"] (sp_long_lists) := Own.mk' F_long_lists (ok_long_lists (k := 0) F_long_lists T ) (He.glo_ok X G (c.fact 8 (f := .glo "_long_lists") rfl)) b_long_lists kb_long_lists
  obtain ⟨fd_bad_arrows, FD_bad_arrows⟩ := c.def_ 9 (d := d_bad_arrows) rfl
  have F_bad_arrows : Fun K "_bad_arrows" "_bad_arrows" s_bad_arrows (He.fAd K d_bad_arrows.at_) fd_bad_arrows := fun_of FD_bad_arrows
  have b_bad_arrows : Binds K fd_bad_arrows ["arrows", "leaves"] [] := FD_bad_arrows.bindsN fun _ _ _ _ _ _ us hl => match us, hl with | [_, _], _ => rfl
  have kb_bad_arrows : KBn K fd_bad_arrows ["arrows", "leaves"] 0 ["arrows", "leaves"] (fun _ ws => ws) (fun _ zs => zs) := kbn_of F_bad_arrows fun _ _ _ _ _ _ ws hl => match ws, hl with | [_, _], _ => rfl
  have O_bad_arrows : Own P w K mg base 4 "_bad_arrows" ["arrows", "leaves"] (sp_bad_arrows) := Own.mk' F_bad_arrows (ok_bad_arrows (k := 3) F_bad_arrows T (O_is_place_pair.up (by decide))) (He.glo_ok X G (c.fact 9 (f := .glo "_bad_arrows") rfl)) b_bad_arrows kb_bad_arrows
  obtain ⟨fd_bad_leaves, FD_bad_leaves⟩ := c.def_ 10 (d := d_bad_leaves) rfl
  have F_bad_leaves : Fun K "_bad_leaves" "_bad_leaves" s_bad_leaves (He.fAd K d_bad_leaves.at_) fd_bad_leaves := fun_of FD_bad_leaves
  have b_bad_leaves : Binds K fd_bad_leaves ["arrows", "leaves"] [] := FD_bad_leaves.bindsN fun _ _ _ _ _ _ us hl => match us, hl with | [_, _], _ => rfl
  have kb_bad_leaves : KBn K fd_bad_leaves ["arrows", "leaves"] 0 ["arrows", "leaves"] (fun _ ws => ws) (fun _ zs => zs) := kbn_of F_bad_leaves fun _ _ _ _ _ _ ws hl => match ws, hl with | [_, _], _ => rfl
  have O_bad_leaves : Own P w K mg base 4 "_bad_leaves" ["arrows", "leaves"] (sp_bad_leaves) := Own.mk' F_bad_leaves (ok_bad_leaves (k := 3) F_bad_leaves T (O_is_labelled_place.up (by decide))) (He.glo_ok X G (c.fact 10 (f := .glo "_bad_leaves") rfl)) b_bad_leaves kb_bad_leaves
  obtain ⟨fd_bad_names, FD_bad_names⟩ := c.def_ 11 (d := d_bad_names) rfl
  have F_bad_names : Fun K "_bad_names" "_bad_names" s_bad_names (He.fAd K d_bad_names.at_) fd_bad_names := fun_of FD_bad_names
  have b_bad_names : Binds K fd_bad_names ["arrows", "leaves"] [] := FD_bad_names.bindsN fun _ _ _ _ _ _ us hl => match us, hl with | [_, _], _ => rfl
  have kb_bad_names : KBn K fd_bad_names ["arrows", "leaves"] 0 ["arrows", "leaves"] (fun _ ws => ws) (fun _ zs => zs) := kbn_of F_bad_names fun _ _ _ _ _ _ ws hl => match ws, hl with | [_, _], _ => rfl
  have O_bad_names : Own P w K mg base 2 "_bad_names" ["arrows", "leaves"] (sp_bad_names) := Own.mk' F_bad_names (ok_bad_names (k := 1) F_bad_names T (O_is_name.up (by decide))) (He.glo_ok X G (c.fact 11 (f := .glo "_bad_names") rfl)) b_bad_names kb_bad_names
  obtain ⟨fd_leaves_again, FD_leaves_again⟩ := c.def_ 12 (d := d_leaves_again) rfl
  have F_leaves_again : Fun K "_leaves_again" "_leaves_again" s_leaves_again (He.fAd K d_leaves_again.at_) fd_leaves_again := fun_of FD_leaves_again
  have b_leaves_again : Binds K fd_leaves_again ["arrows", "leaves"] [] := FD_leaves_again.bindsN fun _ _ _ _ _ _ us hl => match us, hl with | [_, _], _ => rfl
  have kb_leaves_again : KBn K fd_leaves_again ["arrows", "leaves"] 0 ["arrows", "leaves"] (fun _ ws => ws) (fun _ zs => zs) := kbn_of F_leaves_again fun _ _ _ _ _ _ ws hl => match ws, hl with | [_, _], _ => rfl
  have O_leaves_again : Own P w K mg base 1 "_leaves_again" ["arrows", "leaves"] (sp_leaves_again) := Own.mk' F_leaves_again (ok_leaves_again (k := 0) F_leaves_again T ) (He.glo_ok X G (c.fact 12 (f := .glo "_leaves_again") rfl)) b_leaves_again kb_leaves_again
  obtain ⟨fd_arrows_again, FD_arrows_again⟩ := c.def_ 13 (d := d_arrows_again) rfl
  have F_arrows_again : Fun K "_arrows_again" "_arrows_again" s_arrows_again (He.fAd K d_arrows_again.at_) fd_arrows_again := fun_of FD_arrows_again
  have b_arrows_again : Binds K fd_arrows_again ["arrows", "leaves"] [] := FD_arrows_again.bindsN fun _ _ _ _ _ _ us hl => match us, hl with | [_, _], _ => rfl
  have kb_arrows_again : KBn K fd_arrows_again ["arrows", "leaves"] 0 ["arrows", "leaves"] (fun _ ws => ws) (fun _ zs => zs) := kbn_of F_arrows_again fun _ _ _ _ _ _ ws hl => match ws, hl with | [_, _], _ => rfl
  have O_arrows_again : Own P w K mg base 1 "_arrows_again" ["arrows", "leaves"] (sp_arrows_again) := Own.mk' F_arrows_again (ok_arrows_again (k := 0) F_arrows_again T ) (He.glo_ok X G (c.fact 13 (f := .glo "_arrows_again") rfl)) b_arrows_again kb_arrows_again
  obtain ⟨fd_no_leaves, FD_no_leaves⟩ := c.def_ 14 (d := d_no_leaves) rfl
  have F_no_leaves : Fun K "_no_leaves" "_no_leaves" s_no_leaves (He.fAd K d_no_leaves.at_) fd_no_leaves := fun_of FD_no_leaves
  have b_no_leaves : Binds K fd_no_leaves ["arrows", "leaves"] [] := FD_no_leaves.bindsN fun _ _ _ _ _ _ us hl => match us, hl with | [_, _], _ => rfl
  have kb_no_leaves : KBn K fd_no_leaves ["arrows", "leaves"] 0 ["arrows", "leaves"] (fun _ ws => ws) (fun _ zs => zs) := kbn_of F_no_leaves fun _ _ _ _ _ _ ws hl => match ws, hl with | [_, _], _ => rfl
  have O_no_leaves : Own P w K mg base 1 "_no_leaves" ["arrows", "leaves"] (sp_no_leaves) := Own.mk' F_no_leaves (ok_no_leaves (k := 0) F_no_leaves T ) (He.glo_ok X G (c.fact 14 (f := .glo "_no_leaves") rfl)) b_no_leaves kb_no_leaves
  obtain ⟨fd_bad_degrees, FD_bad_degrees⟩ := c.def_ 15 (d := d_bad_degrees) rfl
  have F_bad_degrees : Fun K "_bad_degrees" "_bad_degrees" s_bad_degrees (He.fAd K d_bad_degrees.at_) fd_bad_degrees := fun_of FD_bad_degrees
  have b_bad_degrees : Binds K fd_bad_degrees ["mothers", "children", "labelled"] [] := FD_bad_degrees.bindsN fun _ _ _ _ _ _ us hl => match us, hl with | [_, _, _], _ => rfl
  have kb_bad_degrees : KBn K fd_bad_degrees ["mothers", "children", "labelled"] 0 ["mothers", "children", "labelled"] (fun _ ws => ws) (fun _ zs => zs) := kbn_of F_bad_degrees fun _ _ _ _ _ _ ws hl => match ws, hl with | [_, _, _], _ => rfl
  have O_bad_degrees : Own P w K mg base 1 "_bad_degrees" ["mothers", "children", "labelled"] (sp_bad_degrees) := Own.mk' F_bad_degrees (ok_bad_degrees (k := 0) F_bad_degrees T ) (He.glo_ok X G (c.fact 15 (f := .glo "_bad_degrees") rfl)) b_bad_degrees kb_bad_degrees
  obtain ⟨fd_bad_roots, FD_bad_roots⟩ := c.def_ 16 (d := d_bad_roots) rfl
  have F_bad_roots : Fun K "_bad_roots" "_bad_roots" s_bad_roots (He.fAd K d_bad_roots.at_) fd_bad_roots := fun_of FD_bad_roots
  have b_bad_roots : Binds K fd_bad_roots ["mothers", "children", "labelled"] [] := FD_bad_roots.bindsN fun _ _ _ _ _ _ us hl => match us, hl with | [_, _, _], _ => rfl
  have kb_bad_roots : KBn K fd_bad_roots ["mothers", "children", "labelled"] 0 ["mothers", "children", "labelled"] (fun _ ws => ws) (fun _ zs => zs) := kbn_of F_bad_roots fun _ _ _ _ _ _ ws hl => match ws, hl with | [_, _, _], _ => rfl
  have O_bad_roots : Own P w K mg base 1 "_bad_roots" ["mothers", "children", "labelled"] (sp_bad_roots) := Own.mk' F_bad_roots (ok_bad_roots (k := 0) F_bad_roots T ) (He.glo_ok X G (c.fact 16 (f := .glo "_bad_roots") rfl)) b_bad_roots kb_bad_roots
  obtain ⟨fd_ring_places, FD_ring_places⟩ := c.def_ 17 (d := d_ring_places) rfl
  have F_ring_places : Fun K "_ring_places" "_ring_places" s_ring_places (He.fAd K d_ring_places.at_) fd_ring_places := fun_of FD_ring_places
  have b_ring_places : Binds K fd_ring_places ["mothers", "children", "labelled"] [] := FD_ring_places.bindsN fun _ _ _ _ _ _ us hl => match us, hl with | [_, _, _], _ => rfl
  have kb_ring_places : KBn K fd_ring_places ["mothers", "children", "labelled"] 0 ["mothers", "children", "labelled"] (fun _ ws => ws) (fun _ zs => zs) := kbn_of F_ring_places fun _ _ _ _ _ _ ws hl => match ws, hl with | [_, _, _], _ => rfl
  have O_ring_places : Own P w K mg base 2 "_ring_places" ["mothers", "children", "labelled"] (sp_ring_places) := Own.mk' F_ring_places (ok_ring_places (k := 1) F_ring_places T (O_places_below.up (by decide))) (He.glo_ok X G (c.fact 17 (f := .glo "_ring_places") rfl)) b_ring_places kb_ring_places
  obtain ⟨fd_bad_labels, FD_bad_labels⟩ := c.def_ 18 (d := d_bad_labels) rfl
  have F_bad_labels : Fun K "_bad_labels" "_bad_labels" s_bad_labels (He.fAd K d_bad_labels.at_) fd_bad_labels := fun_of FD_bad_labels
  have b_bad_labels : Binds K fd_bad_labels ["mothers", "children", "labelled"] [] := FD_bad_labels.bindsN fun _ _ _ _ _ _ us hl => match us, hl with | [_, _, _], _ => rfl
  have kb_bad_labels : KBn K fd_bad_labels ["mothers", "children", "labelled"] 0 ["mothers", "children", "labelled"] (fun _ ws => ws) (fun _ zs => zs) := kbn_of F_bad_labels fun _ _ _ _ _ _ ws hl => match ws, hl with | [_, _, _], _ => rfl
  have O_bad_labels : Own P w K mg base 1 "_bad_labels" ["mothers", "children", "labelled"] (sp_bad_labels) := Own.mk' F_bad_labels (ok_bad_labels (k := 0) F_bad_labels T ) (He.glo_ok X G (c.fact 18 (f := .glo "_bad_labels") rfl)) b_bad_labels kb_bad_labels
  obtain ⟨fd_too_many_mixings, FD_too_many_mixings⟩ := c.def_ 19 (d := d_too_many_mixings) rfl
  have F_too_many_mixings : Fun K "_too_many_mixings" "_too_many_mixings" s_too_many_mixings (He.fAd K d_too_many_mixings.at_) fd_too_many_mixings := fun_of FD_too_many_mixings
  have b_too_many_mixings : Binds K fd_too_many_mixings ["mothers", "children", "labelled"] [] := FD_too_many_mixings.bindsN fun _ _ _ _ _ _ us hl => match us, hl with | [_, _, _], _ => rfl
  have kb_too_many_mixings : KBn K fd_too_many_mixings ["mothers", "children", "labelled"] 0 ["mothers", "children", "labelled"] (fun _ ws => ws) (fun _ zs => zs) := kbn_of F_too_many_mixings fun _ _ _ _ _ _ ws hl => match ws, hl with | [_, _, _], _ => rfl
  have O_too_many_mixings : Own P w K mg base 1 "_too_many_mixings" ["mothers", "children", "labelled"] (sp_too_many_mixings) := Own.mk' F_too_many_mixings (ok_too_many_mixings (k := 0) F_too_many_mixings T ) (He.glo_ok X G (c.fact 19 (f := .glo "_too_many_mixings") rfl)) b_too_many_mixings kb_too_many_mixings
  obtain ⟨fd_first_fault, FD_first_fault⟩ := c.def_ 20 (d := d_first_fault) rfl
  have F_first_fault : Fun K "first_fault" "first_fault" s_first_fault (He.fAd K d_first_fault.at_) fd_first_fault := fun_of FD_first_fault
  have O_first_fault : OwnR P w K mg base 5 "first_fault" (starSp 1 (sp_first_fault K)) := ⟨⟨_, ok_first_fault (k := 4) F_first_fault T (O_long_lists.up (by decide)) (O_bad_arrows.up (by decide)) (O_bad_leaves.up (by decide)) (O_bad_names.up (by decide)) (O_leaves_again.up (by decide)) (O_arrows_again.up (by decide)) (O_no_leaves.up (by decide)) (O_bad_degrees.up (by decide)) (O_bad_roots.up (by decide)) (O_ring_places.up (by decide)) (O_bad_labels.up (by decide)) (O_too_many_mixings.up (by decide)), He.glo_ok X G (c.fact 20 (f := .glo "first_fault") rfl), FD_first_fault.kp⟩⟩
  obtain ⟨fd_net_fault, FD_net_fault⟩ := c.def_ 21 (d := d_net_fault) rfl
  have F_net_fault : Fun K "net_fault" "net_fault" s_net_fault (He.fAd K d_net_fault.at_) fd_net_fault := fun_of FD_net_fault
  have b_net_fault : Binds K fd_net_fault ["arrows", "leaves"] [] := FD_net_fault.bindsN fun _ _ _ _ _ _ us hl => match us, hl with | [_, _], _ => rfl
  have kb_net_fault : KBn K fd_net_fault ["arrows", "leaves"] 0 ["arrows", "leaves"] (fun _ ws => ws) (fun _ zs => zs) := kbn_of F_net_fault fun _ _ _ _ _ _ ws hl => match ws, hl with | [_, _], _ => rfl
  have O_net_fault : Own P w K mg base 6 "net_fault" ["arrows", "leaves"] (sp_net_fault K) := Own.mk' F_net_fault (ok_net_fault (k := 5) F_net_fault T (O_first_fault.up (by decide)) (O_relatives.up (by decide))) (He.glo_ok X G (c.fact 21 (f := .glo "net_fault") rfl)) b_net_fault kb_net_fault
  obtain ⟨fd_Net__demand, FD_Net__demand⟩ := c.def_ 46 (d := d_Net__demand) rfl
  have F_Net__demand : Fun K "_demand" "Net._demand" s_Net__demand (He.fAd K d_Net__demand.at_) fd_Net__demand := fun_of FD_Net__demand
  have b_Net__demand : Binds K fd_Net__demand ["self", "place"] [] := FD_Net__demand.bindsN fun _ _ _ _ _ _ us hl => match us, hl with | [_, _], _ => rfl
  have O_Net__demand : OwnM P w K mg base 1 (He.ga K "Net") "_demand" ["self", "place"] (sp_Net__demand K) := ⟨⟨He.fAd K d_Net__demand.at_, fd_Net__demand, ok_Net__demand (k := 0) F_Net__demand T , He.meth_ok (c.fact 94 (f := .meth "Net" "_demand") rfl), b_Net__demand⟩⟩
  obtain ⟨fd_Net_children, FD_Net_children⟩ := c.def_ 42 (d := d_Net_children) rfl
  have F_Net_children : Fun K "children" "Net.children" s_Net_children (He.fAd K d_Net_children.at_) fd_Net_children := fun_of FD_Net_children
  have b_Net_children : Binds K fd_Net_children ["self", "place"] [] := FD_Net_children.bindsN fun _ _ _ _ _ _ us hl => match us, hl with | [_, _], _ => rfl
  have O_Net_children : OwnM P w K mg base 2 (He.ga K "Net") "children" ["self", "place"] (sp_Net_children K) := ⟨⟨He.fAd K d_Net_children.at_, fd_Net_children, ok_Net_children (k := 1) F_Net_children T (O_Net__demand.up (by decide)), He.meth_ok (c.fact 95 (f := .meth "Net" "children") rfl), b_Net_children⟩⟩
  obtain ⟨fd_Net_kind_of, FD_Net_kind_of⟩ := c.def_ 43 (d := d_Net_kind_of) rfl
  have F_Net_kind_of : Fun K "kind_of" "Net.kind_of" s_Net_kind_of (He.fAd K d_Net_kind_of.at_) fd_Net_kind_of := fun_of FD_Net_kind_of
  have b_Net_kind_of : Binds K fd_Net_kind_of ["self", "place"] [] := FD_Net_kind_of.bindsN fun _ _ _ _ _ _ us hl => match us, hl with | [_, _], _ => rfl
  have O_Net_kind_of : OwnM P w K mg base 2 (He.ga K "Net") "kind_of" ["self", "place"] (sp_Net_kind_of K) := ⟨⟨He.fAd K d_Net_kind_of.at_, fd_Net_kind_of, ok_Net_kind_of (k := 1) F_Net_kind_of T (O_Net__demand.up (by decide)), He.meth_ok (c.fact 96 (f := .meth "Net" "kind_of") rfl), b_Net_kind_of⟩⟩
  obtain ⟨fd_split_child, FD_split_child⟩ := c.def_ 22 (d := d_split_child) rfl
  have F_split_child : Fun K "_split_child" "_split_child" s_split_child (He.fAd K d_split_child.at_) fd_split_child := fun_of FD_split_child
  have b_split_child : Binds K fd_split_child ["net", "members", "place"] [] := FD_split_child.bindsN fun _ _ _ _ _ _ us hl => match us, hl with | [_, _, _], _ => rfl
  have kb_split_child : KBn K fd_split_child ["net", "members", "place"] 0 ["net", "members", "place"] (fun _ ws => ws) (fun _ zs => zs) := kbn_of F_split_child fun _ _ _ _ _ _ ws hl => match ws, hl with | [_, _, _], _ => rfl
  have O_split_child : Own P w K mg base 3 "_split_child" ["net", "members", "place"] (sp_split_child K) := Own.mk' F_split_child (ok_split_child (k := 2) F_split_child T (O_Net_children.up (by decide)) (O_Net_kind_of.up (by decide))) (He.glo_ok X G (c.fact 22 (f := .glo "_split_child") rfl)) b_split_child kb_split_child
  obtain ⟨fd_member_below_mixing, FD_member_below_mixing⟩ := c.def_ 23 (d := d_member_below_mixing) rfl
  have F_member_below_mixing : Fun K "_member_below_mixing" "_member_below_mixing" s_member_below_mixing (He.fAd K d_member_below_mixing.at_) fd_member_below_mixing := fun_of FD_member_below_mixing
  have b_member_below_mixing : Binds K fd_member_below_mixing ["net", "members", "place"] [] := FD_member_below_mixing.bindsN fun _ _ _ _ _ _ us hl => match us, hl with | [_, _, _], _ => rfl
  have kb_member_below_mixing : KBn K fd_member_below_mixing ["net", "members", "place"] 0 ["net", "members", "place"] (fun _ ws => ws) (fun _ zs => zs) := kbn_of F_member_below_mixing fun _ _ _ _ _ _ ws hl => match ws, hl with | [_, _, _], _ => rfl
  have O_member_below_mixing : Own P w K mg base 3 "_member_below_mixing" ["net", "members", "place"] (sp_member_below_mixing K) := Own.mk' F_member_below_mixing (ok_member_below_mixing (k := 2) F_member_below_mixing T (O_Net_kind_of.up (by decide)) (O_Net_children.up (by decide))) (He.glo_ok X G (c.fact 23 (f := .glo "_member_below_mixing") rfl)) b_member_below_mixing kb_member_below_mixing
  obtain ⟨fd_mixing_children, FD_mixing_children⟩ := c.def_ 24 (d := d_mixing_children) rfl
  have F_mixing_children : Fun K "_mixing_children" "_mixing_children" s_mixing_children (He.fAd K d_mixing_children.at_) fd_mixing_children := fun_of FD_mixing_children
  have b_mixing_children : Binds K fd_mixing_children ["net", "members", "place"] [] := FD_mixing_children.bindsN fun _ _ _ _ _ _ us hl => match us, hl with | [_, _, _], _ => rfl
  have kb_mixing_children : KBn K fd_mixing_children ["net", "members", "place"] 0 ["net", "members", "place"] (fun _ ws => ws) (fun _ zs => zs) := kbn_of F_mixing_children fun _ _ _ _ _ _ ws hl => match ws, hl with | [_, _, _], _ => rfl
  have O_mixing_children : Own P w K mg base 3 "_mixing_children" ["net", "members", "place"] (sp_mixing_children K) := Own.mk' F_mixing_children (ok_mixing_children (k := 2) F_mixing_children T (O_Net_children.up (by decide)) (O_Net_kind_of.up (by decide))) (He.glo_ok X G (c.fact 24 (f := .glo "_mixing_children") rfl)) b_mixing_children kb_mixing_children
  obtain ⟨fd_member_child, FD_member_child⟩ := c.def_ 25 (d := d_member_child) rfl
  have F_member_child : Fun K "_member_child" "_member_child" s_member_child (He.fAd K d_member_child.at_) fd_member_child := fun_of FD_member_child
  have b_member_child : Binds K fd_member_child ["net", "members", "place"] [] := FD_member_child.bindsN fun _ _ _ _ _ _ us hl => match us, hl with | [_, _, _], _ => rfl
  have kb_member_child : KBn K fd_member_child ["net", "members", "place"] 0 ["net", "members", "place"] (fun _ ws => ws) (fun _ zs => zs) := kbn_of F_member_child fun _ _ _ _ _ _ ws hl => match ws, hl with | [_, _, _], _ => rfl
  have O_member_child : Own P w K mg base 3 "_member_child" ["net", "members", "place"] (sp_member_child K) := Own.mk' F_member_child (ok_member_child (k := 2) F_member_child T (O_Net_children.up (by decide)) (O_Net_kind_of.up (by decide))) (He.glo_ok X G (c.fact 25 (f := .glo "_member_child") rfl)) b_member_child kb_member_child
  obtain ⟨fd_Net_mothers, FD_Net_mothers⟩ := c.def_ 41 (d := d_Net_mothers) rfl
  have F_Net_mothers : Fun K "mothers" "Net.mothers" s_Net_mothers (He.fAd K d_Net_mothers.at_) fd_Net_mothers := fun_of FD_Net_mothers
  have b_Net_mothers : Binds K fd_Net_mothers ["self", "place"] [] := FD_Net_mothers.bindsN fun _ _ _ _ _ _ us hl => match us, hl with | [_, _], _ => rfl
  have O_Net_mothers : OwnM P w K mg base 2 (He.ga K "Net") "mothers" ["self", "place"] (sp_Net_mothers K) := ⟨⟨He.fAd K d_Net_mothers.at_, fd_Net_mothers, ok_Net_mothers (k := 1) F_Net_mothers T (O_Net__demand.up (by decide)), He.meth_ok (c.fact 97 (f := .meth "Net" "mothers") rfl), b_Net_mothers⟩⟩
  obtain ⟨fd_bound_mothers, FD_bound_mothers⟩ := c.def_ 26 (d := d_bound_mothers) rfl
  have F_bound_mothers : Fun K "_bound_mothers" "_bound_mothers" s_bound_mothers (He.fAd K d_bound_mothers.at_) fd_bound_mothers := fun_of FD_bound_mothers
  have b_bound_mothers : Binds K fd_bound_mothers ["net", "members", "place"] [] := FD_bound_mothers.bindsN fun _ _ _ _ _ _ us hl => match us, hl with | [_, _, _], _ => rfl
  have kb_bound_mothers : KBn K fd_bound_mothers ["net", "members", "place"] 0 ["net", "members", "place"] (fun _ ws => ws) (fun _ zs => zs) := kbn_of F_bound_mothers fun _ _ _ _ _ _ ws hl => match ws, hl with | [_, _, _], _ => rfl
  have O_bound_mothers : Own P w K mg base 3 "_bound_mothers" ["net", "members", "place"] (sp_bound_mothers K) := Own.mk' F_bound_mothers (ok_bound_mothers (k := 2) F_bound_mothers T (O_Net_kind_of.up (by decide)) (O_Net_mothers.up (by decide)) (O_Net_children.up (by decide))) (He.glo_ok X G (c.fact 26 (f := .glo "_bound_mothers") rfl)) b_bound_mothers kb_bound_mothers
  obtain ⟨fd_Net_inner, FD_Net_inner⟩ := c.def_ 35 (d := d_Net_inner) rfl
  have F_Net_inner : Fun K "inner" "Net.inner" s_Net_inner (He.fAd K d_Net_inner.at_) fd_Net_inner := fun_of FD_Net_inner
  have b_Net_inner : Binds K fd_Net_inner ["self"] [] := FD_Net_inner.bindsN fun _ _ _ _ _ _ us hl => match us, hl with | [_], _ => rfl
  have O_Net_inner : OwnM P w K mg base 1 (He.ga K "Net") "inner" ["self"] (sp_Net_inner K) := ⟨⟨He.fAd K d_Net_inner.at_, fd_Net_inner, ok_Net_inner (k := 0) F_Net_inner T , He.meth_ok (c.fact 98 (f := .meth "Net" "inner") rfl), b_Net_inner⟩⟩
  obtain ⟨fd_demand_inner, FD_demand_inner⟩ := c.def_ 29 (d := d_demand_inner) rfl
  have F_demand_inner : Fun K "_demand_inner" "_demand_inner" s_demand_inner (He.fAd K d_demand_inner.at_) fd_demand_inner := fun_of FD_demand_inner
  have b_demand_inner : Binds K fd_demand_inner ["net", "places"] [] := FD_demand_inner.bindsN fun _ _ _ _ _ _ us hl => match us, hl with | [_, _], _ => rfl
  have kb_demand_inner : KBn K fd_demand_inner ["net", "places"] 0 ["net", "places"] (fun _ ws => ws) (fun _ zs => zs) := kbn_of F_demand_inner fun _ _ _ _ _ _ ws hl => match ws, hl with | [_, _], _ => rfl
  have O_demand_inner : Own P w K mg base 2 "_demand_inner" ["net", "places"] (sp_demand_inner K) := Own.mk' F_demand_inner (ok_demand_inner (k := 1) F_demand_inner T (O_Net_inner.up (by decide))) (He.glo_ok X G (c.fact 29 (f := .glo "_demand_inner") rfl)) b_demand_inner kb_demand_inner
  obtain ⟨fd_rule, FD_rule⟩ := c.def_ 30 (d := d_rule) rfl
  have F_rule : Fun K "_rule" "_rule" s_rule (He.fAd K d_rule.at_) fd_rule := fun_of FD_rule
  have b_rule : Binds K fd_rule ["net", "members", "place"] [] := FD_rule.bindsN fun _ _ _ _ _ _ us hl => match us, hl with | [_, _, _], _ => rfl
  have kb_rule : KBn K fd_rule ["net", "members", "place"] 0 ["net", "members", "place"] (fun _ ws => ws) (fun _ zs => zs) := kbn_of F_rule fun _ _ _ _ _ _ ws hl => match ws, hl with | [_, _, _], _ => rfl
  have O_rule : Own P w K mg base 4 "_rule" ["net", "members", "place"] (sp_rule K) := Own.mk' F_rule (ok_rule (k := 3) F_rule T (O_split_child.up (by decide)) (O_member_below_mixing.up (by decide)) (O_mixing_children.up (by decide)) (O_member_child.up (by decide)) (O_bound_mothers.up (by decide))) (He.glo_ok X G (c.fact 30 (f := .glo "_rule") rfl)) b_rule kb_rule
  obtain ⟨fd_held, FD_held⟩ := c.def_ 31 (d := d_held) rfl
  have F_held : Fun K "_held" "_held" s_held (He.fAd K d_held.at_) fd_held := fun_of FD_held
  have b_held : Binds K fd_held ["net", "members"] [] := FD_held.bindsN fun _ _ _ _ _ _ us hl => match us, hl with | [_, _], _ => rfl
  have kb_held : KBn K fd_held ["net", "members"] 0 ["net", "members"] (fun _ ws => ws) (fun _ zs => zs) := kbn_of F_held fun _ _ _ _ _ _ ws hl => match ws, hl with | [_, _], _ => rfl
  have O_held : Own P w K mg base 5 "_held" ["net", "members"] (sp_held K) := Own.mk' F_held (ok_held (k := 4) F_held T (O_rule.up (by decide))) (He.glo_ok X G (c.fact 31 (f := .glo "_held") rfl)) b_held kb_held
  obtain ⟨fd_greatest_part, FD_greatest_part⟩ := c.def_ 32 (d := d_greatest_part) rfl
  have F_greatest_part : Fun K "_greatest_part" "_greatest_part" s_greatest_part (He.fAd K d_greatest_part.at_) fd_greatest_part := fun_of FD_greatest_part
  have b_greatest_part : Binds K fd_greatest_part ["net", "members"] [] := FD_greatest_part.bindsN fun _ _ _ _ _ _ us hl => match us, hl with | [_, _], _ => rfl
  have kb_greatest_part : KBn K fd_greatest_part ["net", "members"] 0 ["net", "members"] (fun _ ws => ws) (fun _ zs => zs) := kbn_of F_greatest_part fun _ _ _ _ _ _ ws hl => match ws, hl with | [_, _], _ => rfl
  have O_greatest_part : Own P w K mg base 6 "_greatest_part" ["net", "members"] (sp_greatest_part K) := Own.mk' F_greatest_part (ok_greatest_part (k := 5) F_greatest_part T (O_held.up (by decide))) (He.glo_ok X G (c.fact 32 (f := .glo "_greatest_part") rfl)) b_greatest_part kb_greatest_part
  obtain ⟨fd_greatest_knot, FD_greatest_knot⟩ := c.def_ 27 (d := d_greatest_knot) rfl
  have F_greatest_knot : Fun K "greatest_knot" "greatest_knot" s_greatest_knot (He.fAd K d_greatest_knot.at_) fd_greatest_knot := fun_of (FunD.plain FD_greatest_knot rfl)
  have OKF_greatest_knot := ok_greatest_knot (k := 6) F_greatest_knot T (O_Net_inner.up (by decide)) (O_demand_inner.up (by decide)) (O_greatest_part.up (by decide))
  have ODf_greatest_knot : OwnD P w K mg base 7 "greatest_knot" ["net", "members"] [.non] (sp_greatest_knot K) := by
    obtain ⟨ds, rv, hb⟩ := FD_greatest_knot.binds0 (ps := ["net", "members"]) 1 (List.cons_ne_nil _ _) rfl fun _ _ _ _ _ _ us ks h1 h2 => match us, h1, ks, h2 with | [_], _, [_], _ => ⟨_, _, _, _, _, _, rfl, rfl, rfl⟩
    exact ⟨⟨_, fd_greatest_knot, ds, OKF_greatest_knot, He.glo_ok X G (c.fact 27 (f := .glo "greatest_knot") rfl), FD_greatest_knot.kp, rv, hb⟩⟩
  obtain ⟨fd_knot_core, FD_knot_core⟩ := c.def_ 28 (d := d_knot_core) rfl
  have F_knot_core : Fun K "knot_core" "knot_core" s_knot_core (He.fAd K d_knot_core.at_) fd_knot_core := fun_of FD_knot_core
  have b_knot_core : Binds K fd_knot_core ["net"] [] := FD_knot_core.bindsN fun _ _ _ _ _ _ us hl => match us, hl with | [_], _ => rfl
  have kb_knot_core : KBn K fd_knot_core ["net"] 0 ["net"] (fun _ ws => ws) (fun _ zs => zs) := kbn_of F_knot_core fun _ _ _ _ _ _ ws hl => match ws, hl with | [_], _ => rfl
  have O_knot_core : Own P w K mg base 8 "knot_core" ["net"] (sp_knot_core K) := Own.mk' F_knot_core (ok_knot_core (k := 7) F_knot_core T (O_greatest_part.up (by decide)) (ODf_greatest_knot.up (by decide))) (He.glo_ok X G (c.fact 28 (f := .glo "knot_core") rfl)) b_knot_core kb_knot_core
  obtain ⟨fd_Net___init, FD_Net___init⟩ := c.def_ 33 (d := d_Net___init) rfl
  have F_Net___init : Fun K "__init__" "Net.__init__" s_Net___init (He.fAd K d_Net___init.at_) fd_Net___init := fun_of FD_Net___init
  have b_Net___init : Binds K fd_Net___init ["self", "arrows", "leaves"] [] := FD_Net___init.bindsN fun _ _ _ _ _ _ us hl => match us, hl with | [_, _, _], _ => rfl
  have O_Net___init : OwnC P w K mg base 8 "Net" (He.ga K "Net") ["self", "arrows", "leaves"] (sp_Net___init K) := ⟨⟨7, He.fAd K d_Net___init.at_, fd_Net___init, Nat.le_refl _, ok_Net___init (k := 6) F_Net___init T (O_net_fault.up (by decide)) (O_relatives.up (by decide)), He.mkr_ok (c.fact 99 (f := .mkr "Net") rfl), He.glo_ok X G (c.fact 93 (f := .glo "Net") rfl), b_Net___init⟩⟩
  obtain ⟨fd_Net_places, FD_Net_places⟩ := c.def_ 34 (d := d_Net_places) rfl
  have F_Net_places : Fun K "places" "Net.places" s_Net_places (He.fAd K d_Net_places.at_) fd_Net_places := fun_of FD_Net_places
  have b_Net_places : Binds K fd_Net_places ["self"] [] := FD_Net_places.bindsN fun _ _ _ _ _ _ us hl => match us, hl with | [_], _ => rfl
  have O_Net_places : OwnM P w K mg base 1 (He.ga K "Net") "places" ["self"] (sp_Net_places K) := ⟨⟨He.fAd K d_Net_places.at_, fd_Net_places, ok_Net_places (k := 0) F_Net_places T , He.meth_ok (c.fact 100 (f := .meth "Net" "places") rfl), b_Net_places⟩⟩
  obtain ⟨fd_Net_splits, FD_Net_splits⟩ := c.def_ 36 (d := d_Net_splits) rfl
  have F_Net_splits : Fun K "splits" "Net.splits" s_Net_splits (He.fAd K d_Net_splits.at_) fd_Net_splits := fun_of FD_Net_splits
  have b_Net_splits : Binds K fd_Net_splits ["self"] [] := FD_Net_splits.bindsN fun _ _ _ _ _ _ us hl => match us, hl with | [_], _ => rfl
  have O_Net_splits : OwnM P w K mg base 1 (He.ga K "Net") "splits" ["self"] (sp_Net_splits K) := ⟨⟨He.fAd K d_Net_splits.at_, fd_Net_splits, ok_Net_splits (k := 0) F_Net_splits T , He.meth_ok (c.fact 101 (f := .meth "Net" "splits") rfl), b_Net_splits⟩⟩
  obtain ⟨fd_Net_mixings, FD_Net_mixings⟩ := c.def_ 37 (d := d_Net_mixings) rfl
  have F_Net_mixings : Fun K "mixings" "Net.mixings" s_Net_mixings (He.fAd K d_Net_mixings.at_) fd_Net_mixings := fun_of FD_Net_mixings
  have b_Net_mixings : Binds K fd_Net_mixings ["self"] [] := FD_Net_mixings.bindsN fun _ _ _ _ _ _ us hl => match us, hl with | [_], _ => rfl
  have O_Net_mixings : OwnM P w K mg base 1 (He.ga K "Net") "mixings" ["self"] (sp_Net_mixings K) := ⟨⟨He.fAd K d_Net_mixings.at_, fd_Net_mixings, ok_Net_mixings (k := 0) F_Net_mixings T , He.meth_ok (c.fact 102 (f := .meth "Net" "mixings") rfl), b_Net_mixings⟩⟩
  obtain ⟨fd_Net_arrows, FD_Net_arrows⟩ := c.def_ 38 (d := d_Net_arrows) rfl
  have F_Net_arrows : Fun K "arrows" "Net.arrows" s_Net_arrows (He.fAd K d_Net_arrows.at_) fd_Net_arrows := fun_of FD_Net_arrows
  have b_Net_arrows : Binds K fd_Net_arrows ["self"] [] := FD_Net_arrows.bindsN fun _ _ _ _ _ _ us hl => match us, hl with | [_], _ => rfl
  have O_Net_arrows : OwnM P w K mg base 1 (He.ga K "Net") "arrows" ["self"] (sp_Net_arrows K) := ⟨⟨He.fAd K d_Net_arrows.at_, fd_Net_arrows, ok_Net_arrows (k := 0) F_Net_arrows T , He.meth_ok (c.fact 103 (f := .meth "Net" "arrows") rfl), b_Net_arrows⟩⟩
  obtain ⟨fd_Net_leaves, FD_Net_leaves⟩ := c.def_ 39 (d := d_Net_leaves) rfl
  have F_Net_leaves : Fun K "leaves" "Net.leaves" s_Net_leaves (He.fAd K d_Net_leaves.at_) fd_Net_leaves := fun_of FD_Net_leaves
  have b_Net_leaves : Binds K fd_Net_leaves ["self"] [] := FD_Net_leaves.bindsN fun _ _ _ _ _ _ us hl => match us, hl with | [_], _ => rfl
  have O_Net_leaves : OwnM P w K mg base 1 (He.ga K "Net") "leaves" ["self"] (sp_Net_leaves K) := ⟨⟨He.fAd K d_Net_leaves.at_, fd_Net_leaves, ok_Net_leaves (k := 0) F_Net_leaves T , He.meth_ok (c.fact 104 (f := .meth "Net" "leaves") rfl), b_Net_leaves⟩⟩
  obtain ⟨fd_Net_names, FD_Net_names⟩ := c.def_ 40 (d := d_Net_names) rfl
  have F_Net_names : Fun K "names" "Net.names" s_Net_names (He.fAd K d_Net_names.at_) fd_Net_names := fun_of FD_Net_names
  have b_Net_names : Binds K fd_Net_names ["self"] [] := FD_Net_names.bindsN fun _ _ _ _ _ _ us hl => match us, hl with | [_], _ => rfl
  have O_Net_names : OwnM P w K mg base 1 (He.ga K "Net") "names" ["self"] (sp_Net_names K) := ⟨⟨He.fAd K d_Net_names.at_, fd_Net_names, ok_Net_names (k := 0) F_Net_names T , He.meth_ok (c.fact 105 (f := .meth "Net" "names") rfl), b_Net_names⟩⟩
  obtain ⟨fd_Net___eq, FD_Net___eq⟩ := c.def_ 44 (d := d_Net___eq) rfl
  have F_Net___eq : Fun K "__eq__" "Net.__eq__" s_Net___eq (He.fAd K d_Net___eq.at_) fd_Net___eq := fun_of FD_Net___eq
  have b_Net___eq : Binds K fd_Net___eq ["self", "other"] [] := FD_Net___eq.bindsN fun _ _ _ _ _ _ us hl => match us, hl with | [_, _], _ => rfl
  have O_Net___eq : OwnM P w K mg base 1 (He.ga K "Net") "__eq__" ["self", "other"] (sp_Net___eq K) := ⟨⟨He.fAd K d_Net___eq.at_, fd_Net___eq, ok_Net___eq (k := 0) F_Net___eq T , He.meth_ok (c.fact 106 (f := .meth "Net" "__eq__") rfl), b_Net___eq⟩⟩
  obtain ⟨fd_Net___contains, FD_Net___contains⟩ := c.def_ 45 (d := d_Net___contains) rfl
  have F_Net___contains : Fun K "__contains__" "Net.__contains__" s_Net___contains (He.fAd K d_Net___contains.at_) fd_Net___contains := fun_of FD_Net___contains
  have b_Net___contains : Binds K fd_Net___contains ["self", "x"] [] := FD_Net___contains.bindsN fun _ _ _ _ _ _ us hl => match us, hl with | [_, _], _ => rfl
  have O_Net___contains : OwnM P w K mg base 1 (He.ga K "Net") "__contains__" ["self", "x"] (sp_Net___contains K) := ⟨⟨He.fAd K d_Net___contains.at_, fd_Net___contains, ok_Net___contains (k := 0) F_Net___contains T , He.meth_ok (c.fact 107 (f := .meth "Net" "__contains__") rfl), b_Net___contains⟩⟩
  obtain ⟨fd_law_mix, FD_law_mix⟩ := c.def_ 47 (d := d_law_mix) rfl
  have F_law_mix : Fun K "_law_mix" "_law_mix" s_law_mix (He.fAd K d_law_mix.at_) fd_law_mix := fun_of FD_law_mix
  have b_law_mix : Binds K fd_law_mix ["cell", "turn"] [] := FD_law_mix.bindsN fun _ _ _ _ _ _ us hl => match us, hl with | [_, _], _ => rfl
  have kb_law_mix : KBn K fd_law_mix ["cell", "turn"] 0 ["cell", "turn"] (fun _ ws => ws) (fun _ zs => zs) := kbn_of F_law_mix fun _ _ _ _ _ _ ws hl => match ws, hl with | [_, _], _ => rfl
  have O_law_mix : Own P w K mg base 1 "_law_mix" ["cell", "turn"] (sp_law_mix) := Own.mk' F_law_mix (ok_law_mix (k := 0) F_law_mix T ) (He.glo_ok X G (c.fact 33 (f := .glo "_law_mix") rfl)) b_law_mix kb_law_mix
  obtain ⟨fd_law_store, FD_law_store⟩ := c.def_ 48 (d := d_law_store) rfl
  have F_law_store : Fun K "_law_store" "_law_store" s_law_store (He.fAd K d_law_store.at_) fd_law_store := fun_of FD_law_store
  have b_law_store : Binds K fd_law_store ["script"] [] := FD_law_store.bindsN fun _ _ _ _ _ _ us hl => match us, hl with | [_], _ => rfl
  have kb_law_store : KBn K fd_law_store ["script"] 0 ["script"] (fun _ ws => ws) (fun _ zs => zs) := kbn_of F_law_store fun _ _ _ _ _ _ ws hl => match ws, hl with | [_], _ => rfl
  have O_law_store : Own P w K mg base 2 "_law_store" ["script"] (sp_law_store K) := Own.mk' F_law_store (ok_law_store (k := 1) F_law_store T (O_law_mix.up (by decide))) (He.glo_ok X G (c.fact 34 (f := .glo "_law_store") rfl)) b_law_store kb_law_store
  obtain ⟨fd_law_take, FD_law_take⟩ := c.def_ 49 (d := d_law_take) rfl
  have F_law_take : Fun K "_law_take" "_law_take" s_law_take (He.fAd K d_law_take.at_) fd_law_take := fun_of FD_law_take
  have b_law_take : Binds K fd_law_take ["store", "many"] [] := FD_law_take.bindsN fun _ _ _ _ _ _ us hl => match us, hl with | [_, _], _ => rfl
  have kb_law_take : KBn K fd_law_take ["store", "many"] 0 ["store", "many"] (fun _ ws => ws) (fun _ zs => zs) := kbn_of F_law_take fun _ _ _ _ _ _ ws hl => match ws, hl with | [_, _], _ => rfl
  have O_law_take : Own P w K mg base 2 "_law_take" ["store", "many"] (sp_law_take) := Own.mk' F_law_take (ok_law_take (k := 1) F_law_take T (O_law_mix.up (by decide))) (He.glo_ok X G (c.fact 35 (f := .glo "_law_take") rfl)) b_law_take kb_law_take
  obtain ⟨fd_law_pick, FD_law_pick⟩ := c.def_ 50 (d := d_law_pick) rfl
  have F_law_pick : Fun K "_law_pick" "_law_pick" s_law_pick (He.fAd K d_law_pick.at_) fd_law_pick := fun_of FD_law_pick
  have b_law_pick : Binds K fd_law_pick ["store", "things"] [] := FD_law_pick.bindsN fun _ _ _ _ _ _ us hl => match us, hl with | [_, _], _ => rfl
  have kb_law_pick : KBn K fd_law_pick ["store", "things"] 0 ["store", "things"] (fun _ ws => ws) (fun _ zs => zs) := kbn_of F_law_pick fun _ _ _ _ _ _ ws hl => match ws, hl with | [_, _], _ => rfl
  have O_law_pick : Own P w K mg base 3 "_law_pick" ["store", "things"] (sp_law_pick K) := Own.mk' F_law_pick (ok_law_pick (k := 2) F_law_pick T (O_law_take.up (by decide))) (He.glo_ok X G (c.fact 36 (f := .glo "_law_pick") rfl)) b_law_pick kb_law_pick
  obtain ⟨fd_law_same, FD_law_same⟩ := c.def_ 51 (d := d_law_same) rfl
  have F_law_same : Fun K "_law_same" "_law_same" s_law_same (He.fAd K d_law_same.at_) fd_law_same := fun_of FD_law_same
  have b_law_same : Binds K fd_law_same ["given", "due"] [] := FD_law_same.bindsN fun _ _ _ _ _ _ us hl => match us, hl with | [_, _], _ => rfl
  have kb_law_same : KBn K fd_law_same ["given", "due"] 0 ["given", "due"] (fun _ ws => ws) (fun _ zs => zs) := kbn_of F_law_same fun _ _ _ _ _ _ ws hl => match ws, hl with | [_, _], _ => rfl
  have g_law_same := He.glo_ok X G (c.fact 37 (f := .glo "_law_same") rfl)
  have O_law_same : ∀ n : Nat, Own P w K mg base (0 + n) "_law_same" ["given", "due"] (sp_law_same n) := fun n => by
      induction n with
      | zero => exact Own.mk' F_law_same (FnOk.never fun vs H Q E h => by
          obtain ⟨S, x, y, d, e, L, m, rfl, hS, hd, he, hD, hm, hL, q⟩ := h
          omega) g_law_same b_law_same kb_law_same
      | succ n ih => exact Own.mk' F_law_same (ok_law_same (k := 0 + n) F_law_same T ih) g_law_same b_law_same kb_law_same
  obtain ⟨fd_law_rising, FD_law_rising⟩ := c.def_ 52 (d := d_law_rising) rfl
  have F_law_rising : Fun K "_law_rising" "_law_rising" s_law_rising (He.fAd K d_law_rising.at_) fd_law_rising := fun_of FD_law_rising
  have b_law_rising : Binds K fd_law_rising ["things"] [] := FD_law_rising.bindsN fun _ _ _ _ _ _ us hl => match us, hl with | [_], _ => rfl
  have kb_law_rising : KBn K fd_law_rising ["things"] 0 ["things"] (fun _ ws => ws) (fun _ zs => zs) := kbn_of F_law_rising fun _ _ _ _ _ _ ws hl => match ws, hl with | [_], _ => rfl
  have O_law_rising : Own P w K mg base 1 "_law_rising" ["things"] (sp_law_rising K) := Own.mk' F_law_rising (ok_law_rising (k := 0) F_law_rising T ) (He.glo_ok X G (c.fact 38 (f := .glo "_law_rising") rfl)) b_law_rising kb_law_rising
  obtain ⟨fd_law_all, FD_law_all⟩ := c.def_ 53 (d := d_law_all) rfl
  have F_law_all : Fun K "_law_all" "_law_all" s_law_all (He.fAd K d_law_all.at_) fd_law_all := fun_of FD_law_all
  have b_law_all : Binds K fd_law_all ["net"] [] := FD_law_all.bindsN fun _ _ _ _ _ _ us hl => match us, hl with | [_], _ => rfl
  have kb_law_all : KBn K fd_law_all ["net"] 0 ["net"] (fun _ ws => ws) (fun _ zs => zs) := kbn_of F_law_all fun _ _ _ _ _ _ ws hl => match ws, hl with | [_], _ => rfl
  have O_law_all : Own P w K mg base 1 "_law_all" ["net"] (sp_law_all) := Own.mk' F_law_all (ok_law_all (k := 0) F_law_all T ) (He.glo_ok X G (c.fact 39 (f := .glo "_law_all") rfl)) b_law_all kb_law_all
  obtain ⟨fd_law_ups, FD_law_ups⟩ := c.def_ 54 (d := d_law_ups) rfl
  have F_law_ups : Fun K "_law_ups" "_law_ups" s_law_ups (He.fAd K d_law_ups.at_) fd_law_ups := fun_of FD_law_ups
  have b_law_ups : Binds K fd_law_ups ["net"] [] := FD_law_ups.bindsN fun _ _ _ _ _ _ us hl => match us, hl with | [_], _ => rfl
  have kb_law_ups : KBn K fd_law_ups ["net"] 0 ["net"] (fun _ ws => ws) (fun _ zs => zs) := kbn_of F_law_ups fun _ _ _ _ _ _ ws hl => match ws, hl with | [_], _ => rfl
  have O_law_ups : Own P w K mg base 2 "_law_ups" ["net"] (sp_law_ups) := Own.mk' F_law_ups (ok_law_ups (k := 1) F_law_ups T (O_law_all.up (by decide))) (He.glo_ok X G (c.fact 40 (f := .glo "_law_ups") rfl)) b_law_ups kb_law_ups
  obtain ⟨fd_law_downs, FD_law_downs⟩ := c.def_ 55 (d := d_law_downs) rfl
  have F_law_downs : Fun K "_law_downs" "_law_downs" s_law_downs (He.fAd K d_law_downs.at_) fd_law_downs := fun_of FD_law_downs
  have b_law_downs : Binds K fd_law_downs ["net"] [] := FD_law_downs.bindsN fun _ _ _ _ _ _ us hl => match us, hl with | [_], _ => rfl
  have kb_law_downs : KBn K fd_law_downs ["net"] 0 ["net"] (fun _ ws => ws) (fun _ zs => zs) := kbn_of F_law_downs fun _ _ _ _ _ _ ws hl => match ws, hl with | [_], _ => rfl
  have O_law_downs : Own P w K mg base 2 "_law_downs" ["net"] (sp_law_downs) := Own.mk' F_law_downs (ok_law_downs (k := 1) F_law_downs T (O_law_all.up (by decide))) (He.glo_ok X G (c.fact 41 (f := .glo "_law_downs") rfl)) b_law_downs kb_law_downs
  obtain ⟨fd_law_inner, FD_law_inner⟩ := c.def_ 56 (d := d_law_inner) rfl
  have F_law_inner : Fun K "_law_inner" "_law_inner" s_law_inner (He.fAd K d_law_inner.at_) fd_law_inner := fun_of FD_law_inner
  have b_law_inner : Binds K fd_law_inner ["net", "many"] [] := FD_law_inner.bindsN fun _ _ _ _ _ _ us hl => match us, hl with | [_, _], _ => rfl
  have kb_law_inner : KBn K fd_law_inner ["net", "many"] 0 ["net", "many"] (fun _ ws => ws) (fun _ zs => zs) := kbn_of F_law_inner fun _ _ _ _ _ _ ws hl => match ws, hl with | [_, _], _ => rfl
  have O_law_inner : Own P w K mg base 3 "_law_inner" ["net", "many"] (sp_law_inner) := Own.mk' F_law_inner (ok_law_inner (k := 2) F_law_inner T (O_law_downs.up (by decide)) (O_law_all.up (by decide))) (He.glo_ok X G (c.fact 42 (f := .glo "_law_inner") rfl)) b_law_inner kb_law_inner
  obtain ⟨fd_law_is_net, FD_law_is_net⟩ := c.def_ 57 (d := d_law_is_net) rfl
  have F_law_is_net : Fun K "_law_is_net" "_law_is_net" s_law_is_net (He.fAd K d_law_is_net.at_) fd_law_is_net := fun_of FD_law_is_net
  have b_law_is_net : Binds K fd_law_is_net ["given", "net"] [] := FD_law_is_net.bindsN fun _ _ _ _ _ _ us hl => match us, hl with | [_, _], _ => rfl
  have kb_law_is_net : KBn K fd_law_is_net ["given", "net"] 0 ["given", "net"] (fun _ ws => ws) (fun _ zs => zs) := kbn_of F_law_is_net fun _ _ _ _ _ _ ws hl => match ws, hl with | [_, _], _ => rfl
  have O_law_is_net : Own P w K mg base 5 "_law_is_net" ["given", "net"] (sp_law_is_net K) := Own.mk' F_law_is_net (ok_law_is_net (k := 4) F_law_is_net T ((O_law_same 4).up (by decide)) (O_Net_leaves.up (by decide)) (O_Net_arrows.up (by decide))) (He.glo_ok X G (c.fact 43 (f := .glo "_law_is_net") rfl)) b_law_is_net kb_law_is_net
  obtain ⟨fd_law_rule, FD_law_rule⟩ := c.def_ 58 (d := d_law_rule) rfl
  have F_law_rule : Fun K "_law_rule" "_law_rule" s_law_rule (He.fAd K d_law_rule.at_) fd_law_rule := fun_of FD_law_rule
  have b_law_rule : Binds K fd_law_rule ["ups", "downs", "held", "at"] [] := FD_law_rule.bindsN fun _ _ _ _ _ _ us hl => match us, hl with | [_, _, _, _], _ => rfl
  have kb_law_rule : KBn K fd_law_rule ["ups", "downs", "held", "at"] 0 ["ups", "downs", "held", "at"] (fun _ ws => ws) (fun _ zs => zs) := kbn_of F_law_rule fun _ _ _ _ _ _ ws hl => match ws, hl with | [_, _, _, _], _ => rfl
  have O_law_rule : Own P w K mg base 1 "_law_rule" ["ups", "downs", "held", "at"] (sp_law_rule K) := Own.mk' F_law_rule (ok_law_rule (k := 0) F_law_rule T ) (He.glo_ok X G (c.fact 44 (f := .glo "_law_rule") rfl)) b_law_rule kb_law_rule
  obtain ⟨fd_law_spots, FD_law_spots⟩ := c.def_ 59 (d := d_law_spots) rfl
  have F_law_spots : Fun K "_law_spots" "_law_spots" s_law_spots (He.fAd K d_law_spots.at_) fd_law_spots := fun_of FD_law_spots
  have b_law_spots : Binds K fd_law_spots ["store", "many"] [] := FD_law_spots.bindsN fun _ _ _ _ _ _ us hl => match us, hl with | [_, _], _ => rfl
  have kb_law_spots : KBn K fd_law_spots ["store", "many"] 0 ["store", "many"] (fun _ ws => ws) (fun _ zs => zs) := kbn_of F_law_spots fun _ _ _ _ _ _ ws hl => match ws, hl with | [_, _], _ => rfl
  have O_law_spots : Own P w K mg base 4 "_law_spots" ["store", "many"] (sp_law_spots K) := Own.mk' F_law_spots (ok_law_spots (k := 3) F_law_spots T (O_law_take.up (by decide)) (O_law_pick.up (by decide))) (He.glo_ok X G (c.fact 45 (f := .glo "_law_spots") rfl)) b_law_spots kb_law_spots
  obtain ⟨fd_law_named, FD_law_named⟩ := c.def_ 60 (d := d_law_named) rfl
  have F_law_named : Fun K "_law_named" "_law_named" s_law_named (He.fAd K d_law_named.at_) fd_law_named := fun_of FD_law_named
  have b_law_named : Binds K fd_law_named ["store", "many"] [] := FD_law_named.bindsN fun _ _ _ _ _ _ us hl => match us, hl with | [_, _], _ => rfl
  have kb_law_named : KBn K fd_law_named ["store", "many"] 0 ["store", "many"] (fun _ ws => ws) (fun _ zs => zs) := kbn_of F_law_named fun _ _ _ _ _ _ ws hl => match ws, hl with | [_, _], _ => rfl
  have O_law_named : Own P w K mg base 4 "_law_named" ["store", "many"] (sp_law_named K) := Own.mk' F_law_named (ok_law_named (k := 3) F_law_named T (O_law_pick.up (by decide)) (O_law_take.up (by decide))) (He.glo_ok X G (c.fact 46 (f := .glo "_law_named") rfl)) b_law_named kb_law_named
  obtain ⟨fd_law_size, FD_law_size⟩ := c.def_ 61 (d := d_law_size) rfl
  have F_law_size : Fun K "_law_size" "_law_size" s_law_size (He.fAd K d_law_size.at_) fd_law_size := fun_of FD_law_size
  have b_law_size : Binds K fd_law_size ["store"] [] := FD_law_size.bindsN fun _ _ _ _ _ _ us hl => match us, hl with | [_], _ => rfl
  have kb_law_size : KBn K fd_law_size ["store"] 0 ["store"] (fun _ ws => ws) (fun _ zs => zs) := kbn_of F_law_size fun _ _ _ _ _ _ ws hl => match ws, hl with | [_], _ => rfl
  have O_law_size : Own P w K mg base 4 "_law_size" ["store"] (sp_law_size K) := Own.mk' F_law_size (ok_law_size (k := 3) F_law_size T (O_law_take.up (by decide)) (O_law_pick.up (by decide))) (He.glo_ok X G (c.fact 47 (f := .glo "_law_size") rfl)) b_law_size kb_law_size
  obtain ⟨fd_law_woven, FD_law_woven⟩ := c.def_ 62 (d := d_law_woven) rfl
  have F_law_woven : Fun K "_law_woven" "_law_woven" s_law_woven (He.fAd K d_law_woven.at_) fd_law_woven := fun_of FD_law_woven
  have b_law_woven : Binds K fd_law_woven ["store", "names", "mixings"] [] := FD_law_woven.bindsN fun _ _ _ _ _ _ us hl => match us, hl with | [_, _, _], _ => rfl
  have kb_law_woven : KBn K fd_law_woven ["store", "names", "mixings"] 0 ["store", "names", "mixings"] (fun _ ws => ws) (fun _ zs => zs) := kbn_of F_law_woven fun _ _ _ _ _ _ ws hl => match ws, hl with | [_, _, _], _ => rfl
  have O_law_woven : Own P w K mg base 5 "_law_woven" ["store", "names", "mixings"] (sp_law_woven K) := Own.mk' F_law_woven (ok_law_woven (k := 4) F_law_woven T (O_law_spots.up (by decide)) (O_law_take.up (by decide))) (He.glo_ok X G (c.fact 48 (f := .glo "_law_woven") rfl)) b_law_woven kb_law_woven
  obtain ⟨fd_law_tangled, FD_law_tangled⟩ := c.def_ 63 (d := d_law_tangled) rfl
  have F_law_tangled : Fun K "_law_tangled" "_law_tangled" s_law_tangled (He.fAd K d_law_tangled.at_) fd_law_tangled := fun_of FD_law_tangled
  have b_law_tangled : Binds K fd_law_tangled ["store"] [] := FD_law_tangled.bindsN fun _ _ _ _ _ _ us hl => match us, hl with | [_], _ => rfl
  have kb_law_tangled : KBn K fd_law_tangled ["store"] 0 ["store"] (fun _ ws => ws) (fun _ zs => zs) := kbn_of F_law_tangled fun _ _ _ _ _ _ ws hl => match ws, hl with | [_], _ => rfl
  have O_law_tangled : Own P w K mg base 6 "_law_tangled" ["store"] (sp_law_tangled K) := Own.mk' F_law_tangled (ok_law_tangled (k := 5) F_law_tangled T (O_law_size.up (by decide)) (O_law_take.up (by decide)) (O_law_woven.up (by decide)) (O_law_named.up (by decide))) (He.glo_ok X G (c.fact 49 (f := .glo "_law_tangled") rfl)) b_law_tangled kb_law_tangled
  obtain ⟨fd_law_peeled, FD_law_peeled⟩ := c.def_ 64 (d := d_law_peeled) rfl
  have F_law_peeled : Fun K "_law_peeled" "_law_peeled" s_law_peeled (He.fAd K d_law_peeled.at_) fd_law_peeled := fun_of FD_law_peeled
  have b_law_peeled : Binds K fd_law_peeled ["net", "begin"] [] := FD_law_peeled.bindsN fun _ _ _ _ _ _ us hl => match us, hl with | [_, _], _ => rfl
  have kb_law_peeled : KBn K fd_law_peeled ["net", "begin"] 0 ["net", "begin"] (fun _ ws => ws) (fun _ zs => zs) := kbn_of F_law_peeled fun _ _ _ _ _ _ ws hl => match ws, hl with | [_, _], _ => rfl
  have O_law_peeled : Own P w K mg base 3 "_law_peeled" ["net", "begin"] (sp_law_peeled K) := Own.mk' F_law_peeled (ok_law_peeled (k := 2) F_law_peeled T (O_law_ups.up (by decide)) (O_law_downs.up (by decide)) (O_law_rule.up (by decide))) (He.glo_ok X G (c.fact 50 (f := .glo "_law_peeled") rfl)) b_law_peeled kb_law_peeled
  obtain ⟨fd_law_core, FD_law_core⟩ := c.def_ 65 (d := d_law_core) rfl
  have F_law_core : Fun K "_law_core" "_law_core" s_law_core (He.fAd K d_law_core.at_) fd_law_core := fun_of FD_law_core
  have b_law_core : Binds K fd_law_core ["net"] [] := FD_law_core.bindsN fun _ _ _ _ _ _ us hl => match us, hl with | [_], _ => rfl
  have kb_law_core : KBn K fd_law_core ["net"] 0 ["net"] (fun _ ws => ws) (fun _ zs => zs) := kbn_of F_law_core fun _ _ _ _ _ _ ws hl => match ws, hl with | [_], _ => rfl
  have O_law_core : Own P w K mg base 4 "_law_core" ["net"] (sp_law_core K) := Own.mk' F_law_core (ok_law_core (k := 3) F_law_core T (O_law_peeled.up (by decide)) (O_law_inner.up (by decide))) (He.glo_ok X G (c.fact 51 (f := .glo "_law_core") rfl)) b_law_core kb_law_core
  obtain ⟨fd_law_is_core, FD_law_is_core⟩ := c.def_ 66 (d := d_law_is_core) rfl
  have F_law_is_core : Fun K "_law_is_core" "_law_is_core" s_law_is_core (He.fAd K d_law_is_core.at_) fd_law_is_core := fun_of FD_law_is_core
  have b_law_is_core : Binds K fd_law_is_core ["net", "told"] [] := FD_law_is_core.bindsN fun _ _ _ _ _ _ us hl => match us, hl with | [_, _], _ => rfl
  have kb_law_is_core : KBn K fd_law_is_core ["net", "told"] 0 ["net", "told"] (fun _ ws => ws) (fun _ zs => zs) := kbn_of F_law_is_core fun _ _ _ _ _ _ ws hl => match ws, hl with | [_, _], _ => rfl
  have O_law_is_core : Own P w K mg base 4 "_law_is_core" ["net", "told"] (sp_law_is_core K) := Own.mk' F_law_is_core (ok_law_is_core (k := 3) F_law_is_core T (O_law_peeled.up (by decide)) (O_law_rising.up (by decide))) (He.glo_ok X G (c.fact 52 (f := .glo "_law_is_core") rfl)) b_law_is_core kb_law_is_core
  obtain ⟨fd_law_holds, FD_law_holds⟩ := c.def_ 67 (d := d_law_holds) rfl
  have F_law_holds : Fun K "_law_holds" "_law_holds" s_law_holds (He.fAd K d_law_holds.at_) fd_law_holds := fun_of FD_law_holds
  have b_law_holds : Binds K fd_law_holds ["made", "net", "crowned"] [] := FD_law_holds.bindsN fun _ _ _ _ _ _ us hl => match us, hl with | [_, _, _], _ => rfl
  have kb_law_holds : KBn K fd_law_holds ["made", "net", "crowned"] 0 ["made", "net", "crowned"] (fun _ ws => ws) (fun _ zs => zs) := kbn_of F_law_holds fun _ _ _ _ _ _ ws hl => match ws, hl with | [_, _, _], _ => rfl
  have O_law_holds : Own P w K mg base 72 "_law_holds" ["made", "net", "crowned"] (sp_law_holds K) := Own.mk' F_law_holds (ok_law_holds (k := 71) F_law_holds T (O_law_core.up (by decide)) (O_knot_core.up (by decide)) (O_law_is_core.up (by decide)) ((O_law_same 71).up (by decide)) (O_law_is_net.up (by decide))) (He.glo_ok X G (c.fact 53 (f := .glo "_law_holds") rfl)) b_law_holds kb_law_holds
  obtain ⟨fd_law, FD_law⟩ := c.def_ 68 (d := d_law) rfl
  have F_law : Fun K "law" "law" s_law (He.fAd K d_law.at_) fd_law := fun_of FD_law
  have LAW : FnOk P w K mg base CX0 73 (He.fAd K d_law.at_) fd_law ["script"] (sp_law K) := ok_law (k := 72) F_law T (O_law_store.up (by decide)) (O_law_tangled.up (by decide)) (O_Net___init.up (by decide)) (O_law_holds.up (by decide))
  have e2 : fd0 = fd_law := by
    obtain ⟨_, _, _, _, _, _, _, _, _, _, _, l1, _⟩ := F0.ex
    obtain ⟨_, _, _, _, _, _, _, _, _, _, _, l2, _⟩ := FD_law.ex
    rw [l1] at l2
    injection l2 with l2
    injection l2 with _ _ l2 _
    injection l2
  rw [e2]
  exact LAW
end Pf
open PySem PySem.W PySem.Calls PyProof.Rows
set_option maxRecDepth 100000 in
set_option maxHeartbeats 0 in
theorem PySem.Challenge.cw_levelgifts_k45_core_is_the_last_knot_holds : PySem.Challenge.rw_levelgifts_k45_core_is_the_last_knot.Holds := by
  w_on; o_law
  refine HandSHeadRun.head_any (r := OpenLaw.row PySem.Challenge.rw_levelgifts_k45_core_is_the_last_knot) (q := view (OpenLaw.row PySem.Challenge.rw_levelgifts_k45_core_is_the_last_knot).prog [76]) (H := Pf.hk) (ob := Pf.ob) (M := 9000) (loose := Pf.loose) (d := HandSHeadRun.topDef (OpenLaw.row PySem.Challenge.rw_levelgifts_k45_core_is_the_last_knot).prog 76) (kwd := []) Pf.ob_eq
    (by kernel_rfl) (fun s => by kernel_rfl) Pf.run (by kernel_rfl) (by kernel_rfl) (by kernel_rfl) (by rfl) (by first | assumption | decide +kernel) (by decide +kernel) ⟨rfl, rfl, rfl, rfl, rfl, by decide +kernel⟩ ?hw ?hc
  case hw => w_witness2
  case hc =>
    refine L2.walk_ofE (l := PySem.Challenge.rw_levelgifts_k45_core_is_the_last_knot) (n := 63) (k := 73) (x := "script") (CX := L2.CX0) rfl (by decide) (by kernel_rfl) ⟨rfl, by decide, by decide⟩ ?F (fun _ _ _ _ z => z)
    intro w mg fa h Y G hmg0
    obtain ⟨K, KX, c⟩ := Y
    have hmg : mg ("law" : PySem.Str) = some (.ref fa) := by
      have e : (HandSHeadRun.topDef (OpenLaw.row PySem.Challenge.rw_levelgifts_k45_core_is_the_last_knot).prog 76).name = ("law" : PySem.Str) := by kernel_rfl
      rw [← e]
      exact hmg0
    obtain ⟨fd, hb, hF⟩ := Pf.facts (P := (PySem.Challenge.rw_levelgifts_k45_core_is_the_last_knot).prog) (w := w) KX G hmg c
    exact ⟨K, fd, Pf.sp_law K, KX, hb, fun H a ns hl _ hS => ⟨a, ns, rfl, hS, hl, fun _ => rfl⟩, hF⟩
