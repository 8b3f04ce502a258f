import PyProof.Rows.All
import Wide.All
import OpenK.AllK
import Wide.FinOn
import KE.KStateDown
import HandS.ForMost
import HandS.IsInst
import HandS.TupAny
import HandS.Conv
import HandS.Style
import HandS.More
import HandS.WordsExc
import HandS.Defaults
import HandS.MakeKwOnly
import HandS.EndBits
import HandS.Head0
import HandS.Head1
import HandS.Head2
import HandS.HeadEnd
import HandS.HeadHook1
import HandS.HeadHook2
import HandS.Walk
import HandS.Codes
import HandS.SetFor
import HandS.Strs
import HandS.DictComp
import HandS.SortRule
import HandS.SortInts
import HandS.CallLocal
import HandS.Deep
import HandS.WrittenGet
import HandS.HeadHook3
import HandS.SortOrd
import KE.KSortTupAny
import HandS.Flow
import HandS.Star
import HandS.SlotsOwn
import HandS.MakeKw
import HandS.Property
import HandS.ExcOwn
import HandS.ExcInit
import HandS.ExcField
import HandS.TryMany
import KE.KExcIs
import PySem.Challenge.RW_levelgifts_k26_moments_in_form
set_option Elab.async false
set_option linter.all false
set_option maxRecDepth 100000
/-! What the head's run is asked: tests, and the Hook. -/
namespace Lg
open PySem PySem.Spec PyProof.Rows L2
def intsB : List Value → List Int → Bool
  | [], [] => true
  | .int i _ :: us, n :: ns => decide (i = n) && intsB us ns
  | _, _ => false
def tupleB (K : PySem.W.Frag) (v : Value) (p : List Value → Bool) : Bool := match v with
  | .ref a => match K.lookup a with
    | some o => (match o.cls with | .type c => decide (c = "tuple") | _ => false) && (match o.data with | .seq its _ => p its.toList | _ => false)
    | none => false
  | _ => false
def tupsB (K : PySem.W.Frag) : List Value → List (List Int) → Bool
  | [], [] => true
  | u :: us, ns :: nss => tupleB K u (fun l => intsB l ns) && tupsB K us nss
  | _, _ => false
def tup2B (K : PySem.W.Frag) (a : Addr) (nss : List (List Int)) : Bool := tupleB K (.ref a) fun l => tupsB K l nss
/-- the values of a written dict, as a test -/
def refsB (K : PySem.W.Frag) (d : Addr) (as : List Addr) : Bool := match K.lookup d with
  | some ⟨.type "dict", none, .dict es _, sl⟩ => sl.isEmpty && decide (es.size = as.length) && (es.toList.zip as).all fun p => match p.1.val with | .ref b => b == p.2 | _ => false
  | _ => false
/-- what isinstance asks of a class, as a test -/
def insB (K : PySem.W.Frag) (C : Addr) : Bool :=
  He.eqO (PySem.W.findIn K (.ref C) "__class__") (some (some (.builtin "object.__class__"))) && (He.eqO (PySem.W.specialIn K (.builtin "object.__class__") "__get__") (some (some (.builtin "getset_descriptor.__get__"))) &&
  (decide (PySem.W.takesIn K (.builtin "object.__class__") = some true) && (decide (PySem.W.mroIn K C (.type "object") = some true) && decide (PySem.W.kitOne K (.ref C) (.ref C) = some true))))
/-- an own error's class, as tests -/
def oexB (K : PySem.W.Frag) (C : Addr) : Bool := match K.lookup C with
  | some ⟨.type "type", _, .cls cd, sl⟩ => (match cd.mro, sl.toList with
    | .ref C' :: bm, [_, _, _, _, some (.builtin n), _] => C' == C && n == "ValueError.__new__" && !cd.hasDel && (cd.hasDict && PySem.HandSPX.refsVE bm)
    | _, _ => false)
  | _ => false
def excB (K : PySem.W.Frag) (C : Addr) (fs : List Str) : Bool :=
  oexB K C && (He.eqO (PySem.W.findIn K (.ref C) "__setattr__") (some (some (.builtin "object.__setattr__"))) && (decide (PySem.W.typeIn K (.ref C) = some (.type "type")) && (PySem.W.keepIn K (.ref C) && (xfB K C &&
  (He.eqO (PySem.W.findIn K (.ref C) "__class__") (some (some (.builtin "object.__class__"))) && (He.eqO (PySem.W.specialIn K (.builtin "object.__class__") "__get__") (some (some (.builtin "getset_descriptor.__get__"))) &&
  (decide (PySem.W.takesIn K (.builtin "object.__class__") = some true) && (decide (PySem.W.mroIn K C (.type "object") = some true) && (He.eqO (PySem.W.findIn K (.ref C) "__init__") (some (some (.ref (He.ma K C "__init__")))) &&
  (decide (PySem.W.typeIn K (.ref (He.ma K C "__init__")) = some (.type "function")) && fs.all fun f => He.eqO (PySem.W.findIn K (.ref C) f) (some none)))))))))))
/-- the types of plain data -/
abbrev sixT : List String := ["NoneType", "bool", "int", "str", "list", "tuple"]
def insXB (K : PySem.W.Frag) (C : Addr) : Bool := insB K C && ((sixT.all fun n => decide (PySem.W.kitOne K (.type n) (.ref C) = some false)) && ((sixT.all fun n => PySem.W.notFirst K C (.type n)) && He.eqO (PySem.W.findIn K (.ref C) "__ne__") (some (some (.builtin "object.__ne__")))))
section
open He
/-- a property: its class, its name, its getter's name, qualified name, parameters, body, scope -/
structure DefP where
  cls : Str
  prop : Str
  name : Str
  qual : Str
  params : Arguments
  body : List Stmt
  scope : Scope
/-- the getter of a property -/
def gAd (K : PySem.W.Frag) (C f : Str) : Addr := match PySem.W.recIn K (ma K (ga K C) f) "property" with
  | some (.ref g :: _) => g
  | _ => 0
def fnWA (K : PySem.W.Frag) (a : Addr) : FnW := match K.lookup a with
  | some ⟨_, _, .func fd, _⟩ => some (fd.name, fd.qualname, fd.params, fd.body, fd.scope, fd.globals, fd.closure, fd.builtins)
  | _ => none
def DefP.val (d : DefP) : FnW := some (d.name, d.qual, d.params, .stmts d.body, d.scope, mainGlobals, [], builtinsNs)
def DefP.ok (K : PySem.W.Frag) (d : DefP) : Bool :=
  eqO (PySem.W.findIn K (.ref (ga K d.cls)) d.prop) (some (some (.ref (ma K (ga K d.cls) d.prop)))) && (eqO (PySem.W.specialIn K (.ref (ma K (ga K d.cls) d.prop)) "__get__") (some (some (.builtin "property.__get__"))) &&
  (decide (PySem.W.takesIn K (.ref (ma K (ga K d.cls) d.prop)) = some true) && ((match PySem.W.recIn K (ma K (ga K d.cls) d.prop) "property" with
    | some (.ref _ :: _) => true
    | _ => false) && (PySem.W.keepIn K (.ref (gAd K d.cls d.prop)) && (match K.lookup (gAd K d.cls d.prop) with
    | some ⟨_, _, .func fd, _⟩ => PySem.W.codeIn K fd.code d.qual && (dflB K fd.defaults [] && kwdB K fd.kwdefaults [])
    | _ => false)))))
def asX (ps : List DefP) (g : Addr → Option Obj) (as : List Addr) : List Addr := as ++ ps.flatMap fun d => match g (gAd (frG g as) d.cls d.prop) with
  | some o => refsO o
  | none => []
abbrev AlX : Type := AlT × (List FnW × Bool)
def obsX (fa : List Fa) (fn : List DefD) (ts : List Tab) (ps : List DefP) (ck : PySem.W.Frag → Bool) (K : PySem.W.Frag) : AlX := (obsT fa fn ts K, (ps.map fun d => fnWA K (gAd K d.cls d.prop)), (ps.all fun d => d.ok K) && ck K)
def valX (fn : List DefD) (ts : List Tab) (ps : List DefP) (w : World) : AlX := (valT fn ts w, ps.map DefP.val, true)
def obsXG (n : Nat) (fa : List Fa) (fn : List DefD) (ts : List Tab) (ps : List DefP) (ck : PySem.W.Frag → Bool) (g : Addr → Option Obj) : AlX := obsX fa fn ts ps ck (frG g (asX ps g (asD g n)))
def SaysX (fa : List Fa) (fn : List DefD) (ts : List Tab) (ps : List DefP) (ck : PySem.W.Frag → Bool) (w : World) (K : PySem.W.Frag) : Prop := obsX fa fn ts ps ck K = valX fn ts ps w
def hookX (n : Nat) (fa : List Fa) (fn : List DefD) (ts : List Tab) (ps : List DefP) (ck : PySem.W.Frag → Bool) : PySem.W.Hook where
  α := AlX
  obs := fun s => obsXG n fa fn ts ps ck s.heap.get?
  val := fun w => valX fn ts ps w
  says := fun w h => ∃ K : PySem.W.Frag, K.In h ∧ SaysX fa fn ts ps ck w K
  of := fun _ _ e => ⟨_, frG_in, e⟩
  keeps := fun _ _ _ ⟨K, hK, c⟩ k => ⟨K, PySem.W.Frag.In.keeps hK k, c⟩
theorem obsXG_eq {n : Nat} {fa : List Fa} {fn : List DefD} {ts : List Tab} {ps : List DefP} {ck : PySem.W.Frag → Bool} {g : Addr → Option Obj} {s : Shared} (h : ∀ a, g a = s.heap.get? a) : obsXG n fa fn ts ps ck g = (hookX n fa fn ts ps ck).obs s := by
  have e : g = s.heap.get? := funext h
  rw [e]
  rfl
end
end Lg

namespace Pf
open PySem PySem.Spec PyProof.Rows L2
open Lg
def topS (i : Nat) : Stmt := PySem.Challenge.pw_levelgifts_k26_moments_in_form.main.body.getD i (.Pass ⟨0, 0, 0, 0⟩)
abbrev s_is_name : Stmt := topS 14
abbrev s_is_whole : Stmt := topS 15
abbrev s_is_place : Stmt := topS 16
abbrev s_is_whole_pair : Stmt := topS 17
abbrev s_is_place_pair : Stmt := topS 18
abbrev s_is_labelled_place : Stmt := topS 19
abbrev s_all_places : Stmt := topS 20
abbrev s_relatives : Stmt := topS 21
abbrev s_places_below : Stmt := topS 22
abbrev s_long_lists : Stmt := topS 23
abbrev s_bad_arrows : Stmt := topS 24
abbrev s_bad_leaves : Stmt := topS 25
abbrev s_bad_names : Stmt := topS 26
abbrev s_leaves_again : Stmt := topS 27
abbrev s_arrows_again : Stmt := topS 28
abbrev s_no_leaves : Stmt := topS 29
abbrev s_bad_degrees : Stmt := topS 30
abbrev s_bad_roots : Stmt := topS 31
abbrev s_ring_places : Stmt := topS 32
abbrev s_bad_labels : Stmt := topS 33
abbrev s_too_many_mixings : Stmt := topS 34
abbrev s_first_fault : Stmt := topS 37
abbrev s_net_fault : Stmt := topS 38
abbrev s_has_form : Stmt := topS 40
abbrev s_back_arrows : Stmt := topS 41
abbrev s_bad_gifts : Stmt := topS 42
abbrev s_late_places : Stmt := topS 43
abbrev s_moment_fault : Stmt := topS 45
abbrev s_is_moments : Stmt := topS 46
abbrev s_Net___init : Stmt := inClass (topS 48) 0
abbrev s_Net_places : Stmt := inClass (topS 48) 2
abbrev s_Net_inner : Stmt := inClass (topS 48) 3
abbrev s_Net_splits : Stmt := inClass (topS 48) 4
abbrev s_Net_mixings : Stmt := inClass (topS 48) 5
abbrev s_Net_arrows : Stmt := inClass (topS 48) 6
abbrev s_Net_leaves : Stmt := inClass (topS 48) 7
abbrev s_Net_names : Stmt := inClass (topS 48) 8
abbrev s_Net_mothers : Stmt := inClass (topS 48) 9
abbrev s_Net_children : Stmt := inClass (topS 48) 10
abbrev s_Net___eq : Stmt := inClass (topS 48) 15
abbrev s_Net__demand : Stmt := inClass (topS 48) 18
abbrev s_law_mix : Stmt := topS 50
abbrev s_law_store : Stmt := topS 51
abbrev s_law_take : Stmt := topS 52
abbrev s_law_pick : Stmt := topS 53
abbrev s_law_mixed : Stmt := topS 54
abbrev s_law_number : Stmt := topS 55
abbrev s_law_same : Stmt := topS 56
abbrev s_law_copy : Stmt := topS 57
abbrev s_law_whole : Stmt := topS 58
abbrev s_law_sign : Stmt := topS 59
abbrev s_law_string : Stmt := topS 60
abbrev s_law_atom : Stmt := topS 61
abbrev s_law_plain : Stmt := topS 62
abbrev s_law_all : Stmt := topS 63
abbrev s_law_ups : Stmt := topS 64
abbrev s_law_downs : Stmt := topS 65
abbrev s_law_renamed : Stmt := topS 66
abbrev s_law_lists : Stmt := topS 67
abbrev s_law_is_net : Stmt := topS 68
abbrev s_law_paper : Stmt := topS 69
abbrev s_law_fits : Stmt := topS 70
abbrev s_law_moment_fault : Stmt := topS 71
abbrev s_law_gap : Stmt := topS 72
abbrev s_law_measures : Stmt := topS 73
abbrev s_law_called : Stmt := topS 74
abbrev s_law_counted : Stmt := topS 75
abbrev s_law_timed : Stmt := topS 76
abbrev s_law_case : Stmt := topS 77
abbrev s_law_odd_place : Stmt := topS 78
abbrev s_law_odd_part : Stmt := topS 79
abbrev s_law_bent : Stmt := topS 80
abbrev s_law_asked : Stmt := topS 81
abbrev s_law : Stmt := topS 82
def d_is_name : He.DefD := ⟨("is_name", none), "is_name", "is_name", defArgs s_is_name, defBody s_is_name, defScope s_is_name, [], []⟩
def d_is_whole : He.DefD := ⟨("is_whole", none), "is_whole", "is_whole", defArgs s_is_whole, defBody s_is_whole, defScope s_is_whole, [], []⟩
def d_is_place : He.DefD := ⟨("is_place", none), "is_place", "is_place", defArgs s_is_place, defBody s_is_place, defScope s_is_place, [], []⟩
def d_is_whole_pair : He.DefD := ⟨("is_whole_pair", none), "is_whole_pair", "is_whole_pair", defArgs s_is_whole_pair, defBody s_is_whole_pair, defScope s_is_whole_pair, [], []⟩
def d_is_place_pair : He.DefD := ⟨("is_place_pair", none), "is_place_pair", "is_place_pair", defArgs s_is_place_pair, defBody s_is_place_pair, defScope s_is_place_pair, [], []⟩
def d_is_labelled_place : He.DefD := ⟨("_is_labelled_place", none), "_is_labelled_place", "_is_labelled_place", defArgs s_is_labelled_place, defBody s_is_labelled_place, defScope s_is_labelled_place, [], []⟩
def d_all_places : He.DefD := ⟨("all_places", none), "all_places", "all_places", defArgs s_all_places, defBody s_all_places, defScope s_all_places, [], []⟩
def d_relatives : He.DefD := ⟨("relatives", none), "relatives", "relatives", defArgs s_relatives, defBody s_relatives, defScope s_relatives, [], []⟩
def d_places_below : He.DefD := ⟨("places_below", none), "places_below", "places_below", defArgs s_places_below, defBody s_places_below, defScope s_places_below, [], []⟩
def d_long_lists : He.DefD := ⟨("_long_lists", none), "_long_lists", "_long_lists", defArgs s_long_lists, defBody s_long_lists, defScope s_long_lists, [], []⟩
def d_bad_arrows : He.DefD := ⟨("_bad_arrows", none), "_bad_arrows", "_bad_arrows", defArgs s_bad_arrows, defBody s_bad_arrows, defScope s_bad_arrows, [], []⟩
def d_bad_leaves : He.DefD := ⟨("_bad_leaves", none), "_bad_leaves", "_bad_leaves", defArgs s_bad_leaves, defBody s_bad_leaves, defScope s_bad_leaves, [], []⟩
def d_bad_names : He.DefD := ⟨("_bad_names", none), "_bad_names", "_bad_names", defArgs s_bad_names, defBody s_bad_names, defScope s_bad_names, [], []⟩
def d_leaves_again : He.DefD := ⟨("_leaves_again", none), "_leaves_again", "_leaves_again", defArgs s_leaves_again, defBody s_leaves_again, defScope s_leaves_again, [], []⟩
def d_arrows_again : He.DefD := ⟨("_arrows_again", none), "_arrows_again", "_arrows_again", defArgs s_arrows_again, defBody s_arrows_again, defScope s_arrows_again, [], []⟩
def d_no_leaves : He.DefD := ⟨("_no_leaves", none), "_no_leaves", "_no_leaves", defArgs s_no_leaves, defBody s_no_leaves, defScope s_no_leaves, [], []⟩
def d_bad_degrees : He.DefD := ⟨("_bad_degrees", none), "_bad_degrees", "_bad_degrees", defArgs s_bad_degrees, defBody s_bad_degrees, defScope s_bad_degrees, [], []⟩
def d_bad_roots : He.DefD := ⟨("_bad_roots", none), "_bad_roots", "_bad_roots", defArgs s_bad_roots, defBody s_bad_roots, defScope s_bad_roots, [], []⟩
def d_ring_places : He.DefD := ⟨("_ring_places", none), "_ring_places", "_ring_places", defArgs s_ring_places, defBody s_ring_places, defScope s_ring_places, [], []⟩
def d_bad_labels : He.DefD := ⟨("_bad_labels", none), "_bad_labels", "_bad_labels", defArgs s_bad_labels, defBody s_bad_labels, defScope s_bad_labels, [], []⟩
def d_too_many_mixings : He.DefD := ⟨("_too_many_mixings", none), "_too_many_mixings", "_too_many_mixings", defArgs s_too_many_mixings, defBody s_too_many_mixings, defScope s_too_many_mixings, [], []⟩
def d_first_fault : He.DefD := ⟨("first_fault", none), "first_fault", "first_fault", defArgs s_first_fault, defBody s_first_fault, defScope s_first_fault, [], []⟩
def d_net_fault : He.DefD := ⟨("net_fault", none), "net_fault", "net_fault", defArgs s_net_fault, defBody s_net_fault, defScope s_net_fault, [], []⟩
def d_has_form : He.DefD := ⟨("_has_form", none), "_has_form", "_has_form", defArgs s_has_form, defBody s_has_form, defScope s_has_form, [], []⟩
def d_back_arrows : He.DefD := ⟨("_back_arrows", none), "_back_arrows", "_back_arrows", defArgs s_back_arrows, defBody s_back_arrows, defScope s_back_arrows, [], []⟩
def d_bad_gifts : He.DefD := ⟨("_bad_gifts", none), "_bad_gifts", "_bad_gifts", defArgs s_bad_gifts, defBody s_bad_gifts, defScope s_bad_gifts, [], []⟩
def d_late_places : He.DefD := ⟨("_late_places", none), "_late_places", "_late_places", defArgs s_late_places, defBody s_late_places, defScope s_late_places, [], []⟩
def d_moment_fault : He.DefD := ⟨("moment_fault", none), "moment_fault", "moment_fault", defArgs s_moment_fault, defBody s_moment_fault, defScope s_moment_fault, [], []⟩
def d_is_moments : He.DefD := ⟨("is_moments", none), "is_moments", "is_moments", defArgs s_is_moments, defBody s_is_moments, defScope s_is_moments, [], []⟩
def d_Net___init : He.DefD := ⟨("Net", some "__init__"), "__init__", "Net.__init__", defArgs s_Net___init, defBody s_Net___init, defScope s_Net___init, [], []⟩
def d_Net_places : He.DefD := ⟨("Net", some "places"), "places", "Net.places", defArgs s_Net_places, defBody s_Net_places, defScope s_Net_places, [], []⟩
def d_Net_inner : He.DefD := ⟨("Net", some "inner"), "inner", "Net.inner", defArgs s_Net_inner, defBody s_Net_inner, defScope s_Net_inner, [], []⟩
def d_Net_splits : He.DefD := ⟨("Net", some "splits"), "splits", "Net.splits", defArgs s_Net_splits, defBody s_Net_splits, defScope s_Net_splits, [], []⟩
def d_Net_mixings : He.DefD := ⟨("Net", some "mixings"), "mixings", "Net.mixings", defArgs s_Net_mixings, defBody s_Net_mixings, defScope s_Net_mixings, [], []⟩
def d_Net_arrows : He.DefD := ⟨("Net", some "arrows"), "arrows", "Net.arrows", defArgs s_Net_arrows, defBody s_Net_arrows, defScope s_Net_arrows, [], []⟩
def d_Net_leaves : He.DefD := ⟨("Net", some "leaves"), "leaves", "Net.leaves", defArgs s_Net_leaves, defBody s_Net_leaves, defScope s_Net_leaves, [], []⟩
def d_Net_names : He.DefD := ⟨("Net", some "names"), "names", "Net.names", defArgs s_Net_names, defBody s_Net_names, defScope s_Net_names, [], []⟩
def d_Net_mothers : He.DefD := ⟨("Net", some "mothers"), "mothers", "Net.mothers", defArgs s_Net_mothers, defBody s_Net_mothers, defScope s_Net_mothers, [], []⟩
def d_Net_children : He.DefD := ⟨("Net", some "children"), "children", "Net.children", defArgs s_Net_children, defBody s_Net_children, defScope s_Net_children, [], []⟩
def d_Net___eq : He.DefD := ⟨("Net", some "__eq__"), "__eq__", "Net.__eq__", defArgs s_Net___eq, defBody s_Net___eq, defScope s_Net___eq, [], []⟩
def d_Net__demand : He.DefD := ⟨("Net", some "_demand"), "_demand", "Net._demand", defArgs s_Net__demand, defBody s_Net__demand, defScope s_Net__demand, [], []⟩
def d_law_mix : He.DefD := ⟨("_law_mix", none), "_law_mix", "_law_mix", defArgs s_law_mix, defBody s_law_mix, defScope s_law_mix, [], []⟩
def d_law_store : He.DefD := ⟨("_law_store", none), "_law_store", "_law_store", defArgs s_law_store, defBody s_law_store, defScope s_law_store, [], []⟩
def d_law_take : He.DefD := ⟨("_law_take", none), "_law_take", "_law_take", defArgs s_law_take, defBody s_law_take, defScope s_law_take, [], []⟩
def d_law_pick : He.DefD := ⟨("_law_pick", none), "_law_pick", "_law_pick", defArgs s_law_pick, defBody s_law_pick, defScope s_law_pick, [], []⟩
def d_law_mixed : He.DefD := ⟨("_law_mixed", none), "_law_mixed", "_law_mixed", defArgs s_law_mixed, defBody s_law_mixed, defScope s_law_mixed, [], []⟩
def d_law_number : He.DefD := ⟨("_law_number", none), "_law_number", "_law_number", defArgs s_law_number, defBody s_law_number, defScope s_law_number, [], []⟩
def d_law_same : He.DefD := ⟨("_law_same", none), "_law_same", "_law_same", defArgs s_law_same, defBody s_law_same, defScope s_law_same, [], []⟩
def d_law_copy : He.DefD := ⟨("_law_copy", none), "_law_copy", "_law_copy", defArgs s_law_copy, defBody s_law_copy, defScope s_law_copy, [], []⟩
def d_law_whole : He.DefD := ⟨("_law_whole", none), "_law_whole", "_law_whole", defArgs s_law_whole, defBody s_law_whole, defScope s_law_whole, [], []⟩
def d_law_sign : He.DefD := ⟨("_law_sign", none), "_law_sign", "_law_sign", defArgs s_law_sign, defBody s_law_sign, defScope s_law_sign, [], []⟩
def d_law_string : He.DefD := ⟨("_law_string", none), "_law_string", "_law_string", defArgs s_law_string, defBody s_law_string, defScope s_law_string, [], []⟩
def d_law_atom : He.DefD := ⟨("_law_atom", none), "_law_atom", "_law_atom", defArgs s_law_atom, defBody s_law_atom, defScope s_law_atom, [], []⟩
def d_law_plain : He.DefD := ⟨("_law_plain", none), "_law_plain", "_law_plain", defArgs s_law_plain, defBody s_law_plain, defScope s_law_plain, [], []⟩
def d_law_all : He.DefD := ⟨("_law_all", none), "_law_all", "_law_all", defArgs s_law_all, defBody s_law_all, defScope s_law_all, [], []⟩
def d_law_ups : He.DefD := ⟨("_law_ups", none), "_law_ups", "_law_ups", defArgs s_law_ups, defBody s_law_ups, defScope s_law_ups, [], []⟩
def d_law_downs : He.DefD := ⟨("_law_downs", none), "_law_downs", "_law_downs", defArgs s_law_downs, defBody s_law_downs, defScope s_law_downs, [], []⟩
def d_law_renamed : He.DefD := ⟨("_law_renamed", none), "_law_renamed", "_law_renamed", defArgs s_law_renamed, defBody s_law_renamed, defScope s_law_renamed, [], []⟩
def d_law_lists : He.DefD := ⟨("_law_lists", none), "_law_lists", "_law_lists", defArgs s_law_lists, defBody s_law_lists, defScope s_law_lists, [], []⟩
def d_law_is_net : He.DefD := ⟨("_law_is_net", none), "_law_is_net", "_law_is_net", defArgs s_law_is_net, defBody s_law_is_net, defScope s_law_is_net, [], []⟩
def d_law_paper : He.DefD := ⟨("_law_paper", none), "_law_paper", "_law_paper", defArgs s_law_paper, defBody s_law_paper, defScope s_law_paper, [], []⟩
def d_law_fits : He.DefD := ⟨("_law_fits", none), "_law_fits", "_law_fits", defArgs s_law_fits, defBody s_law_fits, defScope s_law_fits, [], []⟩
def d_law_moment_fault : He.DefD := ⟨("_law_moment_fault", none), "_law_moment_fault", "_law_moment_fault", defArgs s_law_moment_fault, defBody s_law_moment_fault, defScope s_law_moment_fault, [], []⟩
def d_law_gap : He.DefD := ⟨("_law_gap", none), "_law_gap", "_law_gap", defArgs s_law_gap, defBody s_law_gap, defScope s_law_gap, [], []⟩
def d_law_measures : He.DefD := ⟨("_law_measures", none), "_law_measures", "_law_measures", defArgs s_law_measures, defBody s_law_measures, defScope s_law_measures, [], []⟩
def d_law_called : He.DefD := ⟨("_law_called", none), "_law_called", "_law_called", defArgs s_law_called, defBody s_law_called, defScope s_law_called, [], []⟩
def d_law_counted : He.DefD := ⟨("_law_counted", none), "_law_counted", "_law_counted", defArgs s_law_counted, defBody s_law_counted, defScope s_law_counted, [], []⟩
def d_law_timed : He.DefD := ⟨("_law_timed", none), "_law_timed", "_law_timed", defArgs s_law_timed, defBody s_law_timed, defScope s_law_timed, [], []⟩
def d_law_case : He.DefD := ⟨("_law_case", none), "_law_case", "_law_case", defArgs s_law_case, defBody s_law_case, defScope s_law_case, [], []⟩
def d_law_odd_place : He.DefD := ⟨("_law_odd_place", none), "_law_odd_place", "_law_odd_place", defArgs s_law_odd_place, defBody s_law_odd_place, defScope s_law_odd_place, [], []⟩
def d_law_odd_part : He.DefD := ⟨("_law_odd_part", none), "_law_odd_part", "_law_odd_part", defArgs s_law_odd_part, defBody s_law_odd_part, defScope s_law_odd_part, [], []⟩
def d_law_bent : He.DefD := ⟨("_law_bent", none), "_law_bent", "_law_bent", defArgs s_law_bent, defBody s_law_bent, defScope s_law_bent, [], []⟩
def d_law_asked : He.DefD := ⟨("_law_asked", none), "_law_asked", "_law_asked", defArgs s_law_asked, defBody s_law_asked, defScope s_law_asked, [], []⟩
def d_law : He.DefD := ⟨("law", none), "law", "law", defArgs s_law, defBody s_law, defScope s_law, [], []⟩
def fnL : List He.DefD := [d_is_name, d_is_whole, d_is_place, d_is_whole_pair, d_is_place_pair, d_is_labelled_place, d_all_places, d_relatives, d_places_below, d_long_lists, d_bad_arrows, d_bad_leaves, d_bad_names, d_leaves_again, d_arrows_again, d_no_leaves, d_bad_degrees, d_bad_roots, d_ring_places, d_bad_labels, d_too_many_mixings, d_first_fault, d_net_fault, d_has_form, d_back_arrows, d_bad_gifts, d_late_places, d_moment_fault, d_is_moments, d_Net___init, d_Net_places, d_Net_inner, d_Net_splits, d_Net_mixings, d_Net_arrows, d_Net_leaves, d_Net_names, d_Net_mothers, d_Net_children, d_Net___eq, d_Net__demand, d_law_mix, d_law_store, d_law_take, d_law_pick, d_law_mixed, d_law_number, d_law_same, d_law_copy, d_law_whole, d_law_sign, d_law_string, d_law_atom, d_law_plain, d_law_all, d_law_ups, d_law_downs, d_law_renamed, d_law_lists, d_law_is_net, d_law_paper, d_law_fits, d_law_moment_fault, d_law_gap, d_law_measures, d_law_called, d_law_counted, d_law_timed, d_law_case, d_law_odd_place, d_law_odd_part, d_law_bent, d_law_asked, d_law]
def faL : List He.Fa := [.glo "is_name", .glo "is_whole", .glo "is_place", .glo "is_whole_pair", .glo "is_place_pair", .glo "_is_labelled_place", .glo "all_places", .glo "relatives", .glo "places_below", .glo "_long_lists", .glo "_bad_arrows", .glo "_bad_leaves", .glo "_bad_names", .glo "_leaves_again", .glo "_arrows_again", .glo "_no_leaves", .glo "_bad_degrees", .glo "_bad_roots", .glo "_ring_places", .glo "_bad_labels", .glo "_too_many_mixings", .glo "first_fault", .glo "net_fault", .glo "_has_form", .glo "_back_arrows", .glo "_bad_gifts", .glo "_late_places", .glo "moment_fault", .glo "is_moments", .glo "_law_mix", .glo "_law_store", .glo "_law_take", .glo "_law_pick", .glo "_law_mixed", .glo "_law_number", .glo "_law_same", .glo "_law_copy", .glo "_law_whole", .glo "_law_sign", .glo "_law_string", .glo "_law_atom", .glo "_law_plain", .glo "_law_all", .glo "_law_ups", .glo "_law_downs", .glo "_law_renamed", .glo "_law_lists", .glo "_law_is_net", .glo "_law_paper", .glo "_law_fits", .glo "_law_moment_fault", .glo "_law_gap", .glo "_law_measures", .glo "_law_called", .glo "_law_counted", .glo "_law_timed", .glo "_law_case", .glo "_law_odd_place", .glo "_law_odd_part", .glo "_law_bent", .glo "_law_asked", .glo "law", .free "len", .int "LONGEST_NAME" 8, .free "isinstance", .free "str", .free "all", .str "LETTERS" "abcdefghijklmnopqrstuvwxyz", .str "DIGITS" "0123456789", .free "bool", .free "int", .int "LAST_PLACE" 9999, .free "tuple", .free "sorted", .free "set", .free "list", .int "MOST_LEAVES" 12, .int "MOST_ARROWS" 46, .free "enumerate", .free "range", .glo "DEGREES", .int "MOST_MIXINGS" 8, .glo "LIST_FAULTS", .glo "PLACE_FAULTS", .glo "MOMENT_FAULTS", .free "dict", .free "max", .free "abs", .cls "Net", .noat "Net" "_arrows", .noat "Net" "_leaves", .noat "Net" "_mothers", .noat "Net" "_children", .noat "Net" "_name_at", .noat "Net" "_place_at", .noat "Net" "_names", .noat "Net" "_root", .glo "Net", .meth "Net" "mixings", .meth "Net" "arrows", .meth "Net" "_demand", .meth "Net" "mothers", .meth "Net" "inner", .meth "Net" "children", .meth "Net" "places", .mkr "Net", .meth "Net" "splits", .meth "Net" "leaves", .meth "Net" "names", .meth "Net" "__eq__"]
def tsL : List He.Tab := [(fun K => He.ga K "LIST_FAULTS", ["long", "arrow", "leaf", "name", "again", "double", "none"]), (fun K => He.ga K "PLACE_FAULTS", ["degree", "roots", "ring", "label", "mixings"]), (fun K => He.ga K "MOMENT_FAULTS", ["back", "gift", "late"])]
def psL : List DefP := []
def ckL (K : PySem.W.Frag) : Bool := tup2B K (He.ga K "DEGREES") [[0, 0], [0, 2], [1, 2], [2, 1], [1, 0]] && (He.valsB K (He.ga K "LIST_FAULTS") [("long", .glo "_long_lists"), ("arrow", .glo "_bad_arrows"), ("leaf", .glo "_bad_leaves"), ("name", .glo "_bad_names"), ("again", .glo "_leaves_again"), ("double", .glo "_arrows_again"), ("none", .glo "_no_leaves")] && (refsB K (He.ga K "LIST_FAULTS") [He.ga K "_long_lists", He.ga K "_bad_arrows", He.ga K "_bad_leaves", He.ga K "_bad_names", He.ga K "_leaves_again", He.ga K "_arrows_again", He.ga K "_no_leaves"] && (He.valsB K (He.ga K "PLACE_FAULTS") [("degree", .glo "_bad_degrees"), ("roots", .glo "_bad_roots"), ("ring", .glo "_ring_places"), ("label", .glo "_bad_labels"), ("mixings", .glo "_too_many_mixings")] && (refsB K (He.ga K "PLACE_FAULTS") [He.ga K "_bad_degrees", He.ga K "_bad_roots", He.ga K "_ring_places", He.ga K "_bad_labels", He.ga K "_too_many_mixings"] && (He.valsB K (He.ga K "MOMENT_FAULTS") [("back", .glo "_back_arrows"), ("gift", .glo "_bad_gifts"), ("late", .glo "_late_places")] && (refsB K (He.ga K "MOMENT_FAULTS") [He.ga K "_back_arrows", He.ga K "_bad_gifts", He.ga K "_late_places"] && (insXB K (He.ga K "Net"))))))))
abbrev R : PySem.W.OpenRow := PySem.W.OpenLaw.row PySem.Challenge.rw_levelgifts_k26_moments_in_form
abbrev hk : PySem.W.Hook := hookX 4 faL fnL tsL psL ckL
def ob (s : PySem.W.SharedT) : AlX := obsXG 4 faL fnL tsL psL ckL (HandSHeadRun.getT s)
theorem ob_eq (s : PySem.W.SharedT) : ob s = hk.obs s.abs := obsXG_eq (HandSHeadRun.getT_eq s)
def loose : List PySem.Str := [("_wall" : PySem.Str), ("__name__" : PySem.Str), ("LevelError" : PySem.Str), ("BadNet" : PySem.Str), ("NoPlace" : PySem.Str), ("LETTERS" : PySem.Str), ("DIGITS" : PySem.Str), ("LONGEST_NAME" : PySem.Str), ("LAST_PLACE" : PySem.Str), ("MOST_ARROWS" : PySem.Str), ("MOST_LEAVES" : PySem.Str), ("MOST_MIXINGS" : PySem.Str), ("DEGREES" : PySem.Str), ("is_name" : PySem.Str), ("is_whole" : PySem.Str), ("is_place" : PySem.Str), ("is_whole_pair" : PySem.Str), ("is_place_pair" : PySem.Str), ("_is_labelled_place" : PySem.Str), ("all_places" : PySem.Str), ("relatives" : PySem.Str), ("places_below" : PySem.Str), ("_long_lists" : PySem.Str), ("_bad_arrows" : PySem.Str), ("_bad_leaves" : PySem.Str), ("_bad_names" : PySem.Str), ("_leaves_again" : PySem.Str), ("_arrows_again" : PySem.Str), ("_no_leaves" : PySem.Str), ("_bad_degrees" : PySem.Str), ("_bad_roots" : PySem.Str), ("_ring_places" : PySem.Str), ("_bad_labels" : PySem.Str), ("_too_many_mixings" : PySem.Str), ("LIST_FAULTS" : PySem.Str), ("PLACE_FAULTS" : PySem.Str), ("first_fault" : PySem.Str), ("net_fault" : PySem.Str), ("_has_form" : PySem.Str), ("_back_arrows" : PySem.Str), ("_bad_gifts" : PySem.Str), ("_late_places" : PySem.Str), ("MOMENT_FAULTS" : PySem.Str), ("moment_fault" : PySem.Str), ("is_moments" : PySem.Str), ("Net" : PySem.Str), ("_law_mix" : PySem.Str), ("_law_store" : PySem.Str), ("_law_take" : PySem.Str), ("_law_pick" : PySem.Str), ("_law_mixed" : PySem.Str), ("_law_number" : PySem.Str), ("_law_same" : PySem.Str), ("_law_copy" : PySem.Str), ("_law_whole" : PySem.Str), ("_law_sign" : PySem.Str), ("_law_string" : PySem.Str), ("_law_atom" : PySem.Str), ("_law_plain" : PySem.Str), ("_law_all" : PySem.Str), ("_law_ups" : PySem.Str), ("_law_downs" : PySem.Str), ("_law_renamed" : PySem.Str), ("_law_lists" : PySem.Str), ("_law_is_net" : PySem.Str), ("_law_paper" : PySem.Str), ("_law_fits" : PySem.Str), ("_law_moment_fault" : PySem.Str), ("_law_gap" : PySem.Str), ("_law_measures" : PySem.Str), ("_law_called" : PySem.Str), ("_law_counted" : PySem.Str), ("_law_timed" : PySem.Str), ("_law_case" : PySem.Str), ("_law_odd_place" : PySem.Str), ("_law_odd_part" : PySem.Str), ("_law_bent" : PySem.Str), ("_law_asked" : PySem.Str)]
theorem run_f (w : World) : HandSHeadRun.RunEq R (PySem.W.view R.prog [82]) hk ob 6000 loose (w.withFollow "special-get-raises" false) := by
  intro os
  kernel_rfl
theorem run_t (w : World) : HandSHeadRun.RunEq R (PySem.W.view R.prog [82]) hk ob 6000 loose (w.withFollow "special-get-raises" true) := by
  intro os
  kernel_rfl
theorem run (w : World) : HandSHeadRun.RunEq R (PySem.W.view R.prog [82]) hk ob 6000 loose w := PySem.W.byRow2 "special-get-raises" (P := fun w => HandSHeadRun.RunEq R (PySem.W.view R.prog [82]) hk ob 6000 loose w) run_f run_t w
end Pf
/-! The verifier's own layer: data apart from the store, what a draw keeps, calls by name, a few rules more. -/
namespace Lg
open PySem PySem.Spec PyProof.Rows L2

/-! ### calls by name -/
structure Own (P : Program) (w : World) (K : PySem.W.Frag) (mg : Str → Option Value) (base : Heap) (k : Nat) (x : Str) (ps : List Str) (sp : Sp) : Prop where
  ex : ∃ f fd, FnOk P w K mg base CX0 k f fd ps sp ∧ mg x = some (.ref f) ∧ PySem.W.keepIn K (.ref f) = true ∧ Binds K fd ps [] ∧ KBn K fd ps 0 ps (fun _ ws => ws) (fun _ zs => zs)
section
variable {X : Cx} {k : Nat} {x : Str} {ps : List Str} {sp : Sp} {e : Expr} {es : List Expr} {t : TA} {p pos : Pos} {kws : List Keyword}
theorem pe_own (O : Own X.prog X.w X.K X.mg X.base k x ps sp) (hr : Room k X.A) (hg : Gl X x) (ha : PA X (e :: es) t) (hdb : (x == ("__debug__" : Str)) = false := by decide)
    (he : starEach (e :: es) X.env = (false, eval e X.env) :: starEach es X.env := by rfl) (hpl : (backTo pos (starEach es X.env)).any (·.1) = false := by rfl) :
    PE X (.Call (.Name x p) (e :: es) [] pos) (tCall sp [] E0 t) := by
  obtain ⟨f, fd, F, gm, kp, hb, _⟩ := O.ex
  exact pe_call F hr hg gm kp hb .nil pass0 ha hdb he hpl
theorem pe_own0 (O : Own X.prog X.w X.K X.mg X.base k x ps sp) (hr : Room k X.A) (hg : Gl X x) (hdb : (x == ("__debug__" : Str)) = false := by decide) : PE X (.Call (.Name x p) [] [] pos) (tCall sp [] E0 tNil) := by
  obtain ⟨f, fd, F, gm, kp, hb, _⟩ := O.ex
  exact pe_call0 F hr hg gm kp hb .nil pass0 hdb
theorem pe_ownK0 (O : Own X.prog X.w X.K X.mg X.base k x ps sp) (hr : Room k X.A) (hg : Gl X x) (hkw : PK X kws t)
    (hks : (backToKw pos (keywordEach kws X.env)).filterMap (·.1) = ps := by rfl) (hall : (backToKw pos (keywordEach kws X.env)).all (·.1.isSome) = true := by rfl) (hdb : (x == ("__debug__" : Str)) = false := by decide)
    (hpl : ((backTo pos (starEach [] X.env)).any (·.1) || (backToKw pos (keywordEach kws X.env)).any (·.1.isNone)) = false := by rfl) :
    PE X (.Call (.Name x p) [] kws pos) (fun σ H Q => t σ H fun zs H2 => zs.length = ps.length ∧ sp zs H2 Q E0) := by
  obtain ⟨f, fd, F, gm, kp, _, hb⟩ := O.ex
  refine ⟨fun pins s σ H Q I h => ?_⟩
  refine wpAny_Call_Name_kw (ld_glob I hg gm ?_ hdb)
  refine PySem.W.callWith_KW0 (h₀ := X.base) I.ok.mod.kin kp hall ?_ hpl
  refine thn (hkw.run pos pins s σ H _ I h) fun ws s2 ⟨zs, H2, I2, rz, l2, q2⟩ => ⟨I2.kIn, ?_⟩
  rw [hks]
  exact run_fnN (us := []) (vs := []) F hr hb pass0 I2 .nil rz rfl l2 q2
theorem pe_gint {i : Int} (hg : Gl X x) (hm : ∃ t, X.mg x = some (.int i t)) (hd : (x == ("__debug__" : Str)) = false := by decide) : PE X (.Name x pos) (tC (.int i)) := by
  obtain ⟨t, e⟩ := hm
  exact pe_glob hg e ⟨t, rfl⟩ hd
theorem pe_gstr {i : Str} (hg : Gl X x) (hm : ∃ t, X.mg x = some (.str i t)) (hd : (x == ("__debug__" : Str)) = false := by decide) : PE X (.Name x pos) (tC (.str i)) := by
  obtain ⟨t, e⟩ := hm
  exact pe_glob hg e ⟨t, rfl⟩ hd
end

/-! ### rules more -/
section
variable {X : Cx}
/-- x is True, x is False -/
theorem op_isB : OpR X (compareOp .Is) (fun x y H Q => ∃ b, y = .bl b ∧ Q (.bl (decide (x = .bl b))) H) := by
  intro pins s σ H x y v u Q I rx ry h
  obtain ⟨b, rfl, q⟩ := h
  cases ry
  have key : ∀ c : Bool, c = decide (x = .bl b) → EP X pins σ Q (.bool c) s := fun c hc => ⟨.bl c, H, I, rfl, by rw [hc]; exact q⟩
  cases x with
  | bl c => cases (show v = Value.bool c from rx); exact wpAny_pure (key _ (by cases c <;> cases b <;> rfl))
  | non => cases (show v = Value.none from rx); exact wpAny_pure (key _ rfl)
  | int i => obtain ⟨t, rfl⟩ := rx; exact wpAny_pure (key _ rfl)
  | str i => obtain ⟨t, rfl⟩ := rx; exact wpAny_pure (key _ rfl)
  | byt i => obtain ⟨t, rfl⟩ := rx; exact wpAny_pure (key _ rfl)
  | flt i => obtain ⟨t, rfl⟩ := rx; exact wpAny_pure (key _ rfl)
  | ref i => cases (show v = Value.ref i from rx); exact wpAny_pure (key _ rfl)
  | ty i => cases (show v = Value.type i from rx); exact wpAny_pure (key _ rfl)
/-- text * int -/
theorem op_mul_str : OpR X (binaryOp .Mult) (fun x y H Q => ∃ z n, x = .str z ∧ y = .int n ∧ 0 ≤ n ∧ n < 2 ^ 31 ∧ (z.length : Int) * n ≤ 16777216 ∧ Q (.str (Txt.mul z n)) H) := by
  intro pins s σ H x y v u Q I rx ry h
  obtain ⟨z, n, rfl, rfl, h0, h1, h2, q⟩ := h
  obtain ⟨t, rfl⟩ := rx
  obtain ⟨t', rfl⟩ := ry
  refine SB.mul ⟨?_, fun hn _ => ?_, fun hn _ => ?_⟩ (fun t2 k => ⟨.str _, H, I.tok _, ⟨_, rfl⟩, q⟩)
  · have a : ¬ n < -(2 ^ 63 : Int) := by omega
    have b : ¬ n ≥ 2 ^ 63 := by omega
    rw [decide_eq_false a, decide_eq_false b]; rfl
  · have hz : (z.length : Int) ≤ 16777216 := by
      have : (z.length : Int) * 1 ≤ (z.length : Int) * n := Int.mul_le_mul_of_nonneg_left (by omega) (by omega)
      omega
    have hd : (4294967296 : Int) ≤ (2 ^ 63 - 1) / n := by
      rw [Int.le_ediv_iff_mul_le (by omega)]
      omega
    omega
  · have e : ((z.length * n.toNat : Nat) : Int) = (z.length : Int) * n := by
      rw [Int.natCast_mul, Int.toNat_of_nonneg h0]
    unfold Builtin.Str.tooLong
    refine decide_eq_false ?_
    show ¬ (z.length * n.toNat > sizeLine)
    have : sizeLine = 16777216 := by decide
    omega
end

/-! ### what a draw keeps -/
theorem same_new {H H' : Hp} {p : Addr} {o : HO} (k : Same H H') (n : H p = none) : Same H (upd H' p o) := fun b u e => by
  rw [upd_ne (ne_of_none e n)]
  exact k b u e
/-- addresses that are taken -/
abbrev Av := Addr → Prop
/-- the store stands at s; what it stands on is taken -/
def SO (S : Av) (s : Addr) (H : Hp) : Prop := S s ∧ ∃ (c : Addr) (ns : List Int) (p r sd t : Int), H s = some (.lst [.ref c, .int p, .int r, .int sd, .int t]) ∧ c ≠ s ∧ H c = some (.lst (ns.map V.int)) ∧ 0 ≤ p ∧ 0 ≤ r ∧ S c
theorem SO.at_ {S : Av} {s : Addr} {H : Hp} (h : SO S s H) : S s := h.1
theorem SO.there {S : Av} {s : Addr} {H : Hp} (h : SO S s H) : ∃ o, H s = some o := let ⟨_, _, _, _, _, _, _, e, _⟩ := h; ⟨_, e⟩
theorem SO.ne {S : Av} {s p : Addr} {H : Hp} (h : SO S s H) (n : H p = none) : p ≠ s := by
  obtain ⟨o, e⟩ := h.there
  exact (ne_of_none e n).symm
theorem SO.same {S : Av} {s : Addr} {H H' : Hp} (h : SO S s H) (k : Same H H') : SO S s H' :=
  let ⟨z, c, ns, p, r, sd, t, e, n, ec, h1, h2, h3⟩ := h
  ⟨z, c, ns, p, r, sd, t, k _ _ e, n, k _ _ ec, h1, h2, h3⟩
theorem SO.new {S : Av} {s p : Addr} {H : Hp} {o : HO} (h : SO S s H) (n : H p = none) : SO S s (upd H p o) := h.same (same_new (Same.refl H) n)
theorem SO.put {S : Av} {s p : Addr} {H : Hp} {o : HO} (h : SO S s H) (n : ¬ S p) : SO S s (upd H p o) :=
  let ⟨z, c, ns, p', r, sd, t, e, nc, ec, h1, h2, h3⟩ := h
  ⟨z, c, ns, p', r, sd, t, by rw [upd_ne (show s ≠ p from fun q => n (q ▸ z))]; exact e, nc, by rw [upd_ne (show c ≠ p from fun q => n (q ▸ h3))]; exact ec, h1, h2, h3⟩
theorem SO.wide {S S' : Av} {s : Addr} {H : Hp} (h : SO S s H) (w : ∀ b, S b → S' b) : SO S' s H :=
  let ⟨z, c, ns, p', r, sd, t, e, nc, ec, h1, h2, h3⟩ := h
  ⟨w _ z, c, ns, p', r, sd, t, e, nc, ec, h1, h2, w _ h3⟩

/-- all but s stands as it was; a store at s is one still, over the same row -/
structure Keep (s : Addr) (H H' : Hp) : Prop where
  fn : ∀ b o, b ≠ s → H b = some o → H' b = some o
  so : ∀ S, SO S s H → SO S s H'
instance {s : Addr} {H H' : Hp} : CoeFun (Keep s H H') (fun _ => ∀ b o, b ≠ s → H b = some o → H' b = some o) := ⟨Keep.fn⟩
theorem Keep.refl (s : Addr) (H : Hp) : Keep s H H := ⟨fun _ _ _ h => h, fun _ h => h⟩
theorem Keep.trans {s : Addr} {H H1 H2 : Hp} (a : Keep s H H1) (b : Keep s H1 H2) : Keep s H H2 := ⟨fun c o n h => b.fn c o n (a.fn c o n h), fun S h => b.so S (a.so S h)⟩
theorem Keep.of {s : Addr} {H H' : Hp} (h : Same H H') : Keep s H H' := ⟨fun b o _ e => h b o e, fun _ so => so.same h⟩
theorem Keep.put {s c : Addr} {p r sd t p' r' sd' t' : Int} {H H' : Hp} (k : Keep s H H') (e : H' s = some (.lst [.ref c, .int p, .int r, .int sd, .int t])) (hp : 0 ≤ p') (hr : 0 ≤ r') :
    Keep s H (upd H' s (.lst [.ref c, .int p', .int r', .int sd', .int t'])) := by
  refine ⟨fun b u n h => ?_, fun S h => ?_⟩
  · rw [upd_ne n]
    exact k.fn b u n h
  · obtain ⟨z, c', ns, q, r2, sd2, t2, e', nc, ec, h1, h2, h3⟩ := k.so S h
    rw [e] at e'
    have e2 : c = c' := V.ref.inj (List.cons.inj (HO.lst.inj (Option.some.inj e'))).1
    subst e2
    exact ⟨z, c, ns, p', r', sd', t', upd_same, nc, by rw [upd_ne nc]; exact ec, hp, hr, h3⟩
theorem Keep.new {s p : Addr} {H H' : Hp} {o : HO} (k : Keep s H H') (n : H p = none) : Keep s H (upd H' p o) := by
  refine ⟨fun b u nb e => ?_, fun S h => ?_⟩
  · rw [upd_ne (ne_of_none e n)]
    exact k.fn b u nb e
  · have h1 : SO (fun b => S b ∧ H b ≠ none) s H := by
      obtain ⟨z, c, ns, q, r, sd, t, e, nc, ec, h1, h2, h3⟩ := h
      exact ⟨⟨z, by rw [e]; exact fun q => nomatch q⟩, c, ns, q, r, sd, t, e, nc, ec, h1, h2, h3, by rw [ec]; exact fun q => nomatch q⟩
    exact ((k.so _ h1).put (fun q => q.2 n)).wide fun b hb => hb.1
theorem Keep.free {s p : Addr} {H H' : Hp} (k : Keep s H H') (np : p ≠ s) (h : H' p = none) : H p = none := by
  cases e : H p with
  | none => rfl
  | some o => rw [k.fn p o np e] at h; cases h
theorem Keep.seq {K : PySem.W.Frag} {s : Addr} {H H' : Hp} {a : Addr} {xs : List V} (e : Keep s H H') (n : a ≠ s) (h : SqL K H a xs) : SqL K H' a xs := by
  rcases h with (h | ⟨o, h⟩) | h
  · exact .inl (.inl (e _ _ n h))
  · exact .inl (.inr ⟨o, e _ _ n h⟩)
  · exact .inr h
/-! ### data apart from what may change: S, addresses that are taken -/
def Al (S : Av) (H : Hp) : Prop := ∀ b, S b → ∃ o, H b = some o
def addA (S : Av) (D : Addr) : Av := fun b => S b ∨ b = D
theorem Al.same {S : Av} {H H' : Hp} (h : Al S H) (k : Same H H') : Al S H' := fun b hb => let ⟨o, e⟩ := h b hb; ⟨o, k b o e⟩
theorem Al.keep {S : Av} {s : Addr} {H H' : Hp} (h : Al S H) (k : Keep s H H') (so : SO S s H') : Al S H' := fun b hb => by
  by_cases e : b = s
  · subst e; exact so.there
  · obtain ⟨o, q⟩ := h b hb
    exact ⟨o, k b o e q⟩
theorem Al.upd {S : Av} {p : Addr} {o : HO} {H : Hp} (h : Al S H) : Al S (upd H p o) := fun b hb => by
  by_cases e : b = p
  · subst e; exact ⟨o, upd_same⟩
  · rw [upd_ne e]; exact h b hb
theorem Al.free {S : Av} {p : Addr} {H : Hp} (h : Al S H) (n : H p = none) : ¬ S p := fun hb => by
  obtain ⟨o, e⟩ := h p hb
  rw [n] at e; cases e
theorem Al.add {S : Av} {D : Addr} {H : Hp} {o : HO} (h : Al S H) (e : H D = some o) : Al (addA S D) H := fun b hb => by
  rcases hb with hb | rfl
  · exact h b hb
  · exact ⟨o, e⟩
mutual
inductive Da (S : Av) (H : Hp) : V → PyData → Prop
  | non : Da S H .non .none
  | bl (b : Bool) : Da S H (.bl b) (.bool b)
  | int (i : Int) : Da S H (.int i) (.int i)
  | str (x : Str) : Da S H (.str x) (.str x)
  | lst {a : Addr} {xs : List V} {ds : List PyData} : ¬ S a → H a = some (.lst xs) → DaAll S H xs ds → Da S H (.ref a) (.list ds)
  | tup {a : Addr} {xs : List V} {ds : List PyData} : ¬ S a → H a = some (.tup xs) → DaAll S H xs ds → Da S H (.ref a) (.tuple ds)
inductive DaAll (S : Av) (H : Hp) : List V → List PyData → Prop
  | nil : DaAll S H [] []
  | cons {v : V} {vs : List V} {d : PyData} {ds : List PyData} : Da S H v d → DaAll S H vs ds → DaAll S H (v :: vs) (d :: ds)
end
mutual
/-- what is not in S stands as it was (or S is smaller) -/
theorem Da.go {S S' : Av} {H H' : Hp} (k : ∀ b o, ¬ S b → H b = some o → ¬ S' b ∧ H' b = some o) : ∀ {v : V} {d : PyData}, Da S H v d → Da S' H' v d
  | _, _, .non => .non
  | _, _, .bl b => .bl b
  | _, _, .int i => .int i
  | _, _, .str x => .str x
  | _, _, .lst n e r => .lst (k _ _ n e).1 (k _ _ n e).2 (DaAll.go k r)
  | _, _, .tup n e r => .tup (k _ _ n e).1 (k _ _ n e).2 (DaAll.go k r)
theorem DaAll.go {S S' : Av} {H H' : Hp} (k : ∀ b o, ¬ S b → H b = some o → ¬ S' b ∧ H' b = some o) : ∀ {vs : List V} {ds : List PyData}, DaAll S H vs ds → DaAll S' H' vs ds
  | _, _, .nil => .nil
  | _, _, .cons a r => .cons (Da.go k a) (DaAll.go k r)
end
section
variable {S : Av} {s D p : Addr} {H H' : Hp} {v : V} {d : PyData} {vs : List V} {ds : List PyData} {o : HO}
theorem kgo (k : Keep s H H') (hs : S s) : ∀ b o, ¬ S b → H b = some o → ¬ S b ∧ H' b = some o := fun b o n e => ⟨n, k b o (fun q => n (q ▸ hs)) e⟩
theorem Da.keep (h : Da S H v d) (k : Keep s H H') (hs : S s) : Da S H' v d := h.go (kgo k hs)
theorem DaAll.keep (h : DaAll S H vs ds) (k : Keep s H H') (hs : S s) : DaAll S H' vs ds := h.go (kgo k hs)
theorem Da.same (h : Da S H v d) (k : Same H H') : Da S H' v d := h.go fun b o n e => ⟨n, k b o e⟩
theorem DaAll.same (h : DaAll S H vs ds) (k : Same H H') : DaAll S H' vs ds := h.go fun b o n e => ⟨n, k b o e⟩
theorem Da.new (h : Da S H v d) (np : H p = none) : Da S (upd H p o) v d := h.same (same_new (Same.refl H) np)
theorem DaAll.new (h : DaAll S H vs ds) (np : H p = none) : DaAll S (upd H p o) vs ds := h.same (same_new (Same.refl H) np)
/-- one more address is apart: it was free -/
theorem Da.more (h : Da S H v d) (nD : H D = none) : Da (addA S D) H v d := h.go fun b o n e => ⟨fun q => q.elim n (ne_of_none e nD), e⟩
theorem DaAll.more (h : DaAll S H vs ds) (nD : H D = none) : DaAll (addA S D) H vs ds := h.go fun b o n e => ⟨fun q => q.elim n (ne_of_none e nD), e⟩
theorem Da.less (h : Da (addA S D) H v d) : Da S H v d := h.go fun b o n e => ⟨fun q => n (.inl q), e⟩
theorem DaAll.less (h : DaAll (addA S D) H vs ds) : DaAll S H vs ds := h.go fun b o n e => ⟨fun q => n (.inl q), e⟩
/-- D, which is apart, is written -/
theorem Da.at (h : Da (addA S D) H v d) : Da (addA S D) (upd H D o) v d := h.go fun b u n e => ⟨n, by rw [upd_ne (fun q => n (.inr q))]; exact e⟩
theorem DaAll.at (h : DaAll (addA S D) H vs ds) : DaAll (addA S D) (upd H D o) vs ds := h.go fun b u n e => ⟨n, by rw [upd_ne (fun q => n (.inr q))]; exact e⟩
end
theorem DaAll.length {S : Av} {H : Hp} : ∀ {vs : List V} {ds : List PyData}, DaAll S H vs ds → vs.length = ds.length
  | _, _, .nil => rfl
  | _, _, .cons _ r => congrArg (· + 1) (DaAll.length r)
theorem DaAll.get {S : Av} {H : Hp} : ∀ {vs : List V} {ds : List PyData} {i : Nat} {v : V}, DaAll S H vs ds → vs[i]? = some v → ∃ d, ds[i]? = some d ∧ Da S H v d
  | _, _, _, _, .nil, e => by simp at e
  | _, _, 0, _, .cons (d := d) a _, e => by simp at e; subst e; exact ⟨d, rfl, a⟩
  | _, _, i + 1, v, .cons _ r, e => by
    obtain ⟨d, h1, h2⟩ := DaAll.get (i := i) (v := v) r (by simpa using e)
    exact ⟨d, by simpa using h1, h2⟩
theorem DaAll.mem {S : Av} {H : Hp} {vs : List V} {ds : List PyData} {v : V} (h : DaAll S H vs ds) (hv : v ∈ vs) : ∃ d, d ∈ ds ∧ Da S H v d := by
  obtain ⟨i, hi, e⟩ := List.mem_iff_getElem.mp hv
  obtain ⟨d, h1, h2⟩ := h.get (i := i) (v := v) (by rw [List.getElem?_eq_getElem hi, e])
  exact ⟨d, List.mem_of_getElem? h1, h2⟩
theorem DaAll.app {S : Av} {H : Hp} : ∀ {vs ws : List V} {ds es : List PyData}, DaAll S H vs ds → DaAll S H ws es → DaAll S H (vs ++ ws) (ds ++ es)
  | _, _, _, _, .nil, r => r
  | _, _, _, _, .cons a t, r => .cons a (DaAll.app t r)
theorem DaAll.one {S : Av} {H : Hp} {v : V} {d : PyData} (h : Da S H v d) : DaAll S H [v] [d] := .cons h .nil
theorem DaAll.take {S : Av} {H : Hp} : ∀ {vs : List V} {ds : List PyData} (n : Nat), DaAll S H vs ds → DaAll S H (vs.take n) (ds.take n)
  | _, _, 0, _ => .nil
  | _, _, _ + 1, .nil => .nil
  | _, _, n + 1, .cons a r => .cons a (DaAll.take n r)
theorem DaAll.drop {S : Av} {H : Hp} : ∀ {vs : List V} {ds : List PyData} (n : Nat), DaAll S H vs ds → DaAll S H (vs.drop n) (ds.drop n)
  | _, _, 0, h => h
  | _, _, _ + 1, .nil => .nil
  | _, _, n + 1, .cons _ r => DaAll.drop n r
theorem DaAll.set {S : Av} {H : Hp} {v : V} {d : PyData} (h : Da S H v d) : ∀ {vs : List V} {ds : List PyData} (n : Nat), DaAll S H vs ds → DaAll S H (vs.set n v) (ds.set n d)
  | _, _, _, .nil => .nil
  | _, _, 0, .cons _ r => .cons h r
  | _, _, n + 1, .cons a r => .cons a (DaAll.set h n r)
theorem DaAll.erase {S : Av} {H : Hp} : ∀ {vs : List V} {ds : List PyData} (n : Nat), DaAll S H vs ds → DaAll S H (vs.eraseIdx n) (ds.eraseIdx n)
  | _, _, _, .nil => .nil
  | _, _, 0, .cons _ r => r
  | _, _, n + 1, .cons a r => .cons a (DaAll.erase n r)
theorem DaAll.reverse {S : Av} {H : Hp} : ∀ {vs : List V} {ds : List PyData}, DaAll S H vs ds → DaAll S H vs.reverse ds.reverse
  | _, _, .nil => .nil
  | _, _, .cons a r => by
    rw [List.reverse_cons, List.reverse_cons]
    exact (DaAll.reverse r).app (.one a)
/-- data of depth at most n, texts and rows no longer than L, no dicts -/
inductive Dd (L : Nat) : Nat → PyData → Prop
  | non (n : Nat) : Dd L n .none
  | bl (n : Nat) (b : Bool) : Dd L n (.bool b)
  | int (n : Nat) (i : Int) : Dd L n (.int i)
  | str (n : Nat) {x : Str} : x.length ≤ L → Dd L n (.str x)
  | lst {n : Nat} {ds : List PyData} : ds.length ≤ L → (∀ d ∈ ds, Dd L n d) → Dd L (n + 1) (.list ds)
  | tup {n : Nat} {ds : List PyData} : ds.length ≤ L → (∀ d ∈ ds, Dd L n d) → Dd L (n + 1) (.tuple ds)
theorem Dd.mono {L L' : Nat} (hL : L ≤ L') : ∀ {n : Nat} {d : PyData} {n' : Nat}, Dd L n d → n ≤ n' → Dd L' n' d
  | _, _, _, .non _, _ => .non _
  | _, _, _, .bl _ b, _ => .bl _ b
  | _, _, _, .int _ i, _ => .int _ i
  | _, _, _, .str _ h, _ => .str _ (Nat.le_trans h hL)
  | _, _, 0, .lst _ _, h => absurd h (Nat.not_succ_le_zero _)
  | _, _, m + 1, .lst h1 h2, h => .lst (Nat.le_trans h1 hL) fun d hd => Dd.mono hL (h2 d hd) (Nat.le_of_succ_le_succ h)
  | _, _, 0, .tup _ _, h => absurd h (Nat.not_succ_le_zero _)
  | _, _, m + 1, .tup h1 h2, h => .tup (Nat.le_trans h1 hL) fun d hd => Dd.mono hL (h2 d hd) (Nat.le_of_succ_le_succ h)

/-! ### what a datum is -/
def tyN : PyData → String
  | .none => "NoneType" | .bool _ => "bool" | .int _ => "int" | .str _ => "str" | .list _ => "list" | .tuple _ => "tuple" | .dict _ => "dict"
theorem Da.ty {K : PySem.W.Frag} {S : Av} {H : Hp} {x : V} {d : PyData} : Da S H x d → TyX K H x (.type (tyN d))
  | .non => .base .non
  | .bl _ => .base (.bl _)
  | .int _ => .base (.int _)
  | .str _ => .base (.str _)
  | .lst _ e _ => .base (.lst e)
  | .tup _ e _ => .base (.tup e)
def isT (T n : String) : Bool := n == T || (n == "bool" && T == "int")
def isD (T : String) (d : PyData) : Bool := isT T (tyN d)
def kindB (T : String) : Bool := T == "str" || T == "int" || T == "bool" || T == "list" || T == "tuple"
theorem kit_d {K : PySem.W.Frag} {d : PyData} {T : String} (h : kindB T = true) (nd : tyN d ≠ "dict") : PySem.W.kitOne K (.type (tyN d)) (.type T) = some (isD T d) := by
  unfold kindB at h
  simp only [Bool.or_eq_true, beq_iff_eq, or_assoc] at h
  rcases h with rfl | rfl | rfl | rfl | rfl <;> cases d <;> simp only [isD, tyN] <;> first | exact kit_ty (by decide +kernel) | exact (nd rfl).elim
theorem Da.nodict {S : Av} {H : Hp} {x : V} {d : PyData} (h : Da S H x d) : tyN d ≠ "dict" := by
  cases h <;> simp [tyN]
theorem isi_da {K : PySem.W.Frag} {S : Av} {H : Hp} {x : V} {d : PyData} {T : String} {Q : VK} (hd : Da S H x d) (h : kindB T = true) (q : Q (.bl (isD T d)) H) : rIsi K [x, .ty T] H Q :=
  ⟨x, .ty T, _, _, _, rfl, .ty T, hd.ty, kit_d h hd.nodict, q⟩
/-- isinstance(x, (list, tuple)) -/
theorem isi_lt {K : PySem.W.Frag} {S : Av} {tp : Addr} {H : Hp} {x : V} {d : PyData} {Q : VK} (hd : Da S H x d) (ht : H tp = some (.tup [.ty "list", .ty "tuple"])) (q : Q (.bl (isD "list" d || isD "tuple" d)) H) : rIsiT K [x, .ref tp] H Q := by
  refine ⟨x, tp, _, _, [.type "list", .type "tuple"], _, rfl, ht, .cons (.ty _) (.cons (.ty _) .nil), hd.ty, ?_, q⟩
  refine kitAny_cons (kit_d rfl hd.nodict) (fun h1 => ?_) (fun h1 => by rw [h1, Bool.true_or])
  rw [h1, Bool.false_or]
  refine kitAny_cons (kit_d rfl hd.nodict) (fun h2 => by rw [h2]; rfl) (fun h2 => h2)
theorem int_at {ns : List Int} {i : Nat} {x : V} (h : (ns.map V.int)[i]? = some x) : ∃ n, ns[i]? = some n ∧ x = .int n := by
  rw [List.getElem?_map] at h
  cases e : ns[i]? with
  | none => rw [e] at h; cases h
  | some n => rw [e] at h; exact ⟨n, rfl, (Option.some.inj h).symm⟩
theorem take_snoc {α : Type} {xs : List α} {i : Nat} {x : α} (h : xs[i]? = some x) : xs.take i ++ [x] = xs.take (i + 1) := by
  rw [List.take_add_one, h]
  rfl
theorem line_lt {n : Nat} (h : n ≤ 1000000) : n < sizeLine := Nat.lt_of_le_of_lt h (by decide)
theorem line_le {n : Nat} (h : n ≤ 1000000) : n ≤ sizeLine := Nat.le_of_lt (line_lt h)
/-- a promise that is never asked -/
theorem FnOk.never {P : Program} {w : World} {K : PySem.W.Frag} {mg : Str → Option Value} {base : Heap} {CX : CXT} {k : Nat} {f : Addr} {fd : FuncData} {ps : List Str} {sp : Sp} (h : ∀ vs H Q E, sp vs H Q E → False) : FnOk P w K mg base CX k f fd ps sp :=
  ⟨fun _ _ _ _ q => (h _ _ _ _ q).elim, fun _ _ _ _ _ _ _ _ _ _ _ _ _ q => (h _ _ _ _ q).elim⟩

/-! ### the store's promises -/
def sp_law_mix : Sp := fun vs H Q _ => ∃ a b : Int, vs = [.int a, .int b] ∧ ∀ r : Int, Q (.int r) H
def sp_law_store (K : PySem.W.Frag) : Sp := fun vs H Q _ => ∃ (a : Addr) (ns : List Int), vs = [.ref a] ∧ SqL K H a (ns.map V.int) ∧ ns.length ≤ 63 ∧ ∀ (H' : Hp) (S : Av) (s : Addr), Same H H' → Al S H' → SO S s H' → Q (.ref s) H'
def sp_law_take : Sp := fun vs H Q _ => ∃ (S : Av) (s : Addr) (m : Int), vs = [.ref s, .int m] ∧ SO S s H ∧ m < 1073741824 ∧ ∀ (H' : Hp) (r : Int), Keep s H H' → SO S s H' → 0 ≤ r → r < max 1 m → Q (.int r) H'
def sp_law_pick (K : PySem.W.Frag) : Sp := fun vs H Q _ => ∃ (S : Av) (s : Addr) (x : V), vs = [.ref s, x] ∧ SO S s H ∧
  ((∃ (a : Addr) (xs : List V), x = .ref a ∧ a ≠ s ∧ SqL K H a xs ∧ xs ≠ [] ∧ xs.length ≤ 1000000 ∧ ∀ (H' : Hp) (v : V), Keep s H H' → SO S s H' → v ∈ xs → Q v H') ∨
   (∃ z : Str, x = .str z ∧ 0 < z.length ∧ z.length ≤ 1000000 ∧ ∀ (H' : Hp) (c : Nat), Keep s H H' → SO S s H' → c ∈ z.cps.toList → Q (.str ⟨#[c]⟩) H'))
theorem pick_list {K : PySem.W.Frag} {S : Av} {s p : Addr} {H : Hp} {xs : List V} {Q : VK} (hS : SO S s H) (np : H p = none) (hne : xs ≠ []) (hl : xs.length ≤ 1000000)
    (q : ∀ (H' : Hp) (v : V), Keep s H H' → Keep s (upd H p (.lst xs)) H' → SO S s H' → v ∈ xs → Q v H') : sp_law_pick K [.ref s, .ref p] (upd H p (.lst xs)) Q E0 :=
  ⟨S, s, _, rfl, hS.new np, .inl ⟨p, xs, rfl, hS.ne np, SqL.of upd_same, hne, hl, fun H' v k so hv => q H' v (((Keep.refl s H).new np).trans k) k so hv⟩⟩
theorem pick_str {K : PySem.W.Frag} {S : Av} {s : Addr} {H : Hp} {z : Str} {Q : VK} (hS : SO S s H) (h0 : 0 < z.length) (hl : z.length ≤ 1000000)
    (q : ∀ (H' : Hp) (c : Nat), Keep s H H' → SO S s H' → c ∈ z.cps.toList → Q (.str ⟨#[c]⟩) H') : sp_law_pick K [.ref s, .str z] H Q E0 :=
  ⟨S, s, _, rfl, hS, .inr ⟨z, rfl, h0, hl, q⟩⟩
theorem isD_list {d : PyData} (h : isD "list" d = true) : ∃ ds, d = .list ds := by
  cases d <;> first | exact ⟨_, rfl⟩ | (exact absurd h (by simp only [isD, tyN]; decide))
theorem isD_tuple {d : PyData} (h : isD "tuple" d = true) : ∃ ds, d = .tuple ds := by
  cases d <;> first | exact ⟨_, rfl⟩ | (exact absurd h (by simp only [isD, tyN]; decide))
theorem isD_str {d : PyData} (h : isD "str" d = true) : ∃ z, d = .str z := by
  cases d <;> first | exact ⟨_, rfl⟩ | (exact absurd h (by simp only [isD, tyN]; decide))
theorem isD_bool {d : PyData} (h : isD "bool" d = true) : ∃ z, d = .bool z := by
  cases d <;> first | exact ⟨_, rfl⟩ | (exact absurd h (by simp only [isD, tyN]; decide))
theorem isD_int {d : PyData} (h : isD "int" d = true) : (∃ z, d = .int z) ∨ ∃ z, d = .bool z := by
  cases d <;> first | exact .inl ⟨_, rfl⟩ | exact .inr ⟨_, rfl⟩ | (exact absurd h (by simp only [isD, tyN]; decide))
theorem isD_lt {d : PyData} (h : (isD "list" d || isD "tuple" d) = true) : (∃ ds, d = .list ds) ∨ ∃ ds, d = .tuple ds := by
  rcases Bool.or_eq_true_iff.mp h with h | h
  · exact .inl (isD_list h)
  · exact .inr (isD_tuple h)
/-- the store, and what is taken -/
structure SS (S : Av) (s : Addr) (H : Hp) : Prop where
  so : SO S s H
  al : Al S H
theorem SS.at_ {S : Av} {s : Addr} {H : Hp} (h : SS S s H) : S s := h.so.at_
theorem SS.keep {S : Av} {s : Addr} {H H' : Hp} (h : SS S s H) (k : Keep s H H') (so : SO S s H') : SS S s H' := ⟨so, h.al.keep k so⟩
theorem SS.new {S : Av} {s p : Addr} {H : Hp} {o : HO} (h : SS S s H) (np : H p = none) : SS S s (upd H p o) := ⟨h.so.new np, h.al.upd⟩
theorem SS.same {S : Av} {s : Addr} {H H' : Hp} (h : SS S s H) (k : Same H H') : SS S s H' := ⟨h.so.same k, h.al.same k⟩
theorem SS.ne {S : Av} {s p : Addr} {H : Hp} (h : SS S s H) (np : H p = none) : p ≠ s := h.so.ne np
theorem SS.free {S : Av} {s p : Addr} {H : Hp} (h : SS S s H) (np : H p = none) : ¬ S p := h.al.free np
theorem SS.add {S : Av} {s D : Addr} {H : Hp} {o : HO} (h : SS S s H) (e : H D = some o) : SS (addA S D) s H := ⟨h.so.wide fun _ => .inl, h.al.add e⟩

/-! ### names -/
def lettersS : Str := "abcdefghijklmnopqrstuvwxyz"
def digitsS : Str := "0123456789"
def isLet (c : Nat) : Bool := decide (97 ≤ c) && decide (c ≤ 122)
def isDig (c : Nat) : Bool := decide (48 ≤ c) && decide (c ≤ 57)
/-- a name, by its signs -/
def nameL : List Nat → Bool
  | [] => false
  | c :: r => isLet c && r.all (fun c => isLet c || isDig c) && decide (r.length ≤ 7)
def nameS (z : Str) : Bool := nameL z.cps.toList
def nameD : PyData → Bool
  | .str z => nameS z
  | _ => false
theorem mem_let {c : Nat} : c ∈ ("abcdefghijklmnopqrstuvwxyz" : Str).cps.toList ↔ isLet c = true := by
  have f : ∀ x ∈ ("abcdefghijklmnopqrstuvwxyz" : Str).cps.toList, isLet x = true := by decide +kernel
  have g : ∀ x, x < 123 → isLet x = true → x ∈ ("abcdefghijklmnopqrstuvwxyz" : Str).cps.toList := by decide +kernel
  refine ⟨f c, fun h => g c ?_ h⟩
  have := of_decide_eq_true (Bool.and_eq_true_iff.mp h).2
  omega
theorem mem_dig {c : Nat} : c ∈ ("0123456789" : Str).cps.toList ↔ isDig c = true := by
  have f : ∀ x ∈ ("0123456789" : Str).cps.toList, isDig x = true := by decide +kernel
  have g : ∀ x, x < 123 → isDig x = true → x ∈ ("0123456789" : Str).cps.toList := by decide +kernel
  refine ⟨f c, fun h => g c ?_ h⟩
  have := of_decide_eq_true (Bool.and_eq_true_iff.mp h).2
  omega
theorem mem_ld {c : Nat} : c ∈ ("abcdefghijklmnopqrstuvwxyz0123456789" : Str).cps.toList ↔ (isLet c || isDig c) = true := by
  have f : ∀ x ∈ ("abcdefghijklmnopqrstuvwxyz0123456789" : Str).cps.toList, (isLet x || isDig x) = true := by decide +kernel
  have g : ∀ x, x < 123 → (isLet x || isDig x) = true → x ∈ ("abcdefghijklmnopqrstuvwxyz0123456789" : Str).cps.toList := by decide +kernel
  refine ⟨f c, fun h => g c ?_ h⟩
  rcases Bool.or_eq_true_iff.mp h with h | h
  · have := of_decide_eq_true (Bool.and_eq_true_iff.mp h).2
    omega
  · have := of_decide_eq_true (Bool.and_eq_true_iff.mp h).2
    omega
/-- one sign of a text -/
theorem str_at {z : Str} {c : Nat} {i : Nat} (h : z.cps[i]? = some c) : z.cps.toList[i]? = some c := by
  rw [Array.getElem?_toList]
  exact h
theorem str_len (z : Str) : z.length = z.cps.toList.length := rfl

/-! ### rules by data -/
theorem CallR.imp {X : Cx} {f : Value} {r r' : List V → Hp → VK → Prop} (h : CallR X f r) (i : ∀ xs H Q, r' xs H Q → r xs H Q) : CallR X f r' :=
  fun pins s σ H xs us Q I rv q => h pins s σ H xs us Q I rv (i _ _ _ q)
def rIsD : List V → Hp → VK → Prop := fun xs H Q => ∃ (x : V) (T : String) (S : Av) (d : PyData), xs = [x, .ty T] ∧ kindB T = true ∧ Da S H x d ∧ Q (.bl (isD T d)) H
theorem call_isD {X : Cx} : CallR X (.builtin "isinstance") rIsD := CallR.imp call_isi fun xs H Q ⟨x, T, S, d, e, h, hd, q⟩ => by
  subst e
  exact isi_da hd h q
def rIsLT : List V → Hp → VK → Prop := fun xs H Q => ∃ (x : V) (tp : Addr) (S : Av) (d : PyData), xs = [x, .ref tp] ∧ H tp = some (.tup [.ty "list", .ty "tuple"]) ∧ Da S H x d ∧ Q (.bl (isD "list" d || isD "tuple" d)) H
theorem call_isLT {X : Cx} : CallR X (.builtin "isinstance") rIsLT := CallR.imp call_isiT fun xs H Q ⟨x, tp, S, d, e, h, hd, q⟩ => by
  subst e
  exact isi_lt hd h q

theorem nameL_cons (c : Nat) (r : List Nat) : nameL (c :: r) = (isLet c && r.all (fun c => isLet c || isDig c) && decide (r.length ≤ 7)) := rfl
theorem nameL_long {l : List Nat} (h : 8 < l.length) : nameL l = false := by
  cases l with
  | nil => rfl
  | cons c r =>
    rw [List.length_cons] at h
    rw [nameL_cons]
    rw [show decide (r.length ≤ 7) = false from decide_eq_false (by omega), Bool.and_false]
theorem nameL_bad {l : List Nat} {c : Nat} (h : c ∈ l) (hc : (isLet c || isDig c) = false) : nameL l = false := by
  cases l with
  | nil => rfl
  | cons d r =>
    rw [nameL_cons]
    rcases List.mem_cons.mp h with rfl | h
    · rw [(Bool.or_eq_false_iff.mp hc).1]; rfl
    · have e : r.all (fun c => isLet c || isDig c) = false := List.all_eq_false.mpr ⟨c, h, by rw [hc]; decide⟩
      rw [e, Bool.and_false, Bool.false_and]
theorem let_dig {c : Nat} (h : isDig c = true) : isLet c = false := by
  have := of_decide_eq_true (Bool.and_eq_true_iff.mp h).2
  unfold isLet
  rw [show decide (97 ≤ c) = false from decide_eq_false (by omega)]
  rfl
theorem nameL_good {c : Nat} {r : List Nat} (h : ∀ x ∈ c :: r, (isLet x || isDig x) = true) (hl : (c :: r).length ≤ 8) : nameL (c :: r) = !isDig c := by
  have e : r.all (fun c => isLet c || isDig c) = true := List.all_eq_true.mpr fun x hx => h x (List.mem_cons_of_mem _ hx)
  rw [nameL_cons]
  rw [List.length_cons] at hl
  rw [e, Bool.and_true, show decide (r.length ≤ 7) = true from decide_eq_true (by omega), Bool.and_true]
  have h0 := h c List.mem_cons_self
  cases hd : isDig c with
  | true => rw [let_dig hd]; rfl
  | false => rw [hd, Bool.or_false] at h0; rw [h0]; rfl
theorem decide_mem_ld (c : Nat) : decide (c ∈ ("abcdefghijklmnopqrstuvwxyz0123456789" : Str).cps.toList) = (isLet c || isDig c) := by
  rw [Bool.eq_iff_iff, decide_eq_true_eq]
  exact mem_ld
theorem decide_mem_let (c : Nat) : decide (c ∈ ("abcdefghijklmnopqrstuvwxyz" : Str).cps.toList) = isLet c := by
  rw [Bool.eq_iff_iff, decide_eq_true_eq]
  exact mem_let
theorem decide_mem_dig (c : Nat) : decide (c ∈ ("0123456789" : Str).cps.toList) = isDig c := by
  rw [Bool.eq_iff_iff, decide_eq_true_eq]
  exact mem_dig

theorem str_app_len (x y : Str) : (x ++ y).length = x.length + y.length := by
  show (x.cps ++ y.cps).size = x.cps.size + y.cps.size
  exact Array.size_append ..
theorem str_app_list (x y : Str) : (x ++ y).cps.toList = x.cps.toList ++ y.cps.toList := by
  show (x.cps ++ y.cps).toList = _
  exact Array.toList_append
theorem rep_len (a : Array Nat) : ∀ (n : Nat) (b : Array Nat), ((List.replicate n a).foldl (· ++ ·) b).size = b.size + n * a.size
  | 0, b => by simp
  | n + 1, b => by
    rw [List.replicate_succ, List.foldl_cons, rep_len a n (b ++ a), Array.size_append, Nat.succ_mul]
    omega
theorem mul_len (z : Str) (n : Int) (h : 0 ≤ n) : (Txt.mul z n).length = n.toNat * z.length := by
  unfold Txt.mul
  by_cases h1 : n < 1
  · rw [if_pos h1]
    have : n.toNat = 0 := by omega
    rw [this, Nat.zero_mul]; rfl
  · rw [if_neg h1]
    split
    · next hc =>
      rcases Bool.or_eq_true_iff.mp hc with hc | hc
      · have e := eq_of_beq hc
        subst e
        show z.length = 1 * z.length
        rw [Nat.one_mul]
      · have e : z.length = 0 := eq_of_beq hc
        rw [e, Nat.mul_zero]
    · show ((List.replicate n.toNat z.cps).foldl (· ++ ·) #[]).size = _
      rw [rep_len]
      show 0 + _ = _
      rw [Nat.zero_add]
      rfl
theorem one_mul_len (c : Nat) : (Txt.mul ⟨#[c]⟩ 4000).length ≤ 4000 := by
  rw [mul_len _ _ (by decide)]
  exact Nat.le_refl _

/-- a letter, then letters and digits -/
def wordL : List Nat → Bool
  | [] => false
  | c :: r => isLet c && r.all (fun c => isLet c || isDig c)
theorem wordL_one (c : Nat) : wordL [c] = isLet c := Bool.and_true _
theorem wordL_snoc {l : List Nat} {c : Nat} (h : wordL l = true) (hc : (isLet c || isDig c) = true) : wordL (l ++ [c]) = true := by
  cases l with
  | nil => cases h
  | cons a r =>
    obtain ⟨h1, h2⟩ := Bool.and_eq_true_iff.mp h
    show (isLet a && (r ++ [c]).all _) = true
    rw [List.all_append, h1, h2]
    show (true && (true && ((isLet c || isDig c) && true))) = true
    rw [hc]; rfl
theorem wordL_all {l : List Nat} (h : wordL l = true) : ∀ c ∈ l, (isLet c || isDig c) = true := by
  cases l with
  | nil => cases h
  | cons a r =>
    obtain ⟨h1, h2⟩ := Bool.and_eq_true_iff.mp h
    intro c hc
    rcases List.mem_cons.mp hc with rfl | hc
    · rw [h1]; rfl
    · exact List.all_eq_true.mp h2 c hc

/-- a new object -/
theorem fresh {S : Av} {s p : Addr} {H0 H : Hp} (o : HO) (S1 : SS S s H) (k : Keep s H0 H) (np : H p = none) : ∃ H', upd H p o = H' ∧ SS S s H' ∧ Keep s H0 H' ∧ Same H H' ∧ H' p = some o ∧ ¬ S p ∧ p ≠ s :=
  ⟨_, rfl, S1.new np, k.trans ((Keep.refl s H).new np), same_new (Same.refl H) np, upd_same, S1.free np, S1.ne np⟩
theorem Dd.lift {L n m : Nat} {d : PyData} (h : Dd L n d) (e : n ≤ m) : Dd L m d := h.mono (Nat.le_refl L) e

theorem same_tup {K : PySem.W.Frag} {H H' : Hp} {a : Addr} {xs : List V} (e : Same H H') (h : H a = some (.tup xs)) : SqT K H' a xs := SqT.of (e _ _ h)
/-- two rows of one kind -/
theorem rows_of {K : PySem.W.Frag} {S : Av} {H : Hp} {x y : V} {d e : PyData} {L m : Nat} (h : (isD "list" e || isD "tuple" e) = true) (h1 : isD "list" e = true → isD "list" d = true) (h2 : isD "tuple" e = true → isD "tuple" d = true)
    (hd : Da S H x d) (he : Da S H y e) (hD : Dd L m e) : ∃ (a c : Addr) (xs ys : List V) (ds es : List PyData) (m' : Nat), x = .ref a ∧ y = .ref c ∧ (∀ H', Same H H' → SqL K H' a xs ∨ SqT K H' a xs) ∧ (∀ H', Same H H' → SqL K H' c ys ∨ SqT K H' c ys) ∧
      DaAll S H xs ds ∧ DaAll S H ys es ∧ es.length ≤ L ∧ m = m' + 1 ∧ (∀ u ∈ es, Dd L m' u) ∧ (d = e ↔ ds = es) := by
  rcases isD_lt h with ⟨es, rfl⟩ | ⟨es, rfl⟩
  · obtain ⟨ds, rfl⟩ := isD_list (h1 rfl)
    cases hd with
    | @lst a xs _ _ ea ra =>
    cases he with
    | @lst c ys _ _ ec rc =>
    cases hD with
    | @lst m' _ hl hu =>
    exact ⟨a, c, xs, ys, ds, es, m', rfl, rfl, fun H' k => .inl (SqL.of (k _ _ ea)), fun H' k => .inl (SqL.of (k _ _ ec)), ra, rc, hl, rfl, hu, ⟨fun z => PyData.list.inj z, fun z => congrArg _ z⟩⟩
  · obtain ⟨ds, rfl⟩ := isD_tuple (h2 rfl)
    cases hd with
    | @tup a xs _ _ ea ra =>
    cases he with
    | @tup c ys _ _ ec rc =>
    cases hD with
    | @tup m' _ hl hu =>
    exact ⟨a, c, xs, ys, ds, es, m', rfl, rfl, fun H' k => .inr (SqT.of (k _ _ ea)), fun H' k => .inr (SqT.of (k _ _ ec)), ra, rc, hl, rfl, hu, ⟨fun z => PyData.tuple.inj z, fun z => congrArg _ z⟩⟩
/-- an item of a row, whatever the row -/
theorem ix_row {K : PySem.W.Frag} {H : Hp} {a : Addr} {xs : List V} {i : Nat} {v : V} {Q : VK} (h : SqL K H a xs ∨ SqT K H a xs) (e : xs[i]? = some v) (q : Q v H) : rIx K (.ref a) (.int (0 + i)) H Q := by
  rw [Int.zero_add]
  rcases h with h | h
  · exact .inl ⟨a, xs, _, v, rfl, rfl, h, atI_nat e, q⟩
  · exact .inr (.inl ⟨a, xs, _, v, rfl, rfl, h, atI_nat e, q⟩)
theorem ext_upto {ds es : List PyData} (hl : ds.length = es.length) (h : ∀ j : Nat, j < es.length → ds[j]? = es[j]?) : ds = es := by
  refine List.ext_getElem? fun j => ?_
  by_cases hj : j < es.length
  · exact h j hj
  · rw [List.getElem?_eq_none (by omega), List.getElem?_eq_none (by omega)]

/-! ### z[::-1] of a text -/
def revT (z : Str) : Str := ⟨z.cps.toList.reverse.toArray⟩
theorem revT_len (z : Str) : (revT z).length = z.length := by
  show z.cps.toList.reverse.toArray.size = z.cps.size
  simp
theorem rev_pick (z : Str) : (Builtin.Str.strSliceIndices none none (-1) z.length).filterMap (z.cps[·]?) = z.cps.toList.reverse := by
  show (sliceRange ((z.cps.size : Int) - 1) (-1) (-1)).filterMap (z.cps[·]?) = _
  rw [PySem.W.krv_sliceRange, PySem.W.krv_range, List.filterMap_reverse, PySem.W.krv_all]
def tRevS (te : TE) : TE := fun σ H Q => te σ H fun x H1 => ∃ z, x = .str z ∧ z.length ≤ sizeLine ∧ Q (.str (revT z)) H1
theorem pe_revS {X : Cx} {e : Expr} {te : TE} {k : Nat} {p1 p2 p3 pos : Pos} (he : PE X e te) : PE X (.Subscript e (.Slice none none (some (.UnaryOp .USub (.Constant (.int 1) k p1) p2)) p3) pos) (tRevS te) := by
  refine ⟨fun pins s σ H Q I h => ?_⟩
  refine Subscript_ (thn (he.run pins s σ H _ I h) fun v s1 ⟨x, H1, I1, r1, q1⟩ => ?_)
  obtain ⟨z, ex, hz, q⟩ := q1
  subst ex
  obtain ⟨tz, rfl⟩ := r1
  have hst : PO X (some (.UnaryOp .USub (.Constant (.int 1) k p1) p2)) (tPart (tUn (rU fun i => .int (-i)) (tC (.int 1)))) := po_some (pe_un un_neg pe_int)
  refine wpAny_Slice (thn (po_none.run pins s1 σ H1 (fun o H2 => o = none ∧ H2 = H1) I1 ⟨rfl, rfl⟩) fun vl s2 ⟨l, H2, I2, pl, el, e2⟩ => ?_)
  subst el e2
  refine thn (po_none.run pins s2 σ H2 (fun o H3 => o = none ∧ H3 = H2) I2 ⟨rfl, rfl⟩) fun vu s3 ⟨u, H3, I3, pu, eu, e3⟩ => ?_
  subst eu e3
  refine thn (hst.run pins s3 σ H3 (fun o H4 => o = some (-1) ∧ H4 = H3) I3 ⟨1, rfl, -1, rfl, rfl, rfl⟩) fun vs s4 ⟨o, H4, I4, ps, eo, e4⟩ => ?_
  subst eo e4
  have I5 : Inv X pins σ H4 { s4 with heap := s4.heap.push { cls := .type "slice", data := .fields #[vl, vu, vs] } } := I4.kept (t' := s4.toks) fun b ob q => Heap.get?_push_of_some _ q
  obtain ⟨l, rfl, hl⟩ := IsPart.raw pl
  obtain ⟨u, rfl, hu⟩ := IsPart.raw pu
  obtain ⟨st, rfl, hst⟩ := IsPart.raw ps
  show wpAny (model X.prog X.w) X.A (subscriptTail e (.Slice none none (some (.UnaryOp .USub (.Constant (.int 1) k p1) p2)) p3) (.str z tz) (.ref s4.heap.objs.size)) (EP X pins σ Q) X.xe { s4 with heap := s4.heap.push { cls := .type "slice", data := .fields #[partValue l, partValue u, partValue st] } }
  refine tail_any (ops := [.str z tz, .ref s4.heap.objs.size]) (typeIs_str _ _ _) F.slot_str_getitem.lookup ?_ (by with_unfolding_all rfl)
  refine wpAny_getItem_str_slice (l := l) (u := u) (st := st) ⟨_, Heap.get?_push_size _ rfl, rfl, rfl⟩ (by rw [hst]; rfl) ?_
  have e1 : sliceMade z tz l u st = Made.str (revT z) := by
    unfold sliceMade slicePicked
    rw [hl, hu, hst]
    show (if ((-1 : Int) == 1 && _) = true then _ else Made.str ⟨((Builtin.Str.strSliceIndices none none (-1) z.length).filterMap (z.cps[·]?)).toArray⟩) = _
    rw [rev_pick]
    rfl
  rw [e1]
  exact ⟨by rw [revT_len]; exact hz, .str _, H4, I5.tok _, ⟨_, rfl⟩, q⟩

theorem pick_data {K : PySem.W.Frag} {S : Av} {s p : Addr} {H : Hp} {xs : List V} {L n : Nat} {Q : VK} (hS : SO S s H) (np : H p = none) (hne : xs ≠ []) (hl : xs.length ≤ 1000000)
    (hx : ∀ v ∈ xs, ∃ d, Da S H v d ∧ Dd L n d) (q : ∀ (H' : Hp) (v : V) (d : PyData), Keep s H H' → SO S s H' → Da S H' v d → Dd L n d → Q v H') : sp_law_pick K [.ref s, .ref p] (upd H p (.lst xs)) Q E0 :=
  pick_list hS np hne hl fun H' v k _ so hv => let ⟨d, h1, h2⟩ := hx v hv; q H' v d k so (h1.keep k hS.at_) h2
theorem cutS_len (z : Str) (lo hi : Option Int) : (cutS z lo hi).length ≤ z.length := cutS_length z lo hi

theorem cutS_to (z : Str) (k : Nat) : (cutS z none (some (k : Int))).cps.toList = z.cps.toList.take k := by
  unfold cutS
  rw [HT.sIx_none, HT.sIx_nat]
  show List.take (min k z.length - 0) (List.drop 0 z.cps.toList) = _
  rw [List.drop_zero, Nat.sub_zero, str_len]
  by_cases h : k ≤ z.cps.toList.length
  · rw [Nat.min_eq_left h]
  · rw [Nat.min_eq_right (by omega), List.take_length, List.take_of_length_le (by omega)]
theorem cutS_from (z : Str) (k : Nat) : (cutS z (some (k : Int)) none).cps.toList = z.cps.toList.drop k := by
  unfold cutS
  rw [HT.sIx_none, HT.sIx_nat]
  show List.take (z.length - min k z.length) (List.drop (min k z.length) z.cps.toList) = _
  rw [str_len]
  by_cases h : k ≤ z.cps.toList.length
  · rw [Nat.min_eq_left h, List.take_of_length_le (by rw [List.length_drop]; omega)]
  · rw [Nat.min_eq_right (by omega), List.drop_length, List.drop_of_length_le (by omega), List.take_nil]

/-! ### rows: a list or a tuple -/
theorem PI.or {X : Cx} {tg e : Expr} {w1 w2 : TI} (h1 : PI X tg e w1) (h2 : PI X tg e w2) : PI X tg e (fun σ H R => w1 σ H R ∨ w2 σ H R) :=
  ⟨fun pins s σ H R I h => h.elim (h1.run pins s σ H R I) (h2.run pins s σ H R I)⟩
def iRow (K : PySem.W.Frag) (te : TE) : TI := fun σ H R => iList K te σ H R ∨ iTup K te σ H R
theorem pi_row {X : Cx} {tg e : Expr} {te : TE} (h : PE X e te) : PI X tg e (iRow X.K te) := PI.or (pi_list h) (pi_tup h)
/-- a list or a tuple that stays -/
def Row (K : PySem.W.Frag) (H : Hp) (a : Addr) (xs : List V) : Prop := SqL K H a xs ∨ SqT K H a xs
theorem Row.same {K : PySem.W.Frag} {H H' : Hp} {a : Addr} {xs : List V} (h : Row K H a xs) (e : Same H H') : Row K H' a xs := by
  rcases h with h | (h | ⟨o, h⟩) | h
  · exact .inl (e.seq h)
  · exact .inr (.inl (.inl (e _ _ h)))
  · exact .inr (.inl (.inr ⟨o, e _ _ h⟩))
  · exact .inr (.inr h)
theorem lc_row {K : PySem.W.Frag} {i : Nat} {a : Addr} {xs : List V} {g : TG} {tt : TT} {te : TE} {vs : List Nat} {σ : L2.St} {H : Hp} {Q : VK}
    (hσ : σ[i]? = some (some (.ref a))) (hr : Row K H a xs)
    (Pv : Addr → Nat → Hp → Prop) (hsm : ∀ D j H', H D = none → j ≤ xs.length → Pv D j H' → Same H H') (h0 : ∀ D, H D = none → Pv D 0 (upd H D (.lst [])))
    (hs : ∀ D j x H', H D = none → xs[j]? = some x → Pv D j H' → g x (wipe σ vs) H' fun σ2 H2 => wipe σ2 vs = wipe σ vs ∧ tt σ2 H2 fun b H3 =>
      if b = true then te σ2 H3 fun y H4 => ∃ acc, H4 D = some (.lst acc) ∧ acc.length < sizeLine ∧ Pv D (j + 1) (upd H4 D (.lst (acc ++ [y]))) else Pv D (j + 1) H3)
    (hd : ∀ D H', H D = none → Pv D xs.length H' → Q (.ref D) H') : tLc (iRow K (tVar i)) g tt te vs σ H Q := by
  rcases hr with hr | hr
  · refine Or.inl ⟨_, hσ, a, rfl, ⟨_, hr⟩, fun D nD => ?_⟩
    exact lc_list (K := K) (a := a) (xs := xs) (Pv D) (h0 D nD) (fun j H' hj p => (hsm D j H' nD hj p).seq hr) (fun j x H' e p => hs D j x H' nD e p) (fun H' p => hd D H' nD p)
  · refine Or.inr ⟨_, hσ, a, rfl, ⟨_, hr⟩, fun D nD => ?_⟩
    refine lc_tup (K := K) (a := a) (xs := xs) (Pv D) (h0 D nD) (fun j H' hj p => ?_) (fun j x H' e p => hs D j x H' nD e p) (fun H' p => hd D H' nD p)
    rcases hr with (h | ⟨o, h⟩) | h
    · exact .inl (.inl (hsm D j H' nD hj p _ _ h))
    · exact .inl (.inr ⟨o, hsm D j H' nD hj p _ _ h⟩)
    · exact .inr h
/-- a row of data -/
theorem row_of {K : PySem.W.Frag} {S : Av} {H : Hp} {x : V} {d : PyData} {L m : Nat} (h : (isD "list" d || isD "tuple" d) = true) (hd : Da S H x d) (hD : Dd L m d) :
    ∃ (a : Addr) (xs : List V) (ds : List PyData) (m' : Nat), x = .ref a ∧ ¬ S a ∧ Row K H a xs ∧ DaAll S H xs ds ∧ ds.length ≤ L ∧ m = m' + 1 ∧ (∀ u ∈ ds, Dd L m' u) ∧ (d = .list ds ∨ d = .tuple ds) := by
  rcases isD_lt h with ⟨ds, rfl⟩ | ⟨ds, rfl⟩
  · cases hd with
    | @lst a xs _ na ea ra =>
    cases hD with
    | @lst m' _ hl hu => exact ⟨a, xs, ds, m', rfl, na, .inl (SqL.of ea), ra, hl, rfl, hu, .inl rfl⟩
  · cases hd with
    | @tup a xs _ na ea ra =>
    cases hD with
    | @tup m' _ hl hu => exact ⟨a, xs, ds, m', rfl, na, .inr (SqT.of ea), ra, hl, rfl, hu, .inr rfl⟩
theorem Keep.row {K : PySem.W.Frag} {S : Av} {s : Addr} {H H' : Hp} {a : Addr} {xs : List V} (e : Keep s H H') (n : a ≠ s) (h : Row K H a xs) : Row K H' a xs := by
  rcases h with h | (h | ⟨o, h⟩) | h
  · exact .inl (e.seq n h)
  · exact .inr (.inl (.inl (e _ _ n h)))
  · exact .inr (.inl (.inr ⟨o, e _ _ n h⟩))
  · exact .inr (.inr h)

/-- an if with a word for each of its two ways: each way is shown once, however often the test comes to it -/
def tIfCut (c : TT) (t u : TS) : TS := fun D σ H => ∃ T F : Hp → Prop, (c σ H fun b H1 => if b = true then T H1 else F H1) ∧ (∀ H1, T H1 → t D σ H1) ∧ ∀ H1, F H1 → u D σ H1
theorem ps_ifCut {X : Cx} {pos : Pos} {c : Expr} {a b : List Stmt} {tc : TT} {t u : TS} (hc : PT X c tc) (ha : PSs X a t) (hb : PSs X b u) : PS X (.If c a b pos) (tIfCut tc t u) := by
  refine ⟨fun pins s σ H D I h => ?_⟩
  obtain ⟨T, F, h1, h2, h3⟩ := h
  refine wpAny_If (thn (hc.run pins s σ H _ I h1) fun d s1 ⟨H1, I1, q1⟩ => ?_)
  cases d with
  | true => exact ha.run pins s1 σ H1 D I1 (h2 H1 q1)
  | false => exact hb.run pins s1 σ H1 D I1 (h3 H1 q1)

theorem ix_some {j n : Nat} (h : j < n) : seqIndex? (j : Int) n = some j := by
  unfold seqIndex?
  have h1 : ¬ (j : Int) < 0 := by omega
  have h2 : (j : Int) < (n : Int) := by omega
  have h3 : (0 : Int) ≤ (j : Int) := by omega
  simp only [h1, if_false, h3, h2, decide_true, Bool.and_self, if_true, Int.toNat_natCast]
theorem ixN_some {j n : Nat} (h : j < n) : ixN n (j : Int) = some j := by
  unfold ixN
  rw [if_pos (by omega), if_pos (by omega), Int.toNat_natCast]
theorem Row.ix {K : PySem.W.Frag} {H : Hp} {a : Addr} {xs : List V} {i : Nat} {v : V} {Q : VK} (h : Row K H a xs) (e : xs[i]? = some v) (q : Q v H) : rIx K (.ref a) (.int i) H Q := by
  rcases h with h | h
  · exact .inl ⟨a, xs, _, v, rfl, rfl, h, atI_nat e, q⟩
  · exact .inr (.inl ⟨a, xs, _, v, rfl, rfl, h, atI_nat e, q⟩)

/-! ### one sign of a word changed -/
theorem nameL_eq {l : List Nat} (h : 1 ≤ l.length) : nameL l = (wordL l && decide (l.length ≤ 8)) := by
  cases l with
  | nil => exact absurd h (by decide)
  | cons c r =>
    rw [nameL_cons]
    show _ = ((isLet c && r.all (fun c => isLet c || isDig c)) && decide (r.length + 1 ≤ 8))
    have e : decide (r.length ≤ 7) = decide (r.length + 1 ≤ 8) := by
      rw [Bool.eq_iff_iff, decide_eq_true_eq, decide_eq_true_eq]; omega
    rw [e]
theorem swept {l : List Nat} {j c : Nat} (hw : wordL l = true) (hl : l.length ≤ 8) (hj : j < l.length) : nameL (l.take j ++ [c] ++ l.drop (j + 1)) = (isLet c || (decide (0 < j) && isDig c)) := by
  have hlen : (l.take j ++ [c] ++ l.drop (j + 1)).length = l.length := by
    rw [List.length_append, List.length_append, List.length_take, List.length_drop, List.length_singleton]
    omega
  rw [nameL_eq (by omega), hlen, decide_eq_true hl, Bool.and_true]
  cases l with
  | nil => exact absurd hj (Nat.not_lt_zero _)
  | cons a r =>
    obtain ⟨h1, h2⟩ := Bool.and_eq_true_iff.mp (show (isLet a && r.all (fun c => isLet c || isDig c)) = true from hw)
    cases j with
    | zero =>
      show (isLet c && r.all (fun c => isLet c || isDig c)) = _
      rw [h2, Bool.and_true, show decide (0 < 0) = false from rfl, Bool.false_and, Bool.or_false]
    | succ j =>
      show (isLet a && (r.take j ++ [c] ++ r.drop (j + 1)).all (fun c => isLet c || isDig c)) = _
      have h3 : (r.take j).all (fun c => isLet c || isDig c) = true := List.all_eq_true.mpr fun x hx => List.all_eq_true.mp h2 x (List.mem_of_mem_take hx)
      have h4 : (r.drop (j + 1)).all (fun c => isLet c || isDig c) = true := List.all_eq_true.mpr fun x hx => List.all_eq_true.mp h2 x (List.mem_of_mem_drop hx)
      rw [List.all_append, List.all_append, h1, h3, h4, show decide (0 < j + 1) = true from decide_eq_true (by omega)]
      simp
theorem decide_pos (j : Nat) : decide ((0 : Int) < (j : Int)) = decide (0 < j) := by
  rw [Bool.eq_iff_iff, decide_eq_true_eq, decide_eq_true_eq]; omega

theorem row_name {l : List Nat} {k : Nat} (hw : wordL l = true) (hl : l.length = 12) (hk : k ≤ 12) : nameL (l.take k) = (decide (1 ≤ k) && decide (k ≤ 8)) := by
  cases k with
  | zero => rfl
  | succ k =>
    have hlen : (l.take (k + 1)).length = k + 1 := by rw [List.length_take]; omega
    rw [nameL_eq (by omega), hlen, decide_eq_true (show 1 ≤ k + 1 by omega), Bool.true_and]
    cases l with
    | nil => cases hl
    | cons a r =>
      obtain ⟨h1, h2⟩ := Bool.and_eq_true_iff.mp (show (isLet a && r.all (fun c => isLet c || isDig c)) = true from hw)
      show ((isLet a && (r.take k).all (fun c => isLet c || isDig c)) && _) = _
      have h3 : (r.take k).all (fun c => isLet c || isDig c) = true := List.all_eq_true.mpr fun x hx => List.all_eq_true.mp h2 x (List.mem_of_mem_take hx)
      rw [h1, h3]
      rfl

/-! ### from the head's facts to calls by name -/
section
variable {P : Program} {w : World} {K : PySem.W.Frag} {mg : Str → Option Value} {base : Heap} {x qual : Str} {st : Stmt} {f : Addr} {fd : FuncData} {ps : List Str} {sp : Sp} {k j : Nat}
theorem fun_of (F : FunD K x qual (defArgs st) (defBody st) (defScope st) [] [] f fd) : Fun K x qual st f fd := by
  obtain ⟨oc, od, dV, kV, doc, pm, an, cdv, ct, osl, rfl, lk, hcd, hD, hK⟩ := F.ex
  rcases hD with ⟨_, rfl⟩ | ⟨e, _⟩
  · exact ⟨⟨oc, od, kV, doc, pm, an, cdv, ct, osl, rfl, lk, hcd⟩, F.kp⟩
  · exact absurd rfl e
theorem kbn_of (F : Fun K x qual st f fd)
    (h : ∀ (kV doc pm : Value) (an : Option Addr) (cdv ct : Value) (ws : List Value), ws.length = ps.length → bindArgs (PySem.W.fnOf x qual (defArgs st) (defBody st) (defScope st) .none kV doc pm an cdv ct) ⟨[], ps.zip ws⟩ = pure (ps.zip ws)) :
    KBn K fd ps 0 ps (fun _ ws => ws) (fun _ zs => zs) := by
  obtain ⟨oc, od, kV, doc, pm, an, cdv, ct, osl, rfl, lk, hcd⟩ := F.ex
  refine ⟨fun s us ws _ h1 h2 => ?_, fun _ r => r⟩
  have e : us = [] := List.eq_nil_of_length_eq_zero h1
  subst e
  exact .of_eq (h kV doc pm an cdv ct ws h2)
theorem Own.mk' (F : Fun K x qual st f fd) (ok : FnOk P w K mg base CX0 k f fd ps sp) (g : mg x = some (.ref f)) (b : Binds K fd ps []) (kb : KBn K fd ps 0 ps (fun _ ws => ws) (fun _ zs => zs)) : Own P w K mg base k x ps sp := ⟨f, fd, ok, g, F.kp, b, kb⟩
theorem Own.up (O : Own P w K mg base k x ps sp) (h : k ≤ j) : Own P w K mg base j x ps sp := by
  obtain ⟨f, fd, F, r⟩ := O.ex
  exact ⟨f, fd, F.mono h, r⟩
end
end Lg

/-! set(list of ints): the set that stands behind it, led. -/
namespace Lg
open PySem PySem.Spec PyProof.Rows L2
/-- a set that was just made -/
abbrev newS (w : World) : Obj := { cls := .type "set", dict := none, data := .set #[] 0 (.fresh 0 0 (!w.params.followText "set-order")) }
section
variable {P : Program} {w : World} {A : Around} {E : Value → Shared → Prop} {s : Shared}
/-- what the new set is behind its filling -/
abbrev FillEnd (w : World) (s : Shared) (ns : List Int) (r : Value) (s₂ : Shared) : Prop :=
  r = .none ∧ ∃ h' tk c, s₂ = { s with heap := h', toks := tk } ∧ SetR w h' s.heap.objs.size (fun j => decide (j ∈ ns)) c ∧ c ≤ ns.length ∧ ∀ b o, s.heap.get? b = some o → h'.get? b = some o
set_option maxHeartbeats 4000000 in
theorem call_set_listR {l : Addr} {items : Array Value} (ns : List Int) {Q : Value → Shared → Prop} (hh : A.handled = none) (hl : s.heap.IsList l items) (hit : IntsAre items.toList ns) (hb : ns.length + 1 < scanBound)
    (h : ∀ (h' : Heap) (tk c : Nat), SetR w h' s.heap.objs.size (fun j => decide (j ∈ ns)) c → c ≤ ns.length → (∀ b o, s.heap.get? b = some o → h'.get? b = some o) → Q (.ref s.heap.objs.size) { s with heap := h', toks := tk }) :
    wpAny (model P w) A (call (.type "set") [.ref l]) Q E s := by
  have lens : items.size = ns.length := by have q := IntsAre.length hit; rw [Array.length_toList] at q; exact q
  obtain ⟨c, tl, hmro⟩ := F.called_set.mro
  have hmade := F.called_set.made; have hsub := F.called_set.sub; have h1 := F.called_set.notType; have h2 := F.called_set.canCreate; have hct := F.typeCall_set_1 (.ref l)
  refine wpAny_call (codeAny_of_tree ?_); show wpAny _ _ (callAny (.type "set") _) _ _ _
  refine wpAny_pure ⟨Code.quiet_builtin _ (by decide +kernel), codeAny_builtin F.entry_type_call ?_⟩; rw [Around.under_plain (weight_type_call_type "set" [.ref l] []) rfl]
  repeat (any_goals (first | assumption | wp_step))
  refine codeAny_mono (code_set_led1 (.ref l) (E := E) (Q₁ := fun obj s₁ => obj = .ref s.heap.objs.size ∧ s₁ = { s with heap := s.heap.push (newS w) }) ⟨rfl, rfl⟩) fun r s₁ hr => ?_
  have hS : (s.heap.push (newS w)).get? s.heap.objs.size = some (newS w) := Heap.get?_push_size _ rfl
  have hT : Shared.TypeIs { s with heap := s.heap.push (newS w) } (.ref s.heap.objs.size) "set" := ⟨_, hS, rfl⟩
  cases r with
  | error e => exact hr
  | ok fl =>
  cases fl with
  | next => exact hr.elim
  | brk => exact hr.elim
  | cont => exact hr.elim
  | ret obj =>
  obtain ⟨rfl, rfl⟩ := hr
  have hli := F.called_set.init.lookup; have hbi := F.called_set.init.bind (.ref s.heap.objs.size)
  repeat (any_goals (first | assumption | wp_step))
  refine codeAny_mono (codeAny_call_builtin (R := wants (FillEnd w s ns) E) F.called_set.init.plain F.entry_set_init (check_set_init_1 hT ?_)) fun r₂ s₂ hr₂ => ?_
  · obtain ⟨⟨ocls, odict, odata, oslots⟩, hol, hcl, nl, hdl⟩ := hl
    simp only at hcl hdl; subst hcl; subst hdl
    have hol' : (s.heap.push (newS w)).get? l = some { cls := .type "list", dict := odict, data := .seq items nl, slots := oslots } := Heap.get?_push_of_some _ hol
    have hsls := F.sub_list_set; have hslf := F.sub_list_frozenset; have hne : (Value.type "list" == Value.type "dict") = false := by decide
    have hl1 : (s.heap.push (newS w)).IsList l items := ⟨_, hol', rfl, nl, rfl⟩
    unfold Builtin.«set.__init__» noKeywords Builtin.Frozenset.updateFrom; generalize hPI : pyIter = PI
    wp_walk
    subst hPI
    refine wpAny_pyIter_list hl1 (wpAny_bind (wpAny_runValue ?_))
    have hlS : l < s.heap.objs.size := Heap.lt_size hol
    have hh3 : A.in1.in1.in1.handled = none := by simp [hh]
    have sz : (s.heap.push (newS w)).objs.size = s.heap.objs.size + 1 := Heap.size_push ..
    have hval : ∀ (i : Nat) (v : Value), items[i]? = some v → ∃ k t, ns[i]? = some k ∧ v = .int k t := fun i v hv => by
      obtain ⟨t, e⟩ := PyProof.Rows.IntsAre.int_at hit i v (by rw [Array.getElem?_toList]; exact hv)
      have hi : i < ns.length := lens ▸ (Array.getElem?_eq_some_iff.mp hv).1
      exact ⟨ns[i], t, List.getElem?_eq_getElem hi, by rw [e, List.getD_eq_getElem?_getD, List.getElem?_eq_getElem hi] <;> rfl⟩
    refine set_update_ints ((Walks.list hh3 _ l (by rw [sz]; exact Nat.ne_of_lt (Nat.lt_succ_of_lt hlS)) items).toS) s.heap.objs.size (by rw [sz]; simp only [List.mem_cons, List.not_mem_nil, or_false, not_or]; exact ⟨Nat.ne_of_lt (Nat.lt_succ_self _), Nat.ne_of_gt hlS⟩) ns lens hb hval (items.size - 0) 0 _ (by omega) (Nat.zero_le _)
      ⟨⟨_, Heap.get?_push_size _ rfl, rfl, rfl⟩, (hl1.push _)⟩ ⟨0, Nat.le_refl 0, setR_new_at (Heap.get?_push_of_some _ hS)⟩ fun s' c' hm hc' hS' => ?_
    obtain ⟨h', g2, d', tk', os'⟩ := s'
    obtain rfl : g2 = s.gens := hm.gens
    obtain rfl : d' = s.drawn := hm.drawn
    obtain rfl : os' = s.os := hm.os
    show wpAny _ _ _ _ _ _
    refine wpAny_pure ?_
    show wpAny _ _ (ret Value.none) _ _ _
    refine wpAny_pure ⟨rfl, h', tk', c', rfl, hS', lens ▸ hc', fun b o e => ?_⟩
    have hb0 : b < s.heap.objs.size := Heap.lt_size e
    exact hm.heap b o (by rw [sz]; simp only [List.mem_cons, List.not_mem_nil, or_false, not_or]; exact ⟨Nat.ne_of_lt hb0, Nat.ne_of_lt (Nat.lt_succ_of_lt hb0)⟩) (Heap.get?_push_of_some _ (Heap.get?_push_of_some _ e))
  · cases r₂ with
    | error e => exact hr₂
    | ok fl₂ =>
    cases fl₂ with
    | next => exact hr₂.elim
    | brk => exact hr₂.elim
    | cont => exact hr₂.elim
    | ret r =>
    obtain ⟨rfl, h', tk, c2, rfl, hS', hc', hk'⟩ := hr₂
    repeat (any_goals (first | assumption | wp_step))
    exact h h' tk c2 hS' hc' hk'
end
end Lg

/-! enumerate(t), t a tuple. -/
namespace Lg
open PySem PySem.Spec PyProof.Rows L2
open AutoSeq1 (wpAny_loadPart')
section
variable {P : Program} {w : World} {A : Around} {E : Value → Shared → Prop} {s : Shared}
theorem nextT_item {it t : Addr} {i : Nat} {items : Array Value} {x : Value} {Q : Value → Shared → Prop} (hit : s.heap.IsTupleIter it t i) (ht : s.heap.IsTuple t items) (hx : items[i]? = some x)
    (hQ : ∀ h', h'.IsTupleIter it t (i + 1) → Heap.SameBut it s.heap h' → Q x { s with heap := h' }) : wpAny (model P w) A (Builtin.SmallTypes.nextOf (.ref it)) Q E s := by
  obtain ⟨o, ho, hc, hd⟩ := id hit; obtain ⟨ol, hol, _, nl, hdl⟩ := ht
  unfold Builtin.SmallTypes.nextOf
  refine wpAny_bind (wpAny_callSpecial?_slot (name := Str.ofString "__next__") hit.typeIs F.slot_tuple_iterator_next (wpAny_call_entry F.slot_tuple_iterator_next hit.typeIs F.entry_tuple_iterator_next ?_ (F.args_tuple_iterator_next_1 _)))
  show wpAny _ _ (field (.ref it) 0 >>= _) _ _ s; refine wpAny_bind (wpAny_field ho hd (x := .ref t) rfl ?_)
  show wpAny _ _ (if (Value.ref t == Value.none) = true then _ else _) _ _ s; rw [if_neg (show ¬ ((Value.ref t == Value.none) = true) from Bool.false_ne_true)]
  show wpAny _ _ (field (.ref it) 1 >>= _) _ _ s; refine wpAny_bind (wpAny_field ho hd (x := .int i 0) rfl ?_)
  show wpAny _ _ (seqItems? (.ref t) >>= _) _ _ s; refine wpAny_bind (wpAny_seqItems hol hdl ?_); simp only [Int.toNat_natCast, hx]
  refine wpAny_bind (wpAny_setField ho hd (by simp) (wpAny_pure ⟨x, rfl, wpAny_pure (hQ _ ⟨_, Heap.get?_update_self _ ho (Obj.isFreed_of_fields (Obj.data_mapFields hd _)), (Obj.cls_mapFields ..).trans hc, by rw [Obj.data_mapFields hd]; simp [rawInt]⟩ (Heap.SameBut.update ..))⟩))
theorem nextT_end {it t : Addr} {i : Nat} {items : Array Value} {Q : Value → Shared → Prop} (hh : A.handled = none) (hit : s.heap.IsTupleIter it t i) (ht : s.heap.IsTuple t items) (hx : items[i]? = none)
    (hE : ∀ h' e, Heap.ExtBut it s.heap h' → (∃ o, h'.get? e = some o ∧ o.cls = .type "StopIteration") → E (.ref e) { s with heap := h' }) : wpAny (model P w) A (Builtin.SmallTypes.nextOf (.ref it)) Q E s := by
  obtain ⟨o, ho, hc, hd⟩ := id hit; obtain ⟨ol, hol, _, nl, hdl⟩ := ht
  unfold Builtin.SmallTypes.nextOf
  refine wpAny_bind (wpAny_callSpecial?_slot (name := Str.ofString "__next__") hit.typeIs F.slot_tuple_iterator_next (wpAny_call_entry F.slot_tuple_iterator_next hit.typeIs F.entry_tuple_iterator_next ?_ (F.args_tuple_iterator_next_1 _)))
  show wpAny _ _ (field (.ref it) 0 >>= _) _ _ s; refine wpAny_bind (wpAny_field ho hd (x := .ref t) rfl ?_)
  show wpAny _ _ (if (Value.ref t == Value.none) = true then _ else _) _ _ s; rw [if_neg (show ¬ ((Value.ref t == Value.none) = true) from Bool.false_ne_true)]
  show wpAny _ _ (field (.ref it) 1 >>= _) _ _ s; refine wpAny_bind (wpAny_field ho hd (x := .int i 0) rfl ?_)
  show wpAny _ _ (seqItems? (.ref t) >>= _) _ _ s; refine wpAny_bind (wpAny_seqItems hol hdl ?_); simp only [Int.toNat_natCast, hx]
  refine wpAny_bind (wpAny_rule (wpAny_bind (wpAny_setField ho hd (by simp) ?_))); show wpAny _ _ (newExc (.type "StopIteration") [] >>= _) _ _ _
  refine wpAny_bind ?_; simp only [newExc, newTuple]; refine wpAny_bind (wpAny_newObj_type ?_ (by size_fits))
  refine wpAny_bind (m := firstArgMember _ _) (wpAny_of_eq (a := Value.none) (by first | rfl | (simp only [firstArgMember]; rfl)) (wpAny_newObj_type ?_ (by size_fits)))
  simp only [raiseNew]; refine wpAny_bind (wpAny_handled ?_); (first | rw [show A.in1.handled = none from hh] | rw [hh])
  refine wpAny_bind (wpAny_pure (wpAny_throw (hE _ _ (((Heap.SameBut.update ..).extBut.push _).push _) ⟨_, Heap.get?_push_size _ rfl, rfl⟩)))
theorem drawsT (hh : A.handled = none) (it t : Addr) (hne : t ≠ it) (items : Array Value) : Draws P w A it [it, t] items.size (fun i v => items[i]? = some v) (fun i h => h.IsTupleIter it t i ∧ h.IsTuple t items) where
  live := fun _ _ st => let ⟨o, ho, _⟩ := st.1; ⟨o, ho⟩
  frame := fun i h h' st hk => by
    obtain ⟨⟨o, ho, r⟩, ⟨ot, hot, r2⟩⟩ := st
    exact ⟨⟨o, hk it (by simp) o ho, r⟩, ⟨ot, hk t (by simp) ot hot, r2⟩⟩
  item := fun i s Q E hi st hQ => by
    refine nextT_item st.1 st.2 (x := items[i]) (by simp [hi]) fun h' hit' hs' => hQ _ h' s.toks (by simp [hi]) ⟨hit', ?_⟩ hs'
    obtain ⟨ot, hot, r2⟩ := st.2
    exact ⟨ot, (hs'.2 t hne).trans hot, r2⟩
  done := fun s Q E st hE => nextT_end hh st.1 st.2 (by simp) hE
theorem newT {l : Addr} {items : Array Value} {n : Nat} {dct : Option Addr} {sl : Array (Option Value)} :
    Meets (Builtin.«enumerate.__new__» ⟨[.type "enumerate", .ref l], []⟩) (fun _ R s => s.heap.get? l = some { cls := .type "tuple", dict := dct, data := .seq items n, slots := sl } ∧
      R (.ok (.ret (.ref (s.heap.push { cls := .type "tuple_iterator", data := .fields #[.ref l, .int 0 0] }).objs.size)))
        { s with heap := (s.heap.push { cls := .type "tuple_iterator", data := .fields #[.ref l, .int 0 0] }).push { cls := .type "enumerate", data := .fields #[.none, .bool false, .ref s.heap.objs.size, rawInt 0, .none, .none] } }) :=
  .of_wp fun prog w A R s h => by
    obtain ⟨hp, g, d, tk, os⟩ := s
    obtain ⟨hl, h⟩ := h
    have hsub := sub_enumerate; have hL : Heap.IsTuple (Shared.heap ⟨hp, g, d, tk, os⟩) l items := ⟨_, hl, rfl, n, rfl⟩
    wp_walk using wpAny_loadPart' hl
    refine wpAny_stack_any fun st => wpAny_pure ?_
    split
    · rename_i c _ _ _ _ _
      cases (c == Value.type "enumerate") <;> (wp_walk using wpAny_loadPart' hl, wpAny_pyIter_tuple hL; exact ⟨_, rfl, h⟩)
    · (wp_walk using wpAny_loadPart' hl, wpAny_pyIter_tuple hL; exact ⟨_, rfl, h⟩)
theorem call_enumT {l : Addr} {items : Array Value} {Q : Value → Shared → Prop} (hL : s.heap.IsTuple l items)
    (h : ∀ h', IsEnum h' (s.heap.objs.size + 1) s.heap.objs.size 0 .none → h'.IsTupleIter s.heap.objs.size l 0 → (∀ b o, s.heap.get? b = some o → h'.get? b = some o) → Q (.ref (s.heap.objs.size + 1)) { s with heap := h' }) :
    wpAny (model P w) A (call (.type "enumerate") [.ref l]) Q E s := by
  obtain ⟨⟨c, dct, dt, sl⟩, hl, hc, n, hd⟩ := hL
  replace hc : c = .type "tuple" := hc; replace hd : dt = .seq items n := hd; subst hc hd
  refine callType_new F.called_enumerate (by decide) (F.typeCall_enumerate_1 _) (F.newCall_enumerate_1 _) (fun obj => F.args_object_init_2 obj _) F.entry_enumerate_new newT ⟨hl, ?_⟩
  have hz : (s.heap.push { cls := .type "tuple_iterator", data := .fields #[.ref l, .int 0 0] }).objs.size = s.heap.objs.size + 1 := Heap.size_push ..
  show _ ∧ _
  rw [hz]
  have he : IsEnum ((s.heap.push { cls := .type "tuple_iterator", data := .fields #[.ref l, .int 0 0] }).push { cls := .type "enumerate", data := .fields #[.none, .bool false, .ref s.heap.objs.size, rawInt 0, .none, .none] }) (s.heap.objs.size + 1) s.heap.objs.size 0 .none := by
    have q := Heap.get?_push_size (s.heap.push { cls := .type "tuple_iterator", data := .fields #[.ref l, .int 0 0] }) (o := { cls := .type "enumerate", data := .fields #[.none, .bool false, .ref s.heap.objs.size, rawInt 0, .none, .none] }) rfl
    rw [hz] at q; exact q
  exact ⟨⟨_, he, rfl⟩, h _ he ⟨_, Heap.get?_push_of_some _ (Heap.get?_push_size _ rfl), rfl, rfl⟩ fun b o x => Heap.get?_push_of_some _ (Heap.get?_push_of_some _ x)⟩

end
/-- the tuple at a, each item in a new pair -/
def IteT (K : PySem.W.Frag) (a : Addr) (xs : List V) : It :=
  ⟨fun i H => SqT K H a xs ∧ i < xs.length, fun i H v H' => ∃ T x, v = .ref T ∧ H T = none ∧ H' = upd H T (.tup [.int (i : Nat), x]) ∧ xs[i]? = some x, fun i H => SqT K H a xs ∧ xs.length ≤ i⟩
theorem turn_enumT {P : Program} {w : World} {K : PySem.W.Frag} {elts : List Expr} {kk : Nat} {tpos : Pos} (a : Addr) (xs : List V) (e it : Addr) :
    Turn P w K (.Tuple elts kk tpos) (IteT K a xs) [e, it] e (fun i h => (∃ old, IsEnum h e it ((i : Nat) : Int) old) ∧ h.IsTupleIter it a i ∧ e ≠ it) where
  mem := by simp
  obj := fun i h ⟨⟨old, he⟩, ⟨o, ho, hc, hd⟩, _⟩ b hb => by
    rcases (by simpa using hb : b = e ∨ b = it) with rfl | rfl
    · exact ⟨_, he, fun v q => nomatch q⟩
    · exact ⟨o, ho, fun v q => by rw [hd] at q; cases q⟩
  keep := fun i h h' ⟨⟨old, he⟩, ⟨o, ho, r⟩, hne⟩ k => ⟨⟨old, k e (by simp) _ he⟩, ⟨o, k it (by simp) o ho, r⟩, hne⟩
  item := by
    intro X hP hw hK hc i pins s σ H E I hf st hg
    subst hP hw hK
    obtain ⟨⟨old, he⟩, hit, hne⟩ := st; obtain ⟨hq, hi⟩ := hg
    obtain ⟨its, rv, ⟨ot, hot, hotc, nt, hotd⟩, hz⟩ := I.tuple hq
    have hT : s.heap.IsTuple a its.toArray := ⟨ot, hot, hotc, nt, hotd⟩
    have nea : e ≠ a := fun z => by
      have q : s.heap.get? e = some _ := he
      rw [z, hot] at q
      rw [Option.some.inj q] at hotc
      exact absurd (Value.type.inj hotc) (by decide)
    have nai : a ≠ it := fun z => by obtain ⟨oi, hoi, hci, _⟩ := hit; rw [← z, hot] at hoi; rw [← Option.some.inj hoi, hotc] at hci; exact absurd (Value.type.inj hci) (by decide)
    have hil : it < s.heap.objs.size := by obtain ⟨_, q, _⟩ := hit; exact Heap.lt_size q
    have hsz : i < its.toArray.size := by rw [List.size_toArray, ← rv.length]; exact hi
    refine wpAny_pyNext_enum_itemD (drawsT (by simp [I.ok.hd hc]) it a nai its.toArray) he ⟨hit, hT⟩ hsz hne (by simp [hne, nea]) fun x h' tk hx ho hst' hT' hsz' hk => ?_
    have hx' : its[i]? = some x := by simpa using hx
    refine ⟨_, rfl, wpAny_letOwnedTupleGo_enum (s := { s with heap := h', toks := tk + 1 }) ho fun h'' he' sb => ?_⟩
    have el : e < s.heap.objs.size := Heap.lt_size he
    have atT := (sb.2 _ (Nat.ne_of_gt el)).trans hT'
    obtain ⟨y, hy, ry⟩ : ∃ y, xs[i]? = some y ∧ RelV y x := by
      obtain ⟨u, hu, ru⟩ := rv.get (List.getElem?_eq_getElem hi)
      rw [hx'] at hu; cases hu
      exact ⟨_, List.getElem?_eq_getElem hi, ru⟩
    have new : ObjOk X.prog X.w (upd H s.heap.objs.size (.tup [.int (i : Nat), y])) h'' s.heap.objs.size (.tup [.int (i : Nat), y]) :=
      ⟨by show 2 ≤ sizeLine; decide, [.int i tk, x], .cons ⟨_, rfl⟩ (.cons ry .nil), ⟨_, atT, rfl, _, rfl⟩⟩
    have J : Inv X pins σ (upd H s.heap.objs.size (.tup [.int (i : Nat), y])) { s with heap := h'', toks := tk + 1 } :=
      I.turnedNew (ch := [e, it]) (fun b ob hb q => (sb.2 b (fun z => hb (by simp [z]))).trans (hk b ob (fun z => hb (by simp [z])) (fun z => hb (by simp [z])) q)) hf (Nat.le_refl _) new
    obtain ⟨⟨oi, hoi, ri⟩, _⟩ := hst'
    refine ⟨.ref s.heap.objs.size, _, J, rfl, ⟨_, y, rfl, I.hok.fresh (Nat.le_refl _), rfl, hy⟩, ⟨⟨x, ?_⟩, ⟨oi, (sb.2 it (Ne.symm hne)).trans hoi, ri⟩, hne⟩, fun b hb => ?_⟩
    · rw [show ((i + 1 : Nat) : Int) = (i : Int) + 1 by omega]; exact he'
    · have hb' : b < s.heap.objs.size := by rcases (by simpa using hb : b = e ∨ b = it) with rfl | rfl <;> assumption
      rw [upd_ne (Nat.ne_of_lt hb')]; exact (hf b hb).1
  done := by
    intro X hP hw hK hc i pins s σ H E I hf st hg
    subst hP hw hK
    obtain ⟨⟨old, he⟩, hit, hne⟩ := st; obtain ⟨hq, hi⟩ := hg
    obtain ⟨its, rv, ⟨ot, hot, hotc, nt, hotd⟩, hz⟩ := I.tuple hq
    have hl := rv.length; obtain ⟨f0, f1, f2, f3, f4, f5⟩ := hf it (by simp)
    unfold pyNext
    refine wpAny_bind (wpAny_attempt (wpAny_callSpecial?_slot (name := Str.ofString "__next__") ⟨_, he, rfl⟩ F.slot_enumerate_next (wpAny_call_entry F.slot_enumerate_next ⟨_, he, rfl⟩ F.entry_enumerate_next ?_ (F.args_enumerate_next_1 _))))
    show wpAny _ _ (field (.ref e) 2 >>= _) _ _ _
    refine wpAny_bind (wpAny_field he rfl (x := .ref it) rfl (wpAny_bind (nextT_end (by simp [I.ok.hd hc]) hit ⟨ot, hot, hotc, nt, hotd⟩ (by simp; omega) fun h' x eb hx' => ?_)))
    obtain ⟨o, ho, hcx⟩ := hx'
    refine wpAny_bind (wpAny_isInstance (T := "StopIteration") (b := true) ⟨o, ho, hcx⟩ isSubtype_stop ?_)
    exact wpAny_pure ⟨rfl, I.turned (t' := s.toks) (fun b o hb q => eb b o hb q) f0 f1 f3 f4 f5⟩
  self := fun A i s Q E st h => let ⟨⟨_, he⟩, _⟩ := st; wpAny_pyIter_enum he h
def iEnumT (K : PySem.W.Frag) (ta : TA) : TI := fun σ H R => ta σ H fun vs H1 => ∃ a xs, vs = [.ref a] ∧ SqT K H1 a xs ∧ R (IteT K a xs) H1
theorem pi_enumT {X : Cx} {e : Expr} {ta : TA} {p pos tpos : Pos} {elts : List Expr} {kk : Nat} (hg : Gl X "enumerate") (hm : X.mg "enumerate" = none) (ha : PA X [e] ta) (hs : starEach [e] X.env = [(false, eval e X.env)] := by rfl) :
    PI X (.Tuple elts kk tpos) (.Call (.Name "enumerate" p) [e] [] pos) (iEnumT X.K ta) := by
  refine ⟨fun pins s σ H R I h => ?_⟩
  refine Call_ (ld_blt I hg hm boot_enumerate (PyProof.Rows.callWith_type1 (thn (ha.run pos pins s σ H _ I h) fun us s1 ⟨vs, H1, I1, r1, q1⟩ => ?_) hs rfl))
  obtain ⟨a, xs, ex, hq, q⟩ := q1
  subst ex
  cases r1 with
  | cons r rr =>
  cases rr; cases r
  obtain ⟨its, rv, ⟨ot, hot, hotc, nt, hotd⟩, hz⟩ := I1.tuple hq
  refine call_enumT ⟨ot, hot, hotc, nt, hotd⟩ fun h' he hit hk => wpAny_pyIter_enum he ?_
  have I2 : Inv X pins σ H1 { s1 with heap := h' } := I1.kept (t' := s1.toks) hk
  refine ⟨s1.heap.objs.size + 1, [s1.heap.objs.size + 1, s1.heap.objs.size], _, _, H1, rfl, I2, turn_enumT a xs (s1.heap.objs.size + 1) s1.heap.objs.size, ⟨⟨.none, he⟩, hit, Nat.succ_ne_self _⟩, fun b hb => ?_, q⟩
  have hle : s1.heap.objs.size ≤ b := by rcases (by simpa using hb : b = s1.heap.objs.size + 1 ∨ b = s1.heap.objs.size) with rfl | rfl <;> omega
  exact I1.fpOk hle (I1.hok.fresh hle)
theorem walk_enumT {K : PySem.W.Frag} {a : Addr} {xs : List V} : Walk (IteT K a xs) xs.length (fun H => SqT K H a xs) (YPair (fun i => some (.int (i : Nat))) (fun i => xs[i]?)) := by
  refine ⟨fun i _ hi q => ⟨q, hi⟩, fun _ q => ⟨q, Nat.le_refl _⟩, fun i H v H' _ q y => ?_⟩
  obtain ⟨T, x, h1, h2, h3, h4⟩ := y
  exact ⟨T, .int (i : Nat), x, h1, h2, h3, rfl, h4⟩
end Lg

/-! sorted of pairs of an int and a text. -/
namespace Lg
open PySem PySem.Spec PyProof.Rows L2
abbrev IS := Int × Str
def lexPS (p q : IS) : Bool := if p.1 = q.1 then decide (p.2.cps.toList < q.2.cps.toList) else decide (p.1 < q.1)
theorem lexPS_iff {p q : IS} : lexPS p q = true ↔ p.1 < q.1 ∨ (p.1 = q.1 ∧ p.2.cps.toList < q.2.cps.toList) := by
  unfold lexPS
  by_cases e : p.1 = q.1
  · rw [if_pos e, decide_eq_true_eq]
    exact ⟨fun h => .inr ⟨e, h⟩, fun h => h.elim (fun z => absurd e (Int.ne_of_lt z)) (fun z => z.2)⟩
  · rw [if_neg e, decide_eq_true_eq]
    exact ⟨fun h => .inl h, fun h => h.elim id (fun z => absurd z.1 e)⟩
theorem lexPS_no {p q : IS} : lexPS p q = false ↔ ¬ (p.1 < q.1 ∨ (p.1 = q.1 ∧ p.2.cps.toList < q.2.cps.toList)) := by
  rw [← lexPS_iff]
  cases lexPS p q <;> simp
theorem swoPS {α : Type} (k : α → IS) : SrtO.Swo fun v u => lexPS (k v) (k u) := by
  refine ⟨fun x y h => ?_, fun x y z h1 h2 => ?_⟩
  · refine lexPS_no.mpr fun h' => ?_
    rcases lexPS_iff.mp h with a | ⟨a, a2⟩ <;> rcases h' with b | ⟨b, b2⟩
    · omega
    · omega
    · omega
    · exact List.lt_asymm a2 b2
  · have a := lexPS_no.mp h1
    have b := lexPS_no.mp h2
    refine lexPS_no.mpr fun h' => ?_
    by_cases e1 : (k y).1 = (k x).1
    · by_cases e2 : (k z).1 = (k y).1
      · rcases h' with h' | ⟨_, h'⟩
        · omega
        · have a2 : ¬ (k y).2.cps.toList < (k x).2.cps.toList := fun q => a (.inr ⟨e1, q⟩)
          have b2 : ¬ (k z).2.cps.toList < (k y).2.cps.toList := fun q => b (.inr ⟨e2, q⟩)
          exact absurd h' (List.not_lt.mpr (List.le_trans (List.not_lt.mp a2) (List.not_lt.mp b2)))
      · have : ¬ (k z).1 < (k y).1 := fun q => b (.inl q)
        rcases h' with h' | ⟨h', _⟩ <;> omega
    · have a1 : ¬ (k y).1 < (k x).1 := fun q => a (.inl q)
      have b1 : ¬ (k z).1 < (k y).1 := fun q => b (.inl q)
      rcases h' with h' | ⟨h', _⟩ <;> omega
/-- v is a pair of an int and a text -/
def IsPS (h : Heap) (v : Value) (x : Int) (y : Str) : Prop := ∃ a o t u n, v = .ref a ∧ h.get? a = some o ∧ o.cls = .type "tuple" ∧ o.data = .seq #[.int x t, .str y u] n
theorem IsPS.keeps {h h' : Heap} {v : Value} {x : Int} {y : Str} (p : IsPS h v x y) (k : ∀ b o, h.get? b = some o → o.cls = .type "tuple" → h'.get? b = some o) : IsPS h' v x y :=
  let ⟨a, o, t, u, n, e, ho, hc, hd⟩ := p
  ⟨a, o, t, u, n, e, k _ _ ho hc, hc, hd⟩
theorem firstsPS {h : Heap} : ∀ {vs : List Value}, (∀ v ∈ vs, ∃ x y, IsPS h v x y) → ∃ fs : List Value, PySem.W.KatTups h vs fs ∧ fs.length = vs.length ∧ ∀ f ∈ fs, ∃ x t, f = Value.int x t
  | [], _ => ⟨[], PySem.W.KatTups.nil, rfl, fun _ hm => by simp at hm⟩
  | v :: vs, hp => by
    obtain ⟨fs, h1, h2, h3⟩ := firstsPS (vs := vs) fun v' hm => hp v' (List.mem_cons_of_mem _ hm)
    obtain ⟨x, y, a, o, t, u, n, rfl, ho, hc, hd⟩ := hp v List.mem_cons_self
    refine ⟨.int x t :: fs, ?_, congrArg (· + 1) h2, fun f hm => ?_⟩
    · exact PySem.W.KatTups.cons ho hc hd rfl h1
    · rcases List.mem_cons.mp hm with rfl | hm
      · exact ⟨x, t, rfl⟩
      · exact h3 f hm
theorem str_ne {x y : Str} (h : ¬ x = y) : x.cps.toList ≠ y.cps.toList := fun e => h (by
  cases x; cases y
  exact congrArg Str.mk (Array.toList_inj.mp e))
section
variable {prog : Program} {w : World} {A : Around} {s : Shared}
theorem cmpPS {vs : List Value} {k : Value → IS} (hp : ∀ v ∈ vs, IsPS s.heap v (k v).1 (k v).2) :
    SrtO.Cmp prog w A s (tuples' true) (fun p => p.1 ∈ vs) (SrtO.lt2 fun v u => lexPS (k v) (k u)) := by
  intro p q hm hm'
  have h1 := hp _ hm
  have h2 := hp _ hm'
  show wpAny (model prog w) A (keyLt' (tuples' true) p.1 q.1) (fun r s' => s' = s ∧ r = lexPS (k p.1) (k q.1)) (fun _ _ => False) s
  generalize k p.1 = kp at h1 ⊢
  generalize k q.1 = kq at h2 ⊢
  obtain ⟨x, y⟩ := kp
  obtain ⟨x', y'⟩ := kq
  obtain ⟨a, o, t, u, n, e, ho, hc, hd⟩ := h1
  obtain ⟨a', o', t', u', n', e', ho', hc', hd'⟩ := h2
  rw [e, e']
  refine PySem.W.kat_lt ho hd ho' hd' ?_
  show PySem.W.KatLex prog w A true (decide (2 < 2)) _ [(.int x t, .int x' t'), (.str y u, .str y' u')] 0 s
  refine PySem.W.kat_cons (wpAny_eqBool_int ?_)
  refine PySem.W.kat_go (fun e1 => ?_) (fun e1 => ?_)
  · have ex : x = x' := by simpa using e1
    subst ex
    refine PySem.W.kat_yes (PySem.W.kat_cons (wpAny_eqBool_str ?_))
    refine PySem.W.kat_go (fun e2 => ?_) (fun e2 => ?_)
    · have ey : y = y' := of_decide_eq_true e2
      subst ey
      refine PySem.W.kat_yes (PySem.W.kat_nil ⟨rfl, (lexPS_no.mpr fun h => ?_).symm⟩)
      rcases h with h | ⟨_, h⟩
      · exact absurd h (Int.lt_irrefl _)
      · exact List.lt_irrefl _ h
    · refine PySem.W.kat_no (PyProof.Rows.oneLt_any_str ⟨rfl, ?_⟩)
      simp [lexPS]
  · have ex : ¬ x = x' := by simpa using e1
    refine PySem.W.kat_no (PyProof.Rows.oneLt_any_int ⟨rfl, ?_⟩)
    simp [lexPS, ex]
theorem sortablePS {a : Addr} {vs : List Value} {k : Value → IS} (h0 : 0 < vs.length) (hp : ∀ v ∈ vs, IsPS s.heap v (k v).1 (k v).2)
    (ha : ∀ o, s.heap.get? a = some o → o.cls ≠ .type "tuple") : SrtO.SortableO prog w A s a vs fun v u => lexPS (k v) (k u) := by
  intro h' keep
  have hp' : ∀ v ∈ vs, IsPS h' v (k v).1 (k v).2 := fun v hm => (hp v hm).keeps fun b o e c => keep b o (fun z => by subst z; exact ha o e c) e
  obtain ⟨fs, h1, h2, h3⟩ := firstsPS fun v hm => ⟨_, _, hp' v hm⟩
  refine ⟨tuples' true, fun Q E hq => ?_, cmpPS hp'⟩
  refine PySem.W.kat_kind (T := .type "int") h1 (by omega) (fun f hm => ?_) (by rfl) ?_
  · obtain ⟨x, t, rfl⟩ := h3 f hm
    exact PySem.W.Looks.now
  · rw [show (Value.type "int" != Value.type "tuple") = true from by first | decide +kernel | rfl]
    exact hq
end
section
variable {X : Cx}
/-- x before y: by the int, then by the text -/
abbrev ltPS (k : V → IS) (x y : V) : Bool := lexPS (k x) (k y)
/-- sorted(xs) of pairs of an int and a text: a new list, sorted, equal ones in their order -/
def rSortedPS (K : PySem.W.Frag) : List V → Hp → VK → Prop := fun vs H Q => ∃ (a : Addr) (xs : List V) (k : V → IS), vs = [V.ref a] ∧ SqL K H a xs ∧
  (∀ x ∈ xs, ∃ t, x = V.ref t ∧ H t = some (.tup [.int (k x).1, .str (k x).2])) ∧
  ∀ ys p, SrtO.Srtd (ltPS k) ys → SrtO.Stb (ltPS k) ys xs → H p = none → Q (.ref p) (upd H p (.lst ys))
theorem cr_sortedPS : CallR X (.builtin "sorted") (rSortedPS X.K) := by
  intro pins s σ H vs us Q I r h
  obtain ⟨a, xs, k, rfl, hs, hx, q⟩ := h
  obtain ⟨its, rv, hl, hz⟩ := I.list hs
  obtain ⟨u, rfl, ru⟩ := vals1 r
  obtain rfl : u = Value.ref a := ru
  obtain ⟨e1, e2⟩ := refs_back rv fun x m => let ⟨t, e, _⟩ := hx x m; ⟨t, e⟩
  have hp : ∀ v ∈ its, IsPS s.heap v (k (backV v)).1 (k (backV v)).2 := fun v hv => by
    obtain ⟨t, rfl⟩ := e2 v hv
    have hm : V.ref t ∈ xs := by rw [e1]; exact List.mem_map.mpr ⟨_, hv, rfl⟩
    obtain ⟨t', e, ht⟩ := hx _ hm
    cases e
    obtain ⟨_, its2, r2, o, ho, hc, n, hd⟩ := I.hok _ _ ht
    obtain ⟨u1, u2, rfl, ri, rj⟩ := vals2 r2
    obtain ⟨t1, rfl⟩ := ri
    obtain ⟨t2, rfl⟩ := rj
    exact ⟨t, o, t1, t2, n, rfl, ho, hc, hd⟩
  refine SrtO.sorted_ord (swoPS fun v => k (backV v)) hl.isList (by rw [← rv.length]; exact hz) (fun h2 h₁ b hb kk => ?_) fun out h1 h2 => ?_
  · refine sortablePS (s := { s with heap := h₁ }) (by omega) (fun v hm => (hp v hm).keeps fun c o e _ => (kk c o e).2) fun o e => ?_
    cases (show some o = some (seqObj "list" its.toArray 0) from e.symm.trans hb)
    exact fun c => absurd (Value.type.inj c) (by decide)
  · have h3 : ∀ u ∈ out, ∃ a, u = Value.ref a := fun u hu => e2 u (h2.perm.mem_iff.mp hu)
    have hb : SrtO.Stb (ltPS k) (out.map backV) xs := by
      rw [e1]
      exact SrtO.Stb.map (swoPS k) backV h2
    obtain ⟨n, hn⟩ := sortedAll_at s.heap its out.toArray
    refine ⟨.ref _, upd H _ (.lst (out.map backV)), I.laid (t' := s.toks) (fun b o e => sortedAll_old e) (Nat.le_succ _) ⟨?_, out, n, vals_back h3, hn⟩, rfl, q _ _ (SrtO.srtd_map h1) hb (I.hok.fresh (Nat.le_succ _))⟩
    rw [hb.len]
    exact hz
end
end Lg

/-! Rules for the nets' program. -/
namespace Lg
open PySem PySem.Spec PyProof.Rows L2
section
/-- set(xs), a list of ints -/
def rSetL (K : PySem.W.Frag) (w : World) : List V → Hp → VK → Prop := fun xs H Q => ∃ (l : Addr) (ns : List Int), xs = [V.ref l] ∧ SqL K H l (ns.map V.int) ∧ ns.length ≤ 1000 ∧
  ∀ a (L : List Int), H a = none → L.Nodup → (∀ k, k ∈ L ↔ k ∈ ns) → Q (.ref a) (upd H a (SetO w a (fun j => decide (j ∈ ns)) L.length))
theorem cr_setL {X : Cx} (hc : X.calm = true) : CallR X (.type "set") (rSetL X.K X.w) := by
  intro pins s σ H xs us Q I r h
  obtain ⟨l, ns, rfl, hl, hf, q⟩ := h
  rw [Vals.ref1 r]
  obtain ⟨its, rv, pl, hz⟩ := I.list hl
  have hn : H s.heap.objs.size = none := I.hok.fresh (Nat.le_refl _)
  refine call_set_listR ns (I.ok.hd hc) pl.isList (by simpa using rv.ints) (by unfold scanBound; omega) fun h' tk c R hc' k => ?_
  refine ⟨.ref s.heap.objs.size, upd H s.heap.objs.size (SetO X.w s.heap.objs.size (fun j => decide (j ∈ ns)) c), I.laid (t' := tk) k (Nat.le_refl _) (setO_new R), rfl, ?_⟩
  obtain ⟨o, es, ep, t, _, _, _, _, nd, mem, _, _, hc, _⟩ := R
  have e : (es.toList.map keyOf).length = c := by rw [List.length_map, Array.length_toList, hc]
  rw [← e]
  exact q _ _ hn nd fun k => by rw [← mem k, decide_eq_true_eq]
end
/-! ### a written table with text keys, walked -/
/-- at d stands a dict of the top whose keys are the texts ks, in this order -/
structure KTab (K : PySem.W.Frag) (w : World) (d : Addr) (ks : List Str) : Prop where
  ex : ∃ es n, K.lookup d = some ⟨.type "dict", none, .dict es n, #[]⟩ ∧ es.toList.map He.keyOf = He.keysIn w.params ks
  low : (d == sysModules) = false
  nd : ks.Nodup
theorem ktab_pairs {P : Program} {w : World} : ∀ {l : List DictEntry} {ks : List Str}, l.map He.keyOf = He.keysIn w.params ks →
    (∀ e ∈ l, ∃ k, (PySem.strKind P w).is k e.key = true ∧ e.hash = (PySem.strKind P w).hash k) ∧ PySem.Pairs (PySem.strKind P w) l (ks.zip (l.map (·.val)))
  | [], [], _ => ⟨(fun e he => nomatch he), .nil⟩
  | [], _ :: _, h => by cases h
  | _ :: _, [], h => by cases h
  | e :: r, k :: ks, h => by
    injection (show He.keyOf e :: r.map He.keyOf = some (k, PyData.keyHash w.params k) :: He.keysIn w.params ks from h) with h2 h3
    obtain ⟨i1, i2⟩ := ktab_pairs (P := P) (w := w) h3
    unfold He.keyOf at h2
    split at h2
    · rename_i x t q
      obtain ⟨h5, h6⟩ := Prod.mk.inj (Option.some.inj h2)
      have hk : (PySem.strKind P w).is k e.key = true := by rw [q, h5]; exact PySem.strKind_is P w k t
      refine ⟨fun e' he' => ?_, .cons hk rfl i2⟩
      rcases List.mem_cons.mp he' with rfl | he'
      · exact ⟨k, hk, h6⟩
      · exact i1 e' he'
    · cases h2
def ItkS (ks : List Str) : It := ⟨fun i _ => i < ks.length, fun i H x H' => H' = H ∧ ∃ k, ks[i]? = some k ∧ x = .str k, fun i _ => ks.length ≤ i⟩
theorem walk_keysS {ks : List Str} : Walk (ItkS ks) ks.length (fun _ => True) (fun i H x H' => H' = H ∧ ∃ k, ks[i]? = some k ∧ x = .str k) := ⟨fun _ _ hi _ => hi, fun _ _ => Nat.le_refl _, fun _ _ _ _ _ _ y => y⟩
section
variable {X : Cx} {pins : List (Addr × Obj)} {σ : L2.St} {H : Hp} {s : Shared}
theorem KTab.at_ {d : Addr} {ks : List Str} (D : KTab X.K X.w d ks) (I : Inv X pins σ H s) : ∃ (o : Obj) (es : Array DictEntry) (n : Nat) (kvs : List (Str × Value)), s.heap.get? d = some o ∧ o.ExactDict ∧ o.data = .dict es n ∧ es.size = ks.length ∧ kvs.map (·.1) = ks ∧ s.heap.DictAt (PySem.strKind X.prog X.w) d kvs n ∧ X.K.lookup d = some ⟨.type "dict", none, .dict es n, #[]⟩ := by
  obtain ⟨es, n, hk, hm⟩ := D.ex
  have hd := I.kIn d _ hk
  obtain ⟨h1, h2⟩ := ktab_pairs (P := X.prog) hm
  have hl : es.toList.length = ks.length := by
    have q := congrArg List.length hm
    unfold He.keysIn at q
    rw [List.length_map, List.length_map] at q
    exact q
  have e1 : (ks.zip (es.toList.map (·.val))).map (·.1) = ks := by
    rw [List.map_fst_zip (by rw [List.length_map]; omega)]
  exact ⟨_, es, n, ks.zip (es.toList.map (·.val)), hd, ⟨rfl, rfl, rfl⟩, rfl, by rw [← Array.length_toList]; exact hl, e1, ⟨_, es, hd, ⟨rfl, rfl, rfl⟩, rfl, fun e he => h1 e (Array.mem_toList_iff.mpr he), h2, by rw [e1]; exact D.nd⟩, hk⟩
theorem turn_keysS {P : Program} {w : World} {K : PySem.W.Frag} {tg : Expr} {d it : Addr} {ks : List Str} {es0 : Array DictEntry} {n0 : Nat} (D : KTab K w d ks) (h0 : K.lookup d = some ⟨.type "dict", none, .dict es0 n0, #[]⟩) :
    Turn P w K tg (ItkS ks) [it] it (fun i h => h.IsKeyIter it d i ks.length n0) where
  mem := by simp
  obj := fun i h ⟨oi, e, c, dd⟩ b hb => by
    obtain rfl : b = it := by simpa using hb
    exact ⟨oi, e, fun v z => by rw [dd] at z; cases z⟩
  keep := fun i h h' st k => st.at fun oi e => k it (by simp) oi e
  item := by
    intro X hP hw hK hc i pins s σ H E I hf st hi
    subst hP hw hK
    obtain ⟨f0, f1, f2, f3, f4, f5⟩ := hf it (by simp)
    obtain ⟨o, es, n, kvs, ho, hx, hdt, hsz, hks, hat, hlk⟩ := D.at_ I
    rw [h0] at hlk
    obtain rfl : n0 = n := by injection hlk with q; injection q with _ _ q _; injection q
    have hl : ks.length = kvs.length := by rw [← hks, List.length_map]
    have hi' : i < kvs.length := by rw [← hl]; exact hi
    have st2 : s.heap.IsKeyIter it d i kvs.length n0 := by rw [← hl]; exact st
    obtain ⟨⟨k, v⟩, hkv⟩ : ∃ p, kvs[i]? = some p := ⟨kvs[i], List.getElem?_eq_getElem hi'⟩
    refine wpAny_pyNext_dict_item st2 hat hkv fun key h' hkey st' sb => ?_
    have I1 : Inv X pins σ H { s with heap := h' } := I.turned (t' := s.toks) (fun b ob hb e => (sb.2 b hb).trans e) f0 f1 f3 f4 f5
    obtain ⟨oi, e, c, dd⟩ := id st'
    have hkk : ks[i]? = some k := by rw [← hks, List.getElem?_map, hkv]; rfl
    obtain ⟨t, rfl⟩ := Value.isStrOf_shape (show Value.isStrOf k key = true from hkey)
    refine ⟨_, rfl, go_of (s := { s with heap := h' }) e c dd (by decide) ⟨.str k, H, I1, ⟨t, rfl⟩, ⟨rfl, k, hkk, rfl⟩, ?_, fun b hb => (hf b hb).1⟩⟩
    show h'.IsKeyIter it d (i + 1) ks.length _
    rw [hl]
    exact st'
  done := by
    intro X hP hw hK hc i pins s σ H E I hf st hi
    subst hP hw hK
    obtain ⟨f0, f1, f2, f3, f4, f5⟩ := hf it (by simp)
    obtain ⟨o, es, n, kvs, ho, hx, hdt, hsz, hks, hat, hlk⟩ := D.at_ I
    rw [h0] at hlk
    obtain rfl : n0 = n := by injection hlk with q; injection q with _ _ q _; injection q
    exact next_key_end (I.ok.hd hc) st ho hdt hsz hi fun h' eb => ⟨rfl, I.turned (t' := s.toks) (fun b o hb e => eb b o hb e) f0 f1 f3 f4 f5⟩
  self := fun A i s Q E st h => wpAny_pyIter_keyiter st h
def iKeysS (d : Addr) (ks : List Str) (td : TE) : TI := fun σ H R => td σ H fun x H1 => x = .ref d ∧ R (ItkS ks) H1
theorem pi_keysS {tg e : Expr} {td : TE} {d : Addr} {ks : List Str} (D : KTab X.K X.w d ks) (he : PE X e td) : PI X tg e (iKeysS d ks td) := by
  refine ⟨fun pins s σ H R I h => thn (he.run pins s σ H _ I h) fun u s1 ⟨x, H1, I1, rx, ex, q⟩ => ?_⟩
  subst ex
  obtain rfl : u = Value.ref d := rx
  obtain ⟨o, es, n, kvs, ho, hx, hdt, hsz, hks, hat, hlk⟩ := D.at_ I1
  refine iter_keys D.low ho hx hdt (pi_one (tk := s1.toks) I1 _ (turn_keysS D hlk) ⟨_, Heap.get?_push_size _ rfl, rfl, ?_⟩ q)
  rw [hsz] <;> rfl
/-! ### x in t, a tuple of data -/
theorem op_inDT (hu : X.A.units + 65 < cLine) : OpR X (compareOp .In) (fun x y H Q => ∃ d ds, Dp X.K H x d ∧ Dp X.K H y (.tuple ds) ∧ SeqAt.shaped d = true ∧ SeqAt.shaped (.tuple ds) = true ∧ Q (.bl (ds.any fun z => PyData.eqv z d)) H) := by
  intro pins s σ H x y v u Q I rx ry ⟨d, ds, hd, he, sd, se, q⟩
  obtain ⟨as, r1⟩ := Dp.reads I d x v hd rx
  obtain ⟨bs, r2⟩ := Dp.reads I (.tuple ds) y u he ry
  exact SeqAt.in_tuple_reads r2 r1 (SeqAt.canLay_of_shaped se) (SeqAt.canLay_of_shaped sd) (room_in_shaped sd hu) ⟨.bl _, H, I, rfl, q⟩
theorem op_notInDT (hu : X.A.units + 65 < cLine) : OpR X (compareOp .NotIn) (fun x y H Q => ∃ d ds, Dp X.K H x d ∧ Dp X.K H y (.tuple ds) ∧ SeqAt.shaped d = true ∧ SeqAt.shaped (.tuple ds) = true ∧ Q (.bl (!ds.any fun z => PyData.eqv z d)) H) := by
  intro pins s σ H x y v u Q I rx ry ⟨d, ds, hd, he, sd, se, q⟩
  obtain ⟨as, r1⟩ := Dp.reads I d x v hd rx
  obtain ⟨bs, r2⟩ := Dp.reads I (.tuple ds) y u he ry
  exact SeqAt.notIn_tuple_reads r2 r1 (SeqAt.canLay_of_shaped se) (SeqAt.canLay_of_shaped sd) (room_in_shaped sd hu) ⟨.bl _, H, I, rfl, q⟩
end
end Lg

/-! What the nets' functions answer, as maths. -/
namespace Lg
open PySem PySem.Spec PyProof.Rows L2
/-- a pair as a target; K is told, so that it may stand in a comprehension -/
theorem pg_pairK {X : Cx} (K : PySem.W.Frag) {e1 e2 : Expr} {t1 t2 : TG} {k : Nat} {pos : Pos} (hK : X.K = K) (hc : X.calm = true) (h1 : PG X e1 t1) (h2 : PG X e2 t2)
    (hn : (assignEach [e1, e2] X.env).length = 2) (hst : (assignEach [e1, e2] X.env).findIdx? (·.1) = none)
    (hs : (assignEach [e1, e2] X.env).map (·.2) = assign e1 X.env :: (assignEach [e2] X.env).map (·.2)) (hs2 : (assignEach [e2] X.env).map (·.2) = assign e2 X.env :: (assignEach [] X.env).map (·.2)) :
    PG X (.Tuple [e1, e2] k pos) (gTup K 2 (gCons t1 (gCons t2 gNil))) := by
  subst hK
  exact pg_tup hc (pgs_cons h1 (pgs_cons h2 pgs_nil hs2) hs) hn hst
theorem ix_tupK {X : Cx} (K : PySem.W.Frag) (hK : X.K = K) : IxR X (rIxT K) := hK ▸ ix_tup
theorem ix_listK {X : Cx} (K : PySem.W.Frag) (hK : X.K = K) : IxR X (rIxL K) := hK ▸ ix_list
theorem ix_seqK {X : Cx} (K : PySem.W.Frag) (hK : X.K = K) : IxR X (rIx K) := hK ▸ ix_seq
theorem op_in_seqK {X : Cx} (K : PySem.W.Frag) (hK : X.K = K) : OpR X (compareOp .In) (rIn K false) := hK ▸ op_in_seq
theorem op_notIn_seqK {X : Cx} (K : PySem.W.Frag) (hK : X.K = K) : OpR X (compareOp .NotIn) (rIn K true) := hK ▸ op_notIn_seq
theorem sl_listK {X : Cx} (K : PySem.W.Frag) (hK : X.K = K) : SlR X (rSlL K) := hK ▸ sl_list
theorem u65 {k : Nat} {A : Around} (r : Room k A) : A.units + 65 < cLine := by have := r.un; omega
theorem u1 {k : Nat} {A : Around} (r : Room k A) : A.units + 1 < cLine := by have := r.un; omega
theorem op_inDK {X : Cx} (K : PySem.W.Frag) (hK : X.K = K) (hu : X.A.units + 65 < cLine) : OpR X (compareOp .In) (rInD K) := hK ▸ op_inD hu
def rLen (K : PySem.W.Frag) : List V → Hp → VK → Prop := fun xs H Q => ∃ p ys, xs = [.ref p] ∧ (SqL K H p ys ∨ SqT K H p ys) ∧ Q (.int ys.length) H
theorem call_len_seqK {X : Cx} (K : PySem.W.Frag) (hK : X.K = K) : CallR X (.builtin "len") (rLen K) := hK ▸ call_len_seq
def tTru (K : PySem.W.Frag) (ta : TE) : TT := fun σ H Q => ta σ H fun x H' => ∃ k, TruV K x H' k ∧ Q k H'
theorem pt_tru {X : Cx} {a : Expr} {ta : TE} (K : PySem.W.Frag) (hK : X.K = K) (ha : PE X a ta) (he : ∀ whole, isTrue a X.env whole = (do let v ← whole; standAt a.pos; holding [v] (truthy v))) : PT X a (tTru K ta) := hK ▸ pt_truth ha he
theorem pi_listK {X : Cx} {tg l : Expr} {tl : TE} (K : PySem.W.Frag) (hK : X.K = K) (hl : PE X l tl) : PI X tg l (iList K tl) := hK ▸ pi_list hl
theorem pi_tupK {X : Cx} {tg l : Expr} {tl : TE} (K : PySem.W.Frag) (hK : X.K = K) (hl : PE X l tl) : PI X tg l (iTup K tl) := hK ▸ pi_tup hl
theorem pe_notTK {X : Cx} {a : Expr} {ta : TE} {pos : Pos} (K : PySem.W.Frag) (hK : X.K = K) (ha : PE X a ta) : PE X (.UnaryOp .Not a pos) (tNotT K ta) := hK ▸ pe_notT ha
theorem pe_fldK {X : Cx} {e : Expr} {ta : TE} {f : Str} {pos : Pos} (K : PySem.W.Frag) (hK : X.K = K) (he : PE X e ta) (hb : attributeBase e f X.env (eval e X.env) = eval e X.env) : PE X (.Attribute e f pos) (tFld K ta f) := hK ▸ pe_fld he hb
def placeD : PyData → Bool
  | .int i => decide (0 ≤ i) && decide (i ≤ 9999)
  | _ => false
def pairD : PyData → Bool
  | .tuple [a, b] => placeD a && placeD b
  | _ => false
def isStrD : PyData → Bool
  | .str _ => true
  | _ => false
def labD : PyData → Bool
  | .tuple [a, b] => placeD a && isStrD b
  | _ => false
theorem isStrD_eq (d : PyData) : isD "str" d = isStrD d := by cases d <;> rfl
theorem two_or {S : Av} {H : Hp} {xs : List V} {ds : List PyData} (h : DaAll S H xs ds) :
    (∃ x y a b, xs = [x, y] ∧ ds = [a, b] ∧ Da S H x a ∧ Da S H y b) ∨ (decide (V.int (xs.length : Int) = V.int 2) = false ∧ ∀ a b, ds ≠ [a, b]) := by
  match xs, ds, h with
  | [], [], _ => exact .inr ⟨by decide, fun _ _ e => nomatch e⟩
  | [_], [_], _ => exact .inr ⟨decide_eq_false fun e => absurd (V.int.inj e) (show ¬ (1 : Int) = 2 by decide), fun _ _ e => nomatch e⟩
  | [x, y], [a, b], .cons h1 (.cons h2 .nil) => exact .inl ⟨x, y, a, b, rfl, rfl, h1, h2⟩
  | _ :: _ :: _ :: r, _ :: _ :: _ :: _, _ =>
    refine .inr ⟨decide_eq_false fun e => ?_, fun _ _ e => nomatch e⟩
    have := V.int.inj e
    simp only [List.length_cons] at this
    omega
theorem pairD_no {ds : List PyData} (h : ∀ a b, ds ≠ [a, b]) : pairD (.tuple ds) = false := by
  match ds, h with
  | [], _ => rfl
  | [_], _ => rfl
  | [a, b], h => exact absurd rfl (h a b)
  | _ :: _ :: _ :: _, _ => rfl
theorem labD_no {ds : List PyData} (h : ∀ a b, ds ≠ [a, b]) : labD (.tuple ds) = false := by
  match ds, h with
  | [], _ => rfl
  | [_], _ => rfl
  | [a, b], h => exact absurd rfl (h a b)
  | _ :: _ :: _ :: _, _ => rfl
/-- the places in the list at which p holds -/
def atB {α : Type} (p : α → Bool) (l : List α) : List Nat := (List.range l.length).filter fun i => (l[i]?).any p
theorem flt_succ {p : Nat → Bool} {n : Nat} : (List.range (n + 1)).filter p = (List.range n).filter p ++ (if p n = true then [n] else []) := by
  rw [List.range_succ, List.filter_append]
  cases h : p n <;> simp [h]
theorem flt_le {p : Nat → Bool} {n : Nat} : ((List.range n).filter p).length ≤ n := Nat.le_trans (List.length_filter_le _ _) (by rw [List.length_range]; exact Nat.le_refl _)
/-- a comprehension that only makes new things: of each turn i its y i, if p i -/
theorem lc_flt {J : It} {n : Nat} {G : Hp → Prop} {Y : Nat → Hp → V → Hp → Prop} (w : Walk J n G Y) {g : TG} {tt : TT} {te : TE} {vs : List Nat} {σ : L2.St} {H : Hp} {Q : VK} (p : Nat → Bool) (y : Nat → V) (hn : n < sizeLine)
    (hG : ∀ H', Same H H' → G H')
    (hs : ∀ i x H1 H2 (N : Hp → Prop) (A : VK), i < n → Same H H1 → Y i H1 x H2 → (∀ H4, Same H1 H4 → p i = false → N H4) → (∀ H5, Same H1 H5 → p i = true → A (y i) H5) →
      g x (wipe σ vs) H2 fun σ2 H3 => wipe σ2 vs = wipe σ vs ∧ tt σ2 H3 fun b H4 => if b = true then te σ2 H4 A else N H4)
    (hd : ∀ D H', H D = none → Same H H' → H' D = some (.lst (((List.range n).filter p).map y)) → Q (.ref D) H') : tLc (fun _ H R => R J H) g tt te vs σ H Q := by
  intro D nD
  refine lc_it w (fun i H' => Same H H' ∧ H' D = some (.lst (((List.range i).filter p).map y))) ⟨same_new (Same.refl H) nD, upd_same⟩ (fun i H' _ hp => hG H' hp.1) ?_ (fun H' hp => hd D H' nD hp.1 hp.2)
  rintro i x H1 H2 hi ⟨sm, eD⟩ hy
  refine hs i x H1 H2 _ _ hi sm hy (fun H4 h4 h3 => ⟨fun b o e => h4 _ _ (sm _ _ e), ?_⟩) (fun H5 h7 h3 => ⟨_, h7 _ _ eD, ?_, fun b o e => ?_, ?_⟩)
  · rw [flt_succ, if_neg (by rw [h3]; decide), List.append_nil]
    exact h4 _ _ eD
  · rw [List.length_map]
    exact Nat.lt_of_le_of_lt flt_le (Nat.lt_trans hi hn)
  · rw [upd_ne (ne_of_none e nD)]
    exact h7 _ _ (sm _ _ e)
  · rw [upd_same, flt_succ, if_pos h3, List.map_append]
    rfl
/-- all of a list, by its places -/
theorem atB_range {α : Type} (p : α → Bool) (l : List α) : atB p l = (List.range l.length).filter fun i => (l[i]?).any p := rfl
/-! ### arrows and leaves as data -/
abbrev pd (p : Int × Int) : PyData := .tuple [.int p.1, .int p.2]
abbrev ld (p : Int × Str) : PyData := .tuple [.int p.1, .str p.2]
theorem Da.intV {S : Av} {H : Hp} {v : V} {i : Int} (h : Da S H v (.int i)) : v = .int i := by cases h; rfl
theorem Da.strV {S : Av} {H : Hp} {v : V} {i : Str} (h : Da S H v (.str i)) : v = .str i := by cases h; rfl
theorem Da.pd {S : Av} {H : Hp} {v : V} {p : Int × Int} (h : Da S H v (pd p)) : ∃ t, v = .ref t ∧ ¬ S t ∧ H t = some (.tup [.int p.1, .int p.2]) := by
  cases h with
  | tup n e r =>
    cases r with
    | cons h1 r =>
      cases r with
      | cons h2 r =>
        cases r
        rw [h1.intV, h2.intV] at e
        exact ⟨_, rfl, n, e⟩
theorem Da.ld {S : Av} {H : Hp} {v : V} {p : Int × Str} (h : Da S H v (ld p)) : ∃ t, v = .ref t ∧ ¬ S t ∧ H t = some (.tup [.int p.1, .str p.2]) := by
  cases h with
  | tup n e r =>
    cases r with
    | cons h1 r =>
      cases r with
      | cons h2 r =>
        cases r
        rw [h1.intV, h2.strV] at e
        exact ⟨_, rfl, n, e⟩
theorem Da.list {S : Av} {H : Hp} {v : V} {ds : List PyData} (h : Da S H v (.list ds)) : ∃ a xs, v = .ref a ∧ ¬ S a ∧ H a = some (.lst xs) ∧ DaAll S H xs ds := by
  cases h with
  | lst n e r => exact ⟨_, _, rfl, n, e, r⟩
theorem DaAll.pd {S : Av} {H : Hp} {xs : List V} {As : List (Int × Int)} (h : DaAll S H xs (As.map Lg.pd)) {i : Nat} {v : V} (e : xs[i]? = some v) :
    ∃ p t, As[i]? = some p ∧ v = .ref t ∧ ¬ S t ∧ H t = some (.tup [.int p.1, .int p.2]) := by
  obtain ⟨d, e2, hd⟩ := h.get e
  rw [List.getElem?_map] at e2
  obtain ⟨p, e3, rfl⟩ := Option.map_eq_some_iff.mp e2
  obtain ⟨t, h1, h2, h3⟩ := hd.pd
  exact ⟨p, t, e3, h1, h2, h3⟩
theorem DaAll.ld {S : Av} {H : Hp} {xs : List V} {Ls : List (Int × Str)} (h : DaAll S H xs (Ls.map Lg.ld)) {i : Nat} {v : V} (e : xs[i]? = some v) :
    ∃ p t, Ls[i]? = some p ∧ v = .ref t ∧ ¬ S t ∧ H t = some (.tup [.int p.1, .str p.2]) := by
  obtain ⟨d, e2, hd⟩ := h.get e
  rw [List.getElem?_map] at e2
  obtain ⟨p, e3, rfl⟩ := Option.map_eq_some_iff.mp e2
  obtain ⟨t, h1, h2, h3⟩ := hd.ld
  exact ⟨p, t, e3, h1, h2, h3⟩
theorem DaAll.ldS {S : Av} {H H' : Hp} {xs : List V} {Ls : List (Int × Str)} (h : DaAll S H xs (Ls.map Lg.ld)) (sm : Same H H') {i : Nat} {v : V} (e : xs[i]? = some v) :
    ∃ p t, Ls[i]? = some p ∧ v = .ref t ∧ ¬ S t ∧ H' t = some (.tup [.int p.1, .str p.2]) := let ⟨p, t, a, b, c, d⟩ := h.ld e; ⟨p, t, a, b, c, sm _ _ d⟩
theorem DaAll.pdS {S : Av} {H H' : Hp} {xs : List V} {Ls : List (Int × Int)} (h : DaAll S H xs (Ls.map Lg.pd)) (sm : Same H H') {i : Nat} {v : V} (e : xs[i]? = some v) :
    ∃ p t, Ls[i]? = some p ∧ v = .ref t ∧ ¬ S t ∧ H' t = some (.tup [.int p.1, .int p.2]) := let ⟨p, t, a, b, c, d⟩ := h.pd e; ⟨p, t, a, b, c, sm _ _ d⟩
/-- indexes as a list of a heap -/
abbrev ixs (l : List Nat) : HO := .lst (l.map fun i : Nat => V.int i)
mutual
theorem Da.dp {K : PySem.W.Frag} {S : Av} {H : Hp} : ∀ {v : V} {d : PyData}, Da S H v d → Dp K H v d
  | _, _, .non => .non
  | _, _, .bl b => .bl b
  | _, _, .int i => .int i
  | _, _, .str x => .str x
  | _, _, .lst _ e r => .lst (.of e) (DaAll.dp r)
  | _, _, .tup _ e r => .tup (.of e) (DaAll.dp r)
theorem DaAll.dp {K : PySem.W.Frag} {S : Av} {H : Hp} : ∀ {vs : List V} {ds : List PyData}, DaAll S H vs ds → DpAll K H vs ds
  | _, _, .nil => .nil
  | _, _, .cons a r => .cons (Da.dp a) (DaAll.dp r)
end
theorem cutV_take (xs : List V) (i : Nat) : cutV xs none (some (i : Int)) = xs.take i := by
  unfold cutV
  rw [HT.sIx_none, HT.sIx_nat, List.drop_zero, Nat.sub_zero]
  by_cases h : i ≤ xs.length
  · rw [Nat.min_eq_left h]
  · rw [Nat.min_eq_right (by omega), List.take_of_length_le (Nat.le_refl _), List.take_of_length_le (by omega)]
theorem depth_map {α : Type} (f : α → PyData) (n : Nat) : ∀ {l : List α}, (∀ a ∈ l, (f a).depth ≤ n) → PyData.depthAll (l.map f) ≤ n
  | [], _ => Nat.zero_le _
  | a :: l, h => Nat.max_le.mpr ⟨h a List.mem_cons_self, depth_map f n fun b hb => h b (List.mem_cons_of_mem _ hb)⟩
theorem lay_map {α : Type} (f : α → PyData) : ∀ {l : List α}, (∀ a ∈ l, (f a).canLay0 = true) → PyData.canLayAll0 (l.map f) = true
  | [], _ => rfl
  | a :: l, h => Bool.and_eq_true_iff.mpr ⟨h a List.mem_cons_self, lay_map f fun b hb => h b (List.mem_cons_of_mem _ hb)⟩
theorem pd_depth (p : Int × Int) : (pd p).depth = 1 := rfl
theorem shaped_pd (p : Int × Int) : SeqAt.shaped (pd p) = true := rfl
theorem shaped_pds (As : List (Int × Int)) : SeqAt.shaped (.list (As.map pd)) = true := by
  refine Bool.and_eq_true_iff.mpr ⟨lay_map pd fun p _ => rfl, decide_eq_true ?_⟩
  exact Nat.le_trans (Nat.succ_le_succ (depth_map pd 1 fun p _ => Nat.le_of_eq (pd_depth p))) (by decide)
theorem eqv_pd (p q : Int × Int) : PyData.eqv (pd p) (pd q) = decide (p = q) := by
  obtain ⟨a, b⟩ := p
  obtain ⟨c, d⟩ := q
  show PyData.eqvAll [.int a, .int b] [.int c, .int d] = _
  simp [PyData.eqvAll, PyData.eqv, Prod.mk.injEq, BEq.beq]
theorem any_pd (p : Int × Int) (l : List (Int × Int)) : ((l.map pd).any fun z => PyData.eqv z (pd p)) = decide (p ∈ l) := by
  rw [List.any_map, Bool.eq_iff_iff, List.any_eq_true, decide_eq_true_eq]
  constructor
  · rintro ⟨q, hq, h⟩
    rw [Function.comp, eqv_pd, decide_eq_true_eq] at h
    exact h ▸ hq
  · intro h
    exact ⟨p, h, by rw [Function.comp, eqv_pd, decide_eq_true_eq]⟩
/-- a comprehension that only makes new things, with something of each turn -/
theorem lc_map {J : It} {n : Nat} {G : Hp → Prop} {Y : Nat → Hp → V → Hp → Prop} (w : Walk J n G Y) {g : TG} {tt : TT} {te : TE} {vs : List Nat} {σ : L2.St} {H : Hp} {Q : VK} (zs : List V) (hz : zs.length = n) (hn : n < sizeLine)
    (hG : ∀ H', Same H H' → G H')
    (hs : ∀ i x H1 H2 (N : Hp → Prop) (A : VK) (z : V), zs[i]? = some z → Same H H1 → Y i H1 x H2 → (∀ H5, Same H1 H5 → A z H5) →
      g x (wipe σ vs) H2 fun σ2 H3 => wipe σ2 vs = wipe σ vs ∧ tt σ2 H3 fun b H4 => if b = true then te σ2 H4 A else N H4)
    (hd : ∀ D H', H D = none → Same H H' → H' D = some (.lst zs) → Q (.ref D) H') : tLc (fun _ H R => R J H) g tt te vs σ H Q := by
  refine lc_flt w (fun _ => true) (fun i => (zs[i]?).getD .non) hn hG (fun i x H1 H2 N A hi sm hy _ hA => ?_) (fun D H' nD sm e => hd D H' nD sm ?_)
  · have hi' : i < zs.length := by omega
    exact hs i x H1 H2 N A zs[i] (List.getElem?_eq_getElem hi') sm hy fun H5 s5 => by
      have := hA H5 s5 rfl
      rw [List.getElem?_eq_getElem hi'] at this
      exact this
  · rw [e]
    congr 1
    congr 1
    rw [List.filter_eq_self.mpr (fun _ _ => rfl)]
    apply List.ext_getElem?
    intro i
    rw [List.getElem?_map]
    by_cases h : i < n
    · rw [List.getElem?_range h]
      have hi : zs[i]? = some (zs[i]'(by omega)) := List.getElem?_eq_getElem (by omega)
      simp only [hi, Option.map_some, Option.getD_some]
    · rw [List.getElem?_eq_none (by rw [List.length_range]; omega), List.getElem?_eq_none (by omega)]
      rfl
theorem inV_ints {i : Int} {ns : List Int} : inV (.int i) (ns.map V.int) = decide (i ∈ ns) := by
  unfold inV
  rw [List.any_map, Bool.eq_iff_iff, List.any_eq_true, decide_eq_true_eq]
  constructor
  · rintro ⟨q, hq, h⟩
    have : q = i := by simpa [eqV] using h
    exact this ▸ hq
  · intro h
    exact ⟨i, h, by simp [eqV]⟩
theorem inV_strs {i : Str} {ns : List Str} : inV (.str i) (ns.map V.str) = decide (i ∈ ns) := by
  unfold inV
  rw [List.any_map, Bool.eq_iff_iff, List.any_eq_true, decide_eq_true_eq]
  constructor
  · rintro ⟨q, hq, h⟩
    have : q = i := by simpa [eqV] using h
    exact this ▸ hq
  · intro h
    exact ⟨i, h, by simp [eqV]⟩
theorem flat_ints {ns : List Int} : (ns.map V.int).all flatV = true := by
  rw [List.all_map, List.all_eq_true]
  exact fun _ _ => rfl
theorem flat_strs {ns : List Str} : (ns.map V.str).all flatV = true := by
  rw [List.all_map, List.all_eq_true]
  exact fun _ _ => rfl
theorem lc_listM {K : PySem.W.Frag} {j : Nat} {a : Addr} {xs : List V} {g : TG} {tt : TT} {te : TE} {vs : List Nat} {σ : L2.St} {H : Hp} {Q : VK} (hσ : σ[j]? = some (some (.ref a))) (ea : H a = some (.lst xs)) (zs : List V) (hz : zs.length = xs.length) (hn : xs.length < sizeLine)
    (hs : ∀ (i : Nat) (x : V) (H1 : Hp) (N : Hp → Prop) (A : VK) (z : V), zs[i]? = some z → Same H H1 → xs[i]? = some x → (∀ H5, Same H1 H5 → A z H5) →
      g x (wipe σ vs) H1 fun σ2 H3 => wipe σ2 vs = wipe σ vs ∧ tt σ2 H3 fun b H4 => if b = true then te σ2 H4 A else N H4)
    (hd : ∀ D H', H D = none → Same H H' → H' D = some (.lst zs) → Q (.ref D) H') : tLc (iList K (tVar j)) g tt te vs σ H Q :=
  ⟨_, hσ, a, rfl, ⟨_, .of ea⟩, lc_map (walk_list (K := K) (a := a) (xs := xs)) zs hz hn (fun H' sm => .of (sm _ _ ea)) (fun i x H1 H2 N A z h1 h2 ⟨h3, h4⟩ h5 => by
    subst h3
    exact hs i x _ N A z h1 h2 h4 h5) hd⟩
theorem line62 {n : Nat} (h : n < sizeLine) : -2 ^ 62 ≤ (n : Int) ∧ (n : Int) < 2 ^ 62 := by
  have : sizeLine < 2 ^ 62 := by decide
  have h2 : n < 2 ^ 62 := Nat.lt_trans h this
  omega
/-- the turns of a walk, whatever a turn does -/
theorem loop_it {J : It} {n : Nat} {G : Hp → Prop} {Y : Nat → Hp → V → Hp → Prop} (w : Walk J n G Y) (Pv : Nat → Hp → Prop) {H0 : Hp} (h0 : Pv 0 H0) (hG : ∀ i H, i ≤ n → Pv i H → G H)
    {Stop : Hp → Prop} {Step : (Hp → Prop) → V → Hp → Prop} (hs : ∀ i x H H', i < n → Pv i H → Y i H x H' → Step (Pv (i + 1)) x H') (hd : ∀ H, Pv n H → Stop H) :
    ∃ W : Nat → Nat → Hp → Prop, (∃ m, W 0 m H0) ∧ ∀ j k H, W j k H → (J.stop j H ∧ Stop H) ∨ (J.go j H ∧ ∃ Nx : Hp → Prop, (∀ H', Nx H' → ∃ k', k' < k ∧ W (j + 1) k' H') ∧ ∀ x H', J.yld j H x H' → Step Nx x H') := by
  refine ⟨fun j k H => k = n - j ∧ j ≤ n ∧ Pv j H, ⟨n, rfl, Nat.zero_le _, h0⟩, fun j k H ⟨hk, hj, p⟩ => ?_⟩
  have q := hG j H hj p
  rcases Nat.lt_or_ge j n with hlt | hge
  · exact .inr ⟨w.goes j H hlt q, Pv (j + 1), fun H' p' => ⟨n - (j + 1), by omega, rfl, hlt, p'⟩, fun x H' y => hs j x H H' hlt p (w.yields j H x H' hlt q y)⟩
  · obtain rfl : j = n := by omega
    exact .inl ⟨w.stops H q, hd H p⟩
abbrev endsOf (As : List (Int × Int)) : List Int := As.flatMap fun p => [p.1, p.2]
theorem endsOf_len (As : List (Int × Int)) : (endsOf As).length = 2 * As.length := by
  induction As with
  | nil => rfl
  | cons p As ih =>
    show (p.1 :: p.2 :: endsOf As).length = _
    rw [List.length_cons, List.length_cons, ih, List.length_cons]
    omega
theorem endsOf_take {As : List (Int × Int)} {i : Nat} {p : Int × Int} (e : As[i]? = some p) : endsOf (As.take (i + 1)) = endsOf (As.take i) ++ [p.1, p.2] := by
  unfold endsOf
  rw [← take_snoc e, List.flatMap_append]
  rfl
theorem lc2_ends {K : PySem.W.Frag} {S : Av} {j ia ie : Nat} {a : Addr} {As : List (Int × Int)} {xs : List V} {vs vs1 : List Nat} {σ : L2.St} {H : Hp} {Q : VK} (hσ : σ[j]? = some (some (.ref a))) (ea : H a = some (.lst xs)) (hA : DaAll S H xs (As.map pd)) (hn : 2 * As.length + 2 < sizeLine)
    (hw : ∀ v, wipe ((wipe σ vs).set ia (some v)) vs = wipe σ vs) (hv : ∀ v, ((wipe σ vs).set ia (some v))[ia]? = some (some v))
    (hw1 : ∀ v u, wipe ((wipe ((wipe σ vs).set ia (some v)) vs1).set ie (some u)) vs1 = wipe ((wipe σ vs).set ia (some v)) vs1) (hv1 : ∀ v u, ((wipe ((wipe σ vs).set ia (some v)) vs1).set ie (some u))[ie]? = some (some u))
    (hd : ∀ D H', H D = none → Same H H' → H' D = some (.lst ((endsOf As).map V.int)) → Q (.ref D) H') : tLc2 (iList K (tVar j)) (gName ia) tYes (iTup K (tVar ia)) (gName ie) tYes (tVar ie) vs vs1 σ H Q := by
  have hx : xs.length = As.length := by rw [hA.length, List.length_map]
  refine ⟨_, hσ, a, rfl, ⟨_, .of ea⟩, fun D nD => ?_⟩
  refine loop_it (walk_list (K := K) (a := a) (xs := xs)) (fun i H' => Same H H' ∧ H' D = some (.lst ((endsOf (As.take i)).map V.int))) ⟨same_new (Same.refl H) nD, upd_same⟩ (fun i H' _ hp => .of (hp.1 _ _ ea))
    (Step := fun Nx x H' => gName ia x (wipe σ vs) H' fun σ2 H2 => wipe σ2 vs = wipe σ vs ∧ tYes σ2 H2 fun b H3 => if b = true then iTup K (tVar ia) σ2 H3 fun J1 H4 => ∃ W1 : Nat → Nat → Hp → Prop, (∃ m, W1 0 m H4) ∧ ∀ j k H, W1 j k H →
      (J1.stop j H ∧ Nx H) ∨ (J1.go j H ∧ ∃ Nx1 : Hp → Prop, (∀ H', Nx1 H' → ∃ k', k' < k ∧ W1 (j + 1) k' H') ∧ ∀ x H', J1.yld j H x H' → gName ie x (wipe σ2 vs1) H' fun σ3 H5 => wipe σ3 vs1 = wipe σ2 vs1 ∧ tYes σ3 H5 fun b H6 =>
        if b = true then tVar ie σ3 H6 fun y H7 => ∃ acc, H7 D = some (.lst acc) ∧ acc.length < sizeLine ∧ Nx1 (upd H7 D (.lst (acc ++ [y]))) else Nx1 H6) else Nx H3) ?_ ?_
  · rintro i x H1 H2 hi ⟨sm, eD⟩ ⟨rfl, hxi⟩
    obtain ⟨p, t, ed, rfl, nt, et⟩ := hA.pdS sm hxi
    refine ⟨hw _, _, hv _, t, rfl, ⟨_, .of et⟩, ?_⟩
    refine loop_it (walk_tup (K := K) (a := t) (xs := [.int p.1, .int p.2])) (fun k H' => Same H H' ∧ H' D = some (.lst ((endsOf (As.take i) ++ [p.1, p.2].take k).map V.int))) ⟨sm, by rw [List.take_zero, List.append_nil]; exact eD⟩
      (fun k H' _ hp => let ⟨_, _, e3, e4, _, e6⟩ := hA.pdS hp.1 hxi; ?_)
      (Step := fun Nx1 x H' => gName ie x (wipe ((wipe σ vs).set ia (some (.ref t))) vs1) H' fun σ3 H5 => wipe σ3 vs1 = wipe ((wipe σ vs).set ia (some (.ref t))) vs1 ∧ tYes σ3 H5 fun b H6 =>
        if b = true then tVar ie σ3 H6 fun y H7 => ∃ acc, H7 D = some (.lst acc) ∧ acc.length < sizeLine ∧ Nx1 (upd H7 D (.lst (acc ++ [y]))) else Nx1 H6) ?_ ?_
    · rw [ed] at e3
      cases e3
      cases e4
      exact .of e6
    · rintro k x H1 H2 hk ⟨sm, eD⟩ ⟨rfl, hxk⟩
      have hu : ∃ u, [p.1, p.2][k]? = some u ∧ x = .int u := by
        rcases k with _ | _ | k
        · cases hxk; exact ⟨_, rfl, rfl⟩
        · cases hxk; exact ⟨_, rfl, rfl⟩
        · cases hxk
      obtain ⟨u, hu, rfl⟩ := hu
      refine ⟨hw1 _ _, _, hv1 _ _, _, eD, ?_, fun b o e => ?_, ?_⟩
      · rw [List.length_map, List.length_append, endsOf_len, List.length_take, List.length_take]
        show 2 * min i As.length + min k 2 < sizeLine
        omega
      · rw [upd_ne (ne_of_none e nD)]
        exact sm _ _ e
      · rw [upd_same, ← take_snoc hu, ← List.append_assoc, List.map_append (l₂ := [u])]
        rfl
    · rintro H' ⟨sm, eD⟩
      exact ⟨sm, by rw [endsOf_take ed]; exact eD⟩
  · rintro H' ⟨sm, eD⟩
    rw [hx, List.take_length] at eD
    exact hd D H' nD sm eD
/-- P: what is in l, ascending, once each -/
def Asc (P l : List Int) : Prop := P.Pairwise (· < ·) ∧ ∀ k, k ∈ P ↔ k ∈ l
theorem Asc.nodup {P l : List Int} (h : Asc P l) : P.Nodup := h.1.imp Int.ne_of_lt
theorem asc_uniq : ∀ {P R : List Int}, P.Pairwise (· < ·) → R.Pairwise (· < ·) → (∀ k, k ∈ P ↔ k ∈ R) → P = R
  | [], [], _, _, _ => rfl
  | [], r :: R, _, _, h => absurd ((h r).mpr List.mem_cons_self) (by simp)
  | p :: P, [], _, _, h => absurd ((h p).mp List.mem_cons_self) (by simp)
  | p :: P, r :: R, hp, hr, h => by
    obtain ⟨p1, p2⟩ := List.pairwise_cons.mp hp
    obtain ⟨r1, r2⟩ := List.pairwise_cons.mp hr
    have e : p = r := by
      rcases List.mem_cons.mp ((h p).mp List.mem_cons_self) with e | e
      · exact e
      · rcases List.mem_cons.mp ((h r).mpr List.mem_cons_self) with e2 | e2
        · exact e2.symm
        · have := r1 p e
          have := p1 r e2
          omega
    subst e
    rw [asc_uniq p2 r2 fun k => ⟨fun hk => ?_, fun hk => ?_⟩]
    · rcases List.mem_cons.mp ((h k).mp (List.mem_cons_of_mem _ hk)) with e | e
      · have := p1 k hk
        omega
      · exact e
    · rcases List.mem_cons.mp ((h k).mpr (List.mem_cons_of_mem _ hk)) with e | e
      · have := r1 k hk
        omega
      · exact e
theorem Asc.uniq {P R l m : List Int} (h : Asc P l) (h2 : Asc R m) (e : ∀ k, k ∈ l ↔ k ∈ m) : P = R :=
  asc_uniq h.1 h2.1 fun k => by rw [h.2, h2.2, e]
theorem nodup_le {α : Type} [BEq α] [LawfulBEq α] : ∀ {L M : List α}, L.Nodup → (∀ k, k ∈ L → k ∈ M) → L.length ≤ M.length
  | [], _, _, _ => Nat.zero_le _
  | x :: L, M, h, hm => by
    have hx := hm x List.mem_cons_self
    have h2 := List.nodup_cons.mp h
    have := nodup_le (M := M.erase x) h2.2 fun k hk => (List.mem_erase_of_ne (fun (e : k = x) => h2.1 (e ▸ hk))).mpr (hm k (List.mem_cons_of_mem _ hk))
    rw [List.length_erase_of_mem hx] at this
    have := List.length_pos_of_mem hx
    rw [List.length_cons]
    omega
theorem same_snoc {H H' : Hp} {p : Addr} {o : HO} (s : Same H H') (n : H' p = none) : Same H (upd H' p o) := fun b u e => same_new (Same.refl H') n b u (s b u e)
/-- name = {..} over one for, the name a local -/
theorem sw_trueD {kx vx : Expr} {gs : List Comprehension} {scope : Scope} {pos py : Pos} {y : Str} {l : Nat} {env : Env} (hk : env.scope.kind = .function) (hy : env.scope.names.lookup y = some .local) (hl : (py.line == pos.line) = true)
    (ha : (scope.names.any fun (n, k) => n == y && (k == .local || k == .cell)) = false) : swapsWith (.DictComp kx vx gs scope pos) (some (.Name y py)) l env = pure true := by
  have h1 : env.kindOf y = some .local := hy
  have h2 : env.blockKind = .function := by
    unfold Env.blockKind
    rw [hk]
    rfl
  unfold swapsWith
  simp only [h1, h2, ha, hl, Expr.pos]
  rfl
section
variable {X : Cx}
theorem ps_setDc {i : Nat} {y : Str} {py : Pos} {kx vx tg iter : Expr} {ifs : List Expr} {scope : Scope} {own : List (Str × Nat)} {pos spos : Pos} {wi : TI} {g : TG} {tt : TT} {tk tv : TE} (hc : X.calm = true) (hN : X.N.Nodup) (hy : X.N[i]? = some y) (hyl : X.env.scope.names.lookup y = some .local)
    (hsw : swapsWith (.DictComp kx vx [⟨tg, iter, ifs, 0⟩] scope pos) (some (.Name y py)) spos.line X.env = pure true) (hi : PI X tg iter wi) (ok : BlkOk X.N X.env.scope scope own)
    (hg : ∀ (s : Shared) (H : Hp) (C : Addr) (cl : List (Str × Addr)) (fp : List Addr), PG (X.blk s H scope (compEnvC scope cl C X.env) fp) tg g) (ht : ∀ (s : Shared) (H : Hp) (C : Addr) (cl : List (Str × Addr)) (fp : List Addr), PTs (X.blk s H scope (compEnvC scope cl C X.env) fp) ifs tt)
    (hk : ∀ (s : Shared) (H : Hp) (C : Addr) (cl : List (Str × Addr)) (fp : List Addr), PE (X.blk s H scope (compEnvC scope cl C X.env) fp) kx tk)
    (he : ∀ (s : Shared) (H : Hp) (C : Addr) (cl : List (Str × Addr)) (fp : List Addr), PE (X.blk s H scope (compEnvC scope cl C X.env) fp) vx tv) (hs : ∀ x, foldedSetIterable iter X.env x = pure x := by intro _; rfl) :
    PS X (.Assign [.Name y py] (.DictComp kx vx [⟨tg, iter, ifs, 0⟩] scope pos) spos) (tAsg (tDc wi g tt tk tv (own.map (·.2))) (gName i)) := by
  refine ⟨fun pins s σ H D I h => ?_⟩
  rw [exec_Assign_Name_used _ _ _ _ hsw]
  refine wpAny_bind (wpAny_standAt (wpAny_bind ?_))
  show wpAny _ X.A (do let _ ← comprehension (.DictComp kx vx [⟨tg, iter, ifs, 0⟩] scope pos) scope X.env (firstIterPos [⟨tg, iter, ifs, 0⟩] pos) newDict false (eval iter X.env) (some (assign (.Name y py) X.env))) _ _ s
  have hh : tDc wi g tt tk tv (own.map (·.2)) σ H (fun x H1 => gName i x σ H1 D.nx) := h
  refine wpAny_bind (thn (dc_core (Qf := fun _ s' => SP X pins D .next s') hc hN I hi ok hg ht hk he hs hh fun L C s' m H' I' q hn f => ?_) fun _ s' z => wpAny_pure (wpAny_pure z))
  show wpAny _ _ (assign (.Name y py) X.env (.ref L)) _ _ _
  refine wpAny_assign_Name (store_ok2 (v := V.ref L) I' hN hy (.inl hyl) rfl (fun s2 I2 ⟨a, sb, ha⟩ => ?_) (.inr hyl))
  obtain ⟨f0, f1, f2, f3, f4, f5⟩ := f
  have ne : C ≠ a := fun e => by
    rcases ha with z | z
    · exact f1 (e.trans z)
    · exact f4 y a z e.symm
  exact ⟨m, hn.sameBut sb ne, fun h3 sb3 => ⟨_, H', I2.turned (t' := s2.toks) (fun b o hb e => (sb3.2 b hb).trans e) f0 f1 f3 f4 f5, q⟩⟩
end
/-! ### dicts from places to lists of places -/
abbrev dKs (P : List Int) (adr : Int → Addr) : HO := .dK (P.map fun p => ((.inl p : Key), V.ref (adr p)))
theorem dKs_congr {P : List Int} {f g : Int → Addr} (h : ∀ p ∈ P, f p = g p) : dKs P f = dKs P g := by
  unfold dKs
  congr 1
  exact List.map_congr_left fun p hp => by rw [h p hp]
/-- at D a dict of the places P, made behind H0, with a list of its own for each: val p -/
structure DiN (H0 H : Hp) (D : Addr) (P : List Int) (adr : Int → Addr) (val : Int → List Int) : Prop where
  nd : H0 D = none
  na : ∀ p ∈ P, H0 (adr p) = none
  inj : ∀ p ∈ P, ∀ q ∈ P, adr p = adr q → p = q
  at_ : H D = some (dKs P adr)
  val : ∀ p ∈ P, H (adr p) = some (.lst ((val p).map V.int))
theorem valV_dKs {P : List Int} {adr : Int → Addr} {q : Int} (h : q ∈ P) : valV (P.map fun p => ((.inl p : Key), V.ref (adr p))) (.inl q) = some (.ref (adr q)) := by
  unfold valV
  rw [List.find?_map]
  have : ∃ r, P.find? ((fun kv : Key × V => decide (kv.1 = (.inl q : Key))) ∘ fun p => ((.inl p : Key), V.ref (adr p))) = some r ∧ r = q := by
    cases e : P.find? ((fun kv : Key × V => decide (kv.1 = (.inl q : Key))) ∘ fun p => ((.inl p : Key), V.ref (adr p))) with
    | none =>
      have := List.find?_eq_none.mp e q h
      simp at this
    | some r =>
      have := List.find?_some e
      simp at this
      exact ⟨r, rfl, this⟩
  obtain ⟨r, h1, rfl⟩ := this
  rw [h1]
  rfl
theorem valV_dKs_no {P : List Int} {adr : Int → Addr} {q : Int} (h : q ∉ P) : valV (P.map fun p => ((.inl p : Key), V.ref (adr p))) (.inl q) = none := by
  unfold valV
  rw [List.find?_map]
  rw [List.find?_eq_none.mpr]
  · rfl
  · intro r hr e
    simp at e
    exact h (e ▸ hr)
theorem putK_new {P : List Int} {adr : Int → Addr} {q : Int} {a : V} (h : q ∉ P) : putK (P.map fun p => ((.inl p : Key), V.ref (adr p))) (.inl q) a = (P.map fun p => ((.inl p : Key), V.ref (adr p))) ++ [(.inl q, a)] := by
  unfold putK
  rw [if_neg]
  rw [List.any_map, List.any_eq_true]
  rintro ⟨r, hr, e⟩
  simp at e
  exact h (e ▸ hr)
theorem dc_lists {K : PySem.W.Frag} {j ip : Nat} {a : Addr} {P : List Int} {vs : List Nat} {σ : L2.St} {H : Hp} {Q : VK} (hσ : σ[j]? = some (some (.ref a))) (ea : H a = some (.lst (P.map V.int))) (hP : P.Nodup) (hn : P.length < sizeLine)
    (hw : ∀ v, wipe ((wipe σ vs).set ip (some v)) vs = wipe σ vs) (hv : ∀ v, ((wipe σ vs).set ip (some v))[ip]? = some (some v))
    (hd : ∀ D H' adr, Same H H' → DiN H H' D P adr (fun _ => []) → Q (.ref D) H') : tDc (iList K (tVar j)) (gName ip) tYes (tVar ip) (tLst tNil) vs σ H Q := by
  refine ⟨_, hσ, a, rfl, ⟨_, .of ea⟩, fun D nD => ?_⟩
  refine loop_it (walk_list (K := K) (a := a) (xs := P.map V.int)) (fun i H' => Same H H' ∧ ∃ adr, DiN H H' D (P.take i) adr fun _ => []) ⟨same_new (Same.refl H) nD, fun _ => D, nD, (fun p hp => by simp at hp), (fun p hp => by simp at hp), upd_same, (fun p hp => by simp at hp)⟩ (fun i H' _ hp => .of (hp.1 _ _ ea))
    (Step := fun Nx x H' => gName ip x (wipe σ vs) H' fun σ2 H2 => wipe σ2 vs = wipe σ vs ∧ tYes σ2 H2 fun b H3 =>
      if b = true then tVar ip σ2 H3 fun y H4 => tLst tNil σ2 H4 fun z H5 => ∃ kvs k, y = kV k ∧ H5 D = some (.dK kvs) ∧ kvs.length < sizeLine ∧ Nx (upd H5 D (.dK (putK kvs k z))) else Nx H3) ?_ ?_
  · rintro i x H1 H2 hi ⟨sm, adr, h⟩ ⟨rfl, hx⟩
    rw [List.getElem?_map] at hx
    obtain ⟨p, hp, rfl⟩ := Option.map_eq_some_iff.mp hx
    refine ⟨hw _, _, hv _, (by show 0 ≤ sizeLine; decide), fun l nl => ?_⟩
    have lD : D ≠ l := fun e => by rw [← e, h.at_] at nl; cases nl
    have pn : p ∉ P.take i := fun hm => by
      obtain ⟨k, hk⟩ := List.mem_iff_getElem?.mp hm
      have hki : k < i := by
        have := (List.getElem?_eq_some_iff.mp hk).1
        rw [List.length_take] at this
        omega
      rw [List.getElem?_take_of_lt hki] at hk
      have h1 := (List.getElem?_eq_some_iff.mp hk)
      have h2 := (List.getElem?_eq_some_iff.mp hp)
      exact absurd ((List.getElem_inj hP).mp (h1.2.trans h2.2.symm)) (Nat.ne_of_lt hki)
    have pne : ∀ q ∈ P.take i, q ≠ p := fun q hq e => pn (e ▸ hq)
    have nl0 : H l = none := sm.free nl
    have ladr : ∀ q ∈ P.take i, adr q ≠ l := fun q hq e => by
      have := h.val q hq
      rw [e, nl] at this
      cases this
    refine ⟨_, .inl p, rfl, (by rw [upd_ne lD]; exact h.at_), ?_, fun b o e => ?_, fun q => if q = p then l else adr q, h.nd, fun q hq => ?_, fun q hq r hr e => ?_, ?_, fun q hq => ?_⟩
    · rw [List.length_map, List.length_take]
      exact Nat.lt_of_le_of_lt (Nat.min_le_right _ _) hn
    · have e1 := sm _ _ e
      rw [upd_ne (fun z => by rw [z, h.nd] at e; cases e), upd_ne (fun z => by rw [z, nl] at e1; cases e1)]
      exact e1
    · show H (if q = p then l else adr q) = none
      rw [← take_snoc hp] at hq
      rcases List.mem_append.mp hq with hq | hq
      · rw [if_neg (pne _ hq)]
        exact h.na q hq
      · rw [if_pos (List.mem_singleton.mp hq)]
        exact nl0
    · rw [← take_snoc hp] at hq hr
      rcases List.mem_append.mp hq with hq | hq <;> rcases List.mem_append.mp hr with hr | hr
      · rw [if_neg (pne _ hq), if_neg (pne _ hr)] at e
        exact h.inj q hq r hr e
      · rw [if_neg (pne _ hq), if_pos (List.mem_singleton.mp hr)] at e
        exact absurd e (ladr q hq)
      · rw [if_pos (List.mem_singleton.mp hq), if_neg (pne _ hr)] at e
        exact absurd e.symm (ladr r hr)
      · rw [List.mem_singleton.mp hq, List.mem_singleton.mp hr]
    · rw [upd_same, putK_new pn, ← take_snoc hp]
      refine congrArg some ?_
      unfold dKs
      rw [List.map_append]
      refine congrArg HO.dK ?_
      refine congr (congrArg HAppend.hAppend ?_) ?_
      · exact List.map_congr_left fun q hq => by
          show _ = ((.inl q : Key), V.ref (if q = p then l else adr q))
          rw [if_neg (pne _ hq)]
      · show _ = [((.inl p : Key), V.ref (if p = p then l else adr p))]
        rw [if_pos rfl]
    · rw [← take_snoc hp] at hq
      rcases List.mem_append.mp hq with hq | hq
      · rw [if_neg (pne _ hq), upd_ne (fun e => ?_), upd_ne (ladr q hq)]
        · exact h.val q hq
        · have := h.val q hq
          rw [e, h.at_] at this
          cases this
      · rw [if_pos (List.mem_singleton.mp hq), upd_ne lD.symm, upd_same]
        rfl
  · rintro H' ⟨sm, adr, h⟩
    rw [List.length_map, List.take_length] at h
    exact hd D H' adr sm h
abbrev lexP (p q : Int × Int) : Bool := SrtO.lexB p q
/-- Bs: As in ascending order -/
def SrtA (As Bs : List (Int × Int)) : Prop := Bs.Perm As ∧ SrtO.Srtd lexP Bs
theorem swo_lexP : SrtO.Swo lexP := by
  refine ⟨fun x y h => ?_, fun x y z h1 h2 => ?_⟩
  · have := SrtO.lexB_iff.mp h
    exact SrtO.lexB_no.mpr (by omega)
  · have h1 := SrtO.lexB_no.mp h1
    have h2 := SrtO.lexB_no.mp h2
    exact SrtO.lexB_no.mpr (by omega)
theorem eqv_lexP {x y : Int × Int} : SrtO.eqv lexP x y = (y == x) := by
  rw [Bool.eq_iff_iff, SrtO.eqv_iff, beq_iff_eq]
  constructor
  · rintro ⟨h1, h2⟩
    have h1 := SrtO.lexB_no.mp h1
    have h2 := SrtO.lexB_no.mp h2
    exact Prod.ext (by omega) (by omega)
  · rintro rfl
    exact ⟨swo_lexP.refl _, swo_lexP.refl _⟩
theorem SrtA.uniq {As Bs Cs : List (Int × Int)} (h1 : SrtA As Bs) (h2 : SrtA As Cs) : Bs = Cs := by
  refine SrtO.stb_uniq swo_lexP h1.2 h2.2 ⟨h1.1.trans h2.1.symm, fun x => ?_⟩
  have e : SrtO.eqv lexP x = (· == x) := funext fun y => eqv_lexP
  rw [e, List.filter_beq, List.filter_beq, (h1.1.trans h2.1.symm).count_eq]
def upsOf (Bs : List (Int × Int)) (p : Int) : List Int := (Bs.filter fun b => b.2 == p).map (·.1)
def downsOf (Bs : List (Int × Int)) (p : Int) : List Int := (Bs.filter fun b => b.1 == p).map (·.2)
theorem upsOf_snoc {Bs : List (Int × Int)} {b : Int × Int} : upsOf (Bs ++ [b]) = fun p => if p = b.2 then upsOf Bs p ++ [b.1] else upsOf Bs p := by
  funext p
  unfold upsOf
  rw [List.filter_append, List.map_append]
  by_cases h : p = b.2
  · subst h
    rw [if_pos rfl]
    simp
  · rw [if_neg h]
    have : ¬ b.2 = p := fun e => h e.symm
    simp [this]
theorem downsOf_snoc {Bs : List (Int × Int)} {b : Int × Int} : downsOf (Bs ++ [b]) = fun p => if p = b.1 then downsOf Bs p ++ [b.2] else downsOf Bs p := by
  funext p
  unfold downsOf
  rw [List.filter_append, List.map_append]
  by_cases h : p = b.1
  · subst h
    rw [if_pos rfl]
    simp
  · rw [if_neg h]
    have : ¬ b.1 = p := fun e => h e.symm
    simp [this]
theorem DiN.app {H0 H : Hp} {D : Addr} {P : List Int} {adr : Int → Addr} {val : Int → List Int} (h : DiN H0 H D P adr val) {p x : Int} (hp : p ∈ P) :
    DiN H0 (upd H (adr p) (.lst ((val p).map V.int ++ [V.int x]))) D P adr (fun q => if q = p then val q ++ [x] else val q) := by
  have nD : D ≠ adr p := fun e => by
    have := h.val p hp
    rw [← e, h.at_] at this
    cases this
  refine ⟨h.nd, h.na, h.inj, by rw [upd_ne nD]; exact h.at_, fun q hq => ?_⟩
  by_cases e : q = p
  · subst e
    rw [upd_same, if_pos rfl, List.map_append]
    rfl
  · rw [upd_ne (fun z => e (h.inj q hq p hp z)), if_neg e]
    exact h.val q hq
theorem DiN.other {H0 H : Hp} {D : Addr} {P : List Int} {adr : Int → Addr} {val : Int → List Int} (h : DiN H0 H D P adr val) {b : Addr} {o : HO} (h1 : b ≠ D) (h2 : ∀ p ∈ P, b ≠ adr p) : DiN H0 (upd H b o) D P adr val :=
  ⟨h.nd, h.na, h.inj, by rw [upd_ne h1.symm]; exact h.at_, fun p hp => by rw [upd_ne (h2 p hp).symm]; exact h.val p hp⟩
theorem DiN.new {H0 H : Hp} {D : Addr} {P : List Int} {adr : Int → Addr} {val : Int → List Int} (h : DiN H0 H D P adr val) {b : Addr} {o : HO} (n : H b = none) : DiN H0 (upd H b o) D P adr val :=
  h.other (fun e => by rw [e, h.at_] at n; cases n) (fun p hp e => by rw [e, h.val p hp] at n; cases n)
theorem DiN.same {H0 H H' : Hp} {D : Addr} {P : List Int} {adr : Int → Addr} {val : Int → List Int} (h : DiN H0 H D P adr val) (s : Same H H') : DiN H0 H' D P adr val :=
  ⟨h.nd, h.na, h.inj, s _ _ h.at_, fun p hp => s _ _ (h.val p hp)⟩
theorem DiN.base {H0 H1 H : Hp} {D : Addr} {P : List Int} {adr : Int → Addr} {val : Int → List Int} (h : DiN H1 H D P adr val) (s : Same H0 H1) : DiN H0 H D P adr val :=
  ⟨s.free h.nd, fun p hp => s.free (h.na p hp), h.inj, h.at_, h.val⟩
/-- the pair at an address -/
def pairAt (H : Hp) : V → Int × Int
  | .ref t => match H t with
    | some (.tup [.int a, .int b]) => (a, b)
    | _ => (0, 0)
  | _ => (0, 0)
theorem pairAt_eq {H : Hp} {t : Addr} {p : Int × Int} (e : H t = some (.tup [.int p.1, .int p.2])) : pairAt H (.ref t) = p := by
  show (match H t with | some (.tup [.int a, .int b]) => (a, b) | _ => (0, 0)) = p
  rw [e]
theorem mapP_pd {S : Av} {H : Hp} : ∀ {xs : List V} {As : List (Int × Int)}, DaAll S H xs (As.map pd) → xs.map (pairAt H) = As
  | [], [], _ => rfl
  | x :: xs, p :: As, .cons h r => by
    obtain ⟨t, rfl, _, e⟩ := h.pd
    rw [List.map_cons, pairAt_eq e, mapP_pd r]
/-- what sorted gives of a list of pairs -/
theorem sorted_pd {S : Av} {H : Hp} {xs ys : List V} {As Bs : List (Int × Int)} (h : DaAll S H xs (As.map pd)) (hB : SrtA As Bs) (h1 : SrtO.Srtd (ltP (pairAt H)) ys) (h2 : SrtO.Stb (ltP (pairAt H)) ys xs) :
    ys.length = Bs.length ∧ ∀ (i : Nat) (y : V), ys[i]? = some y → ∃ b t, Bs[i]? = some b ∧ y = .ref t ∧ ¬ S t ∧ H t = some (.tup [.int b.1, .int b.2]) := by
  have e : ys.map (pairAt H) = Bs := by
    refine SrtA.uniq (As := As) ⟨?_, SrtO.srtd_map (f := pairAt H) (lt := lexP) h1⟩ hB
    rw [← mapP_pd h]
    exact h2.perm.map _
  refine ⟨by rw [← e, List.length_map], fun i y hy => ?_⟩
  have hm : y ∈ xs := h2.perm.mem_iff.mp (List.mem_of_getElem? hy)
  obtain ⟨j, hj⟩ := List.mem_iff_getElem?.mp hm
  obtain ⟨p, t, _, rfl, nt, et⟩ := h.pd hj
  have : (ys.map (pairAt H))[i]? = Bs[i]? := by rw [e]
  rw [List.getElem?_map, hy] at this
  refine ⟨p, t, ?_, rfl, nt, et⟩
  rw [← this, Option.map_some, pairAt_eq et]
theorem seq_asg {te : TE} {i : Nat} {u : TS} {D : Ends} {σ : L2.St} {H : Hp} (h : te σ H fun x H1 => u D (σ.set i (some x)) H1) : tSeq (tAsg te (gName i)) u D σ H := h
theorem DiN.get {H0 H : Hp} {D : Addr} {P : List Int} {adr : Int → Addr} {val : Int → List Int} (h : DiN H0 H D P adr val) {p : Int} (hp : p ∈ P) : DGet H D (.int p) (some (.ref (adr p))) :=
  .inl ⟨_, .inl p, .inl h.at_, rfl, (valV_dKs hp).symm⟩
theorem upsOf_len (Bs : List (Int × Int)) (p : Int) : (upsOf Bs p).length ≤ Bs.length := by
  unfold upsOf
  rw [List.length_map]
  exact List.length_filter_le _ _
theorem downsOf_len (Bs : List (Int × Int)) (p : Int) : (downsOf Bs p).length ≤ Bs.length := by
  unfold downsOf
  rw [List.length_map]
  exact List.length_filter_le _ _
/-- q is below p -/
inductive Und (val : Int → List Int) (p : Int) : Int → Prop
  | base {q : Int} : q ∈ val p → Und val p q
  | step {r q : Int} : Und val p r → q ∈ val r → Und val p q
theorem Und.closed {val : Int → List Int} {p : Int} {F : List Int} (h1 : ∀ q ∈ val p, q ∈ F) (h2 : ∀ r ∈ F, ∀ q ∈ val r, q ∈ F) {q : Int} (h : Und val p q) : q ∈ F := by
  induction h with
  | base h => exact h1 _ h
  | step _ hq ih => exact h2 _ ih _ hq
abbrev trueKs (F : List Int) : HO := .dK (F.map fun q => ((.inl q : Key), V.bl true))
theorem valV_true {F : List Int} {q : Int} : (valV (F.map fun q => ((.inl q : Key), V.bl true)) (.inl q)).isSome = decide (q ∈ F) := by
  unfold valV
  rw [List.find?_map, Option.isSome_map, Option.isSome_map, Bool.eq_iff_iff, List.find?_isSome]
  simp
theorem putK_true {F : List Int} {q : Int} (h : q ∉ F) : putK (F.map fun q => ((.inl q : Key), V.bl true)) (.inl q) (.bl true) = (F ++ [q]).map fun q => ((.inl q : Key), V.bl true) := by
  unfold putK
  rw [if_neg]
  · rw [List.map_append]
    rfl
  rw [List.any_map, List.any_eq_true]
  rintro ⟨r, hr, e⟩
  simp at e
  exact h (e ▸ hr)
theorem lt_of_le_nodup : ∀ {l : List Int}, l.Pairwise (· ≤ ·) → l.Nodup → l.Pairwise (· < ·)
  | [], _, _ => .nil
  | x :: l, h, n => by
    have h := List.pairwise_cons.mp h
    have n := List.nodup_cons.mp n
    refine List.pairwise_cons.mpr ⟨fun y hy => ?_, lt_of_le_nodup h.2 n.2⟩
    have := h.1 y hy
    have : x ≠ y := fun e => n.1 (e ▸ hy)
    omega
/-- the same, read only: also while a walk holds the dict -/
structure DiR (H : Hp) (D : Addr) (P : List Int) (adr : Int → Addr) (val : Int → List Int) : Prop where
  at_ : Rd H D (dKs P adr)
  val : ∀ p ∈ P, H (adr p) = some (.lst ((val p).map V.int))
theorem DiN.r {H0 H : Hp} {D : Addr} {P : List Int} {adr : Int → Addr} {val : Int → List Int} (h : DiN H0 H D P adr val) : DiR H D P adr val := ⟨.inl h.at_, h.val⟩
theorem Rd.same {H H' : Hp} {a : Addr} {u : HO} (h : Rd H a u) (s : Same H H') : Rd H' a u := by
  rcases h with h | ⟨o, h⟩
  · exact .inl (s _ _ h)
  · exact .inr ⟨o, s _ _ h⟩
theorem DiR.same {H H' : Hp} {D : Addr} {P : List Int} {adr : Int → Addr} {val : Int → List Int} (h : DiR H D P adr val) (s : Same H H') : DiR H' D P adr val := ⟨Lg.Rd.same h.at_ s, fun p hp => s _ _ (h.val p hp)⟩
theorem DiR.new {H : Hp} {D : Addr} {P : List Int} {adr : Int → Addr} {val : Int → List Int} (h : DiR H D P adr val) {b : Addr} {o : HO} (n : H b = none) : DiR (upd H b o) D P adr val := h.same (same_new (Same.refl H) n)
theorem DiR.get {H : Hp} {D : Addr} {P : List Int} {adr : Int → Addr} {val : Int → List Int} (h : DiR H D P adr val) {p : Int} (hp : p ∈ P) : DGet H D (.int p) (some (.ref (adr p))) :=
  .inl ⟨_, .inl p, h.at_, rfl, (valV_dKs hp).symm⟩
theorem DiR.lock {H : Hp} {D E : Addr} {P R : List Int} {adr adr2 : Int → Addr} {val : Int → List Int} (h : DiR H D P adr val) {od : Obj} (hE : H E = some (dKs R adr2)) : DiR (upd H E (.frz od (dKs R adr2))) D P adr val := by
  refine ⟨?_, fun p hp => ?_⟩
  · by_cases e : D = E
    · subst e
      rcases h.at_ with h | ⟨o, h⟩
      · rw [hE] at h
        exact .inr ⟨od, by rw [upd_same, Option.some.inj h]⟩
      · rw [hE] at h
        cases h
    · rcases h.at_ with h | ⟨o, h⟩
      · exact .inl (by rw [upd_ne e]; exact h)
      · exact .inr ⟨o, by rw [upd_ne e]; exact h⟩
  · rw [upd_ne (fun e => ?_)]
    · exact h.val p hp
    · have := h.val p hp
      rw [e, hE] at this
      cases this
/-- a comprehension that only makes new things, of a list's items that pass -/
theorem lc_fltL {α : Type} {J : It} {n : Nat} {G : Hp → Prop} {Y : Nat → Hp → V → Hp → Prop} (w : Walk J n G Y) {g : TG} {tt : TT} {te : TE} {vs : List Nat} {σ : L2.St} {H : Hp} {Q : VK} (zs : List α) (hz : zs.length = n) (p : α → Bool) (y : α → V) (hn : n < sizeLine)
    (hG : ∀ H', Same H H' → G H')
    (hs : ∀ (i : Nat) (z : α) (x : V) (H1 H2 : Hp) (N : Hp → Prop) (A : VK), zs[i]? = some z → Same H H1 → Y i H1 x H2 → (∀ H4, Same H1 H4 → p z = false → N H4) → (∀ H5, Same H1 H5 → p z = true → A (y z) H5) →
      g x (wipe σ vs) H2 fun σ2 H3 => wipe σ2 vs = wipe σ vs ∧ tt σ2 H3 fun b H4 => if b = true then te σ2 H4 A else N H4)
    (hd : ∀ D H', H D = none → Same H H' → H' D = some (.lst ((zs.filter p).map y)) → Q (.ref D) H') : tLc (fun _ H R => R J H) g tt te vs σ H Q := by
  intro D nD
  refine lc_it w (fun i H' => Same H H' ∧ H' D = some (.lst (((zs.take i).filter p).map y))) ⟨same_new (Same.refl H) nD, upd_same⟩ (fun i H' _ hp => hG H' hp.1) ?_ (fun H' hp => hd D H' nD hp.1 (by
    have := hp.2
    rw [← hz, List.take_length] at this
    exact this))
  rintro i x H1 H2 hi ⟨sm, eD⟩ hy
  obtain ⟨z, hzi⟩ : ∃ z, zs[i]? = some z := ⟨_, List.getElem?_eq_getElem (by omega)⟩
  refine hs i z x H1 H2 _ _ hzi sm hy (fun H4 h4 h3 => ⟨fun b o e => h4 _ _ (sm _ _ e), ?_⟩) (fun H5 h7 h3 => ⟨_, h7 _ _ eD, ?_, fun b o e => ?_, ?_⟩)
  · rw [← take_snoc hzi, List.filter_append, List.filter_cons_of_neg (by rw [h3]; decide), List.filter_nil, List.append_nil]
    exact h4 _ _ eD
  · rw [List.length_map]
    refine Nat.lt_of_le_of_lt (List.length_filter_le _ _) ?_
    rw [List.length_take]
    omega
  · rw [upd_ne (ne_of_none e nD)]
    exact h7 _ _ (sm _ _ e)
  · rw [upd_same, ← take_snoc hzi, List.filter_append, List.filter_cons_of_pos h3, List.filter_nil, List.map_append]
    rfl
/-- [place for place in d if ..] -/
theorem lc_dict {j ip : Nat} {D : Addr} {P : List Int} {adr : Int → Addr} {tt : TT} {vs : List Nat} {σ : L2.St} {H : Hp} {Q : VK} (hσ : σ[j]? = some (some (.ref D))) (hD : H D = some (dKs P adr)) (p : Int → Bool) (hn : P.length < sizeLine)
    (hw : ∀ v, wipe ((wipe σ vs).set ip (some v)) vs = wipe σ vs) (hv : ∀ v, ((wipe σ vs).set ip (some v))[ip]? = some (some v))
    (hs : ∀ x ∈ P, ∀ (od : Obj) (H1 : Hp) (k : Bool → Hp → Prop), Same (upd H D (.frz od (dKs P adr))) H1 → (∀ H4, Same H1 H4 → k (p x) H4) → tt ((wipe σ vs).set ip (some (.int x))) H1 k)
    (hd : ∀ R H', H R = none → Same H H' → H' R = some (.lst ((P.filter p).map V.int)) → Q (.ref R) H') : tLockE (tLc (iKeys (tVar j)) (gName ip) tt (tVar ip) vs) σ H Q := by
  refine ⟨D, _, hD, trivial, fun od => ⟨_, hσ, D, od, rfl, .inl ⟨_, upd_same, ?_⟩⟩⟩
  show tLc (fun _ H R => R (Itk D od (P.map fun p => ((.inl p : Key), V.ref (adr p)))) H) (gName ip) tt (tVar ip) vs σ (upd H D (.frz od (dKs P adr))) (fun v H' => H' D = some (.frz od (dKs P adr)) ∧ Q v (upd H' D (dKs P adr)))
  refine lc_fltL (walk_keys (d := D) (o := od) (kvs := P.map fun p => ((.inl p : Key), V.ref (adr p)))) P (by rw [List.length_map]) p V.int (by rw [List.length_map]; exact hn) (fun H' sm => sm _ _ upd_same) ?_ ?_
  · rintro i z x H1 H2 N A hz sm ⟨rfl, k, v, hk, rfl⟩ hN hA
    rw [List.getElem?_map, hz] at hk
    cases hk
    refine ⟨hw _, hs z (List.mem_of_getElem? hz) od _ _ sm fun H4 s4 => ?_⟩
    cases h : p z with
    | false => exact ite2 (fun e => absurd e (by decide)) fun _ => hN _ s4 h
    | true => exact ite2 (fun _ => ⟨_, hv _, hA _ s4 h⟩) fun e => absurd rfl e
  · intro R H' nR sm e
    have nRD : R ≠ D := fun z => by rw [z, upd_same] at nR; cases nR
    refine ⟨sm _ _ upd_same, hd R _ (by rw [upd_ne nRD] at nR; exact nR) (fun b o eb => ?_) (by rw [upd_ne nRD]; exact e)⟩
    by_cases hb : b = D
    · subst hb
      rw [hD] at eb
      rw [upd_same]
      exact eb
    · rw [upd_ne hb]
      exact sm _ _ (by rw [upd_ne hb]; exact eb)
theorem lock_asg {te : TE} {i : Nat} {u : TS} {D : Ends} {σ : L2.St} {H : Hp} (h : tLockE te σ H fun x H1 => u D (σ.set i (some x)) H1) : tSeq (tLock (tAsg te (gName i))) u D σ H := h
theorem cutV_drop (xs : List V) (i : Nat) (h : i ≤ xs.length) : cutV xs (some (i : Int)) none = xs.drop i := by
  unfold cutV
  rw [HT.sIx_none, HT.sIx_nat, Nat.min_eq_left h, List.take_of_length_le]
  rw [List.length_drop]
  exact Nat.le_refl _
theorem dec_two (n : Nat) : decide (V.int (n : Int) = V.int 2) = (n == 2) := by
  rw [Bool.eq_iff_iff, decide_eq_true_eq, beq_iff_eq, V.int.injEq]
  omega
/-! ### what the head leaves: tuples of tuples of ints -/
theorem intsB_ok {H : Hp} {S : Av} : ∀ {us : List Value} {ns : List Int}, intsB us ns = true → Vals (ns.map V.int) us ∧ us.length = ns.length
  | [], [], _ => ⟨.nil, rfl⟩
  | .int i t :: us, n :: ns, h => by
    obtain ⟨h1, h2⟩ := Bool.and_eq_true_iff.mp (show (decide (i = n) && intsB us ns) = true from h)
    obtain ⟨h3, h4⟩ := intsB_ok (H := H) (S := S) h2
    rw [of_decide_eq_true h1]
    exact ⟨.cons ⟨t, rfl⟩ h3, congrArg (· + 1) h4⟩
theorem tupleB_ok {K : PySem.W.Frag} {v : Value} {p : List Value → Bool} (h : tupleB K v p = true) : ∃ (a : Addr) (o : Obj) (its : Array Value) (n : Nat), v = .ref a ∧ K.lookup a = some o ∧ o.cls = .type "tuple" ∧ o.data = .seq its n ∧ p its.toList = true := by
  cases v with
  | ref a =>
    cases e : K.lookup a with
    | none =>
      have h : (match K.lookup a with | some o => (match o.cls with | .type c => decide (c = "tuple") | _ => false) && (match o.data with | .seq its _ => p its.toList | _ => false) | none => false) = true := h
      rw [e] at h
      cases h
    | some o =>
      have h : (match K.lookup a with | some o => (match o.cls with | .type c => decide (c = "tuple") | _ => false) && (match o.data with | .seq its _ => p its.toList | _ => false) | none => false) = true := h
      rw [e] at h
      obtain ⟨h1, h2⟩ := Bool.and_eq_true_iff.mp h
      obtain ⟨oc, od, dt, sl⟩ := o
      cases oc with
      | type c =>
        cases dt with
        | seq its n => exact ⟨a, _, its, n, rfl, e, congrArg Value.type (of_decide_eq_true h1), rfl, h2⟩
        | _ => cases h2
      | _ => cases h1
  | _ => cases h
abbrev tupD (nss : List (List Int)) : PyData := .tuple (nss.map fun ns => .tuple (ns.map PyData.int))
/-- at a stands a tuple of tuples of ints of the head -/
def TupD (K : PySem.W.Frag) (a : Addr) (nss : List (List Int)) : Prop := ∀ H : Hp, Dp K H (.ref a) (tupD nss)
theorem dp_ints {K : PySem.W.Frag} {H : Hp} : ∀ {ns : List Int}, DpAll K H (ns.map V.int) (ns.map PyData.int)
  | [] => .nil
  | n :: _ => .cons (.int n) dp_ints
theorem tupsB_ok {K : PySem.W.Frag} {H : Hp} : ∀ {us : List Value} {nss : List (List Int)}, (∀ ns ∈ nss, ns.length ≤ 1000) → tupsB K us nss = true → us.length = nss.length ∧ ∃ vs, Vals vs us ∧ DpAll K H vs (nss.map fun ns => .tuple (ns.map PyData.int))
  | [], [], _, _ => ⟨rfl, [], .nil, .nil⟩
  | [], _ :: _, _, h => by cases h
  | _ :: _, [], _, h => by cases h
  | u :: us, ns :: nss, hl, h => by
    obtain ⟨h1, h2⟩ := Bool.and_eq_true_iff.mp (show (tupleB K u (fun l => intsB l ns) && tupsB K us nss) = true from h)
    obtain ⟨e1, vs, r, d⟩ := tupsB_ok (H := H) (fun m hm => hl m (List.mem_cons_of_mem _ hm)) h2
    obtain ⟨a, o, its, n, rfl, ho, hc, hd, hi⟩ := tupleB_ok h1
    obtain ⟨hv, hn⟩ := intsB_ok (H := H) (S := fun _ => False) hi
    refine ⟨congrArg (· + 1) e1, .ref a :: vs, .cons rfl r, .cons (.tup (.inr ⟨o, its, n, ho, hc, hd, ?_, hv⟩) dp_ints) d⟩
    rw [← Array.length_toList, hn]
    exact Nat.le_trans (hl ns List.mem_cons_self) (by decide)
theorem tup2B_ok {K : PySem.W.Frag} {a : Addr} {nss : List (List Int)} (hl : (nss.all fun ns => decide (ns.length ≤ 1000)) = true) (hl2 : nss.length ≤ 1000) (h : tup2B K a nss = true) : TupD K a nss := fun H => by
  obtain ⟨b, o, its, n, e, ho, hc, hd, hi⟩ := tupleB_ok h
  cases e
  obtain ⟨e1, vs, r, d⟩ := tupsB_ok (H := H) (fun ns hns => of_decide_eq_true (List.all_eq_true.mp hl ns hns)) hi
  refine .tup (.inr ⟨o, its, n, ho, hc, hd, ?_, r⟩) d
  rw [← Array.length_toList, e1]
  exact Nat.le_trans hl2 (by decide)
theorem shaped_tupD (nss : List (List Int)) : SeqAt.shaped (tupD nss) = true := by
  refine Bool.and_eq_true_iff.mpr ⟨lay_map _ fun ns _ => lay_map _ fun n _ => rfl, decide_eq_true ?_⟩
  exact Nat.le_trans (Nat.succ_le_succ (depth_map _ 1 fun ns _ => Nat.succ_le_succ (depth_map _ 0 fun _ _ => Nat.le_refl _))) (by decide)
def rNotInT (K : PySem.W.Frag) : R2 := fun x y H Q => ∃ d ds, Dp K H x d ∧ Dp K H y (.tuple ds) ∧ SeqAt.shaped d = true ∧ SeqAt.shaped (.tuple ds) = true ∧ Q (.bl (!ds.any fun z => PyData.eqv z d)) H
theorem op_notInDTK {X : Cx} (K : PySem.W.Frag) (hK : X.K = K) (hu : X.A.units + 65 < cLine) : OpR X (compareOp .NotIn) (rNotInT K) := hK ▸ op_notInDT hu
def badDeg (up dn : Int → List Int) (p : Int) : Bool := !([(0, 0), (0, 2), (1, 2), (2, 1), (1, 0)] : List (Nat × Nat)).contains ((up p).length, (dn p).length)
theorem any_deg (a b : Nat) : ((([[0, 0], [0, 2], [1, 2], [2, 1], [1, 0]] : List (List Int)).map fun ns => PyData.tuple (ns.map PyData.int)).any fun z => PyData.eqv z (.tuple [.int (a : Int), .int (b : Int)])) = ([(0, 0), (0, 2), (1, 2), (2, 1), (1, 0)] : List (Nat × Nat)).contains (a, b) := by
  have key : ∀ (i j : Nat), PyData.eqv (.tuple [.int (i : Int), .int (j : Int)]) (.tuple [.int (a : Int), .int (b : Int)]) = ((a, b) == (i, j)) := fun i j => by
    show PyData.eqvAll [.int (i : Int), .int (j : Int)] [.int (a : Int), .int (b : Int)] = _
    rw [Bool.eq_iff_iff]
    simp [PyData.eqvAll, PyData.eqv]
    omega
  show (PyData.eqv (.tuple [.int ((0 : Nat) : Int), .int ((0 : Nat) : Int)]) _ || (PyData.eqv (.tuple [.int ((0 : Nat) : Int), .int ((2 : Nat) : Int)]) _ || (PyData.eqv (.tuple [.int ((1 : Nat) : Int), .int ((2 : Nat) : Int)]) _ || (PyData.eqv (.tuple [.int ((2 : Nat) : Int), .int ((1 : Nat) : Int)]) _ || (PyData.eqv (.tuple [.int ((1 : Nat) : Int), .int ((0 : Nat) : Int)]) _ || false))))) = _
  rw [key, key, key, key, key]
  simp only [List.contains_cons, List.contains_nil]
/-- a call of a local that holds a def, whichever -/
def tCallH (P : Program) (w : World) (K : PySem.W.Frag) (mg : Str → Option Value) (base : Heap) (k i : Nat) (t : TA) : TE := fun σ H Q => ∃ f sp, σ[i]? = some (some (.ref f)) ∧ Held P w K mg base k f sp ∧ t σ H fun vs H1 => sp vs H1 Q (fun _ _ _ => False)
theorem pe_callH {X : Cx} {k i : Nat} {x : Str} {p pos : Pos} {e : Expr} {es : List Expr} {t : TA} (hr : Room k X.A) (hN : X.N[i]? = some x) (hv : Vis X.env.scope x) (ha : PA X (e :: es) t)
    (hdb : (x == ("__debug__" : Str)) = false := by decide) (hcd : (x == ("__classdict__" : Str)) = false := by decide)
    (he : starEach (e :: es) X.env = (false, eval e X.env) :: starEach es X.env := by rfl) (hpl : (backTo pos (starEach es X.env)).any (·.1) = false := by rfl) : PE X (.Call (.Name x p) (e :: es) [] pos) (tCallH X.prog X.w X.K X.mg X.base k i t) := by
  refine ⟨fun pins s σ H Q I ⟨f, sp, hs, A, ht⟩ => ?_⟩
  obtain ⟨fd, ps, F, hk, hb⟩ := A.ex
  refine (pe_callL (i := i) (f := f) (sp := sp) (dvs := []) (E := fun _ _ _ => False) F hr hN hv hk hb .nil (fun _ _ _ _ _ _ _ z => z.elim) ha hdb hcd he hpl).run pins s σ H Q I ⟨hs, ?_⟩
  have e0 : (fun (vs : List V) (H1 : Hp) => sp (vs ++ []) H1 Q (fun _ _ _ => False)) = fun vs H1 => sp vs H1 Q (fun _ _ _ => False) := funext fun vs => funext fun H1 => by rw [List.append_nil]
  rw [e0]
  exact ht
theorem Own.held {P : Program} {w : World} {K : PySem.W.Frag} {mg : Str → Option Value} {base : Heap} {k : Nat} {x : Str} {ps : List Str} {sp : Sp} (O : Own P w K mg base k x ps sp) {a : Addr} (e : mg x = some (.ref a)) : Held P w K mg base k a sp := by
  obtain ⟨f, fd, F, gm, kp, hb, _⟩ := O.ex
  cases gm.symm.trans e
  exact ⟨fd, ps, F, kp, hb⟩
/-- typed from data -/
def asF : PyData → Int × Int
  | .tuple [.int a, .int b] => (a, b)
  | _ => (0, 0)
def lsF : PyData → Int × Str
  | .tuple [.int a, .str b] => (a, b)
  | _ => (0, "")
def asOf (ds : List PyData) : List (Int × Int) := ds.map asF
def lsOf (ds : List PyData) : List (Int × Str) := ds.map lsF
theorem placeD_int {d : PyData} (h : placeD d = true) : ∃ i, d = .int i := by
  cases d <;> first | exact ⟨_, rfl⟩ | (exfalso; exact Bool.false_ne_true h)
theorem isStrD_str {d : PyData} (h : isStrD d = true) : ∃ i, d = .str i := by
  cases d <;> first | exact ⟨_, rfl⟩ | (exfalso; exact Bool.false_ne_true h)
theorem asF_eq {d : PyData} (h1 : pairD d = true) : pd (asF d) = d := by
  unfold pairD at h1
  split at h1
  · rename_i a b
    obtain ⟨ha, hb⟩ := Bool.and_eq_true_iff.mp h1
    obtain ⟨i, rfl⟩ := placeD_int ha
    obtain ⟨j, rfl⟩ := placeD_int hb
    rfl
  · cases h1
theorem lsF_eq {d : PyData} (h1 : labD d = true) : ld (lsF d) = d := by
  unfold labD at h1
  split at h1
  · rename_i a b
    obtain ⟨ha, hb⟩ := Bool.and_eq_true_iff.mp h1
    obtain ⟨i, rfl⟩ := placeD_int ha
    obtain ⟨j, rfl⟩ := isStrD_str hb
    rfl
  · cases h1
theorem asOf_eq : ∀ {ds : List PyData}, (∀ d ∈ ds, pairD d = true) → (asOf ds).map pd = ds
  | [], _ => rfl
  | d :: ds, h => by
    show pd (asF d) :: (asOf ds).map pd = _
    rw [asOf_eq fun x hx => h x (List.mem_cons_of_mem _ hx), asF_eq (h d List.mem_cons_self)]
theorem lsOf_eq : ∀ {ds : List PyData}, (∀ d ∈ ds, labD d = true) → (lsOf ds).map ld = ds
  | [], _ => rfl
  | d :: ds, h => by
    show ld (lsF d) :: (lsOf ds).map ld = _
    rw [lsOf_eq fun x hx => h x (List.mem_cons_of_mem _ hx), lsF_eq (h d List.mem_cons_self)]
theorem atB_nil {α : Type} {p : α → Bool} {l : List α} (h : atB p l = []) : ∀ d ∈ l, p d = false := fun d hd => by
  obtain ⟨i, hi⟩ := List.mem_iff_getElem?.mp hd
  have := List.filter_eq_nil_iff.mp h i (List.mem_range.mpr (List.getElem?_eq_some_iff.mp hi).1)
  rw [hi] at this
  exact Bool.eq_false_iff.mpr this
/-- the faults of the items: each word with all that is at fault -/
def lfinds (ds es : List PyData) : List (Str × List Nat) :=
  [("long", (List.range 2).filter fun i => if i = 0 then decide (46 < ds.length) else decide (12 < es.length)), ("arrow", atB (fun d => !pairD d) ds), ("leaf", atB (fun d => !labD d) es), ("name", atB (fun p => !nameL p.2.cps.toList) (lsOf es)),
   ("again", (List.range (lsOf es).length).filter fun i => ((lsOf es)[i]?).any fun p => decide (p.1 ∈ ((lsOf es).map (·.1)).take i) || decide (p.2 ∈ ((lsOf es).map (·.2)).take i)),
   ("double", (List.range (asOf ds).length).filter fun i => ((asOf ds)[i]?).any fun p => decide (p ∈ (asOf ds).take i)), ("none", if es = [] then [0] else [])]
def firstF {α : Type} (l : List (Str × List α)) : Option (Str × α) := l.findSome? fun kv => kv.2.head?.map fun i => (kv.1, i)
theorem firstF_at {α β : Type} {f : α → Option β} : ∀ {l : List α} {i : Nat} {x : α} {y : β}, l[i]? = some x → f x = some y → (∀ j, j < i → ∀ z, l[j]? = some z → f z = none) → l.findSome? f = some y
  | [], i, x, y, h, _, _ => by cases h
  | a :: l, 0, x, y, h, hf, _ => by
    cases h
    rw [List.findSome?_cons, hf]
  | a :: l, i + 1, x, y, h, hf, hp => by
    rw [List.findSome?_cons, hp 0 (Nat.succ_pos _) a rfl]
    exact firstF_at (i := i) h hf fun j hj z hz => hp (j + 1) (Nat.succ_lt_succ hj) z hz
theorem firstF_some {α : Type} {l : List (Str × List α)} {i : Nat} {wd : Str} {a : α} {r : List α} (h : l[i]? = some (wd, a :: r)) (hp : ∀ j, j < i → ∀ z, l[j]? = some z → z.2 = []) : firstF l = some (wd, a) :=
  firstF_at h rfl fun j hj z hz => by rw [hp j hj z hz]; rfl
theorem firstF_none {α : Type} {l : List (Str × List α)} (hp : ∀ j, j < l.length → ∀ z, l[j]? = some z → z.2 = []) : firstF l = none := by
  unfold firstF
  rw [List.findSome?_eq_none_iff]
  intro z hz
  obtain ⟨j, hj⟩ := List.mem_iff_getElem?.mp hz
  rw [hp j (List.getElem?_eq_some_iff.mp hj).1 z hj]
  rfl
/-- the faults of the places -/
def pfinds (P : List Int) (up dn : Int → List Int) (ring : Int → Bool) (Lb : List Int) : List (Str × List Int) :=
  [("degree", P.filter (badDeg up dn)), ("roots", if (P.filter fun p => (up p).isEmpty) = [] then P else (P.filter fun p => (up p).isEmpty).drop 1), ("ring", P.filter ring), ("label", P.filter fun p => (dn p).isEmpty != decide (p ∈ Lb)),
   ("mixings", if 8 < (P.filter fun p => (up p).length == 2).length then [((P.filter fun p => (up p).length == 2).length : Int)] else [])]
theorem downsOf_mem {As Bs : List (Int × Int)} {P l : List Int} (hB : SrtA As Bs) (hP : Asc P (endsOf As ++ l)) {p q : Int} (h : q ∈ downsOf Bs p) : q ∈ P := by
  obtain ⟨b, hb, rfl⟩ := List.mem_map.mp h
  have hb := hB.1.mem_iff.mp (List.mem_filter.mp hb).1
  exact (hP.2 _).mpr (List.mem_append_left _ (List.mem_flatMap.mpr ⟨b, hb, by simp⟩))
/-- all but what stands at o -/
def But (o : Addr) (H H' : Hp) : Prop := ∀ b u, b ≠ o → H b = some u → H' b = some u
theorem But.free {o : Addr} {H H' : Hp} (h : But o H H') {b : Addr} (hb : b ≠ o) (n : H' b = none) : H b = none := by
  cases e : H b with
  | none => rfl
  | some u => rw [h b u hb e] at n; cases n
/-- Ms: Ls in order of the places -/
def SrtL (Ls Ms : List (Int × Str)) : Prop := Ms.Perm Ls ∧ SrtO.Srtd lexPS Ms
theorem seq_fld {K : PySem.W.Frag} {ta tv : TE} {f : Str} {u : TS} {D : Ends} {σ : L2.St} {H : Hp} (h : tv σ H fun y H1 => ta σ H1 fun x H2 => ∃ a C dx fs, x = .ref a ∧ H2 a = some (.ins C dx fs) ∧ Cls K C ∧ NoAttr K C f ∧ fs.length < 1000 ∧ u D σ (upd H2 a (.ins C dx (putF f y fs)))) :
    tSeq (sFld K ta tv f) u D σ H := h
theorem putK_fresh {kvs : List (Key × V)} {k : Key} {v : V} (h : k ∉ kvs.map (·.1)) : putK kvs k v = kvs ++ [(k, v)] := by
  unfold putK
  rw [if_neg]
  rw [List.any_eq_true]
  rintro ⟨kv, hkv, e⟩
  exact h (List.mem_map.mpr ⟨kv, hkv, of_decide_eq_true e⟩)
/-- a dict comprehension that only makes new things, its keys unlike -/
theorem dc_map {J : It} {n : Nat} {G : Hp → Prop} {Y : Nat → Hp → V → Hp → Prop} (w : Walk J n G Y) {g : TG} {tt : TT} {tk tv : TE} {vs : List Nat} {σ : L2.St} {H : Hp} {Q : VK} (zs : List (Key × V)) (hz : zs.length = n) (hnd : (zs.map (·.1)).Nodup) (hn : n < sizeLine)
    (hG : ∀ H', Same H H' → G H')
    (hs : ∀ (i : Nat) (x : V) (H1 H2 : Hp) (N : Hp → Prop) (B : V → V → Hp → Prop) (z : Key × V), zs[i]? = some z → Same H H1 → Y i H1 x H2 → (∀ H5, Same H1 H5 → B (kV z.1) z.2 H5) →
      g x (wipe σ vs) H2 fun σ2 H3 => wipe σ2 vs = wipe σ vs ∧ tt σ2 H3 fun b H4 => if b = true then tk σ2 H4 fun y H5 => tv σ2 H5 fun v H6 => B y v H6 else N H4)
    (hd : ∀ D H', H D = none → Same H H' → H' D = some (.dK zs) → Q (.ref D) H') : tDc (fun _ H R => R J H) g tt tk tv vs σ H Q := by
  intro D nD
  refine loop_it w (fun i H' => Same H H' ∧ H' D = some (.dK (zs.take i))) ⟨same_new (Same.refl H) nD, upd_same⟩ (fun i H' _ hp => hG H' hp.1)
    (Step := fun Nx x H' => g x (wipe σ vs) H' fun σ2 H2 => wipe σ2 vs = wipe σ vs ∧ tt σ2 H2 fun b H3 =>
      if b = true then tk σ2 H3 fun y H4 => tv σ2 H4 fun z H5 => ∃ kvs k, y = kV k ∧ H5 D = some (.dK kvs) ∧ kvs.length < sizeLine ∧ Nx (upd H5 D (.dK (putK kvs k z))) else Nx H3) ?_ ?_
  · rintro i x H1 H2 hi ⟨sm, eD⟩ hy
    obtain ⟨z, hzi⟩ : ∃ z, zs[i]? = some z := ⟨_, List.getElem?_eq_getElem (by omega)⟩
    refine hs i x H1 H2 _ _ z hzi sm hy fun H5 s5 => ⟨_, z.1, rfl, s5 _ _ eD, ?_, fun b o e => ?_, ?_⟩
    · rw [List.length_take]
      omega
    · rw [upd_ne (ne_of_none e nD)]
      exact s5 _ _ (sm _ _ e)
    · rw [upd_same, putK_fresh, ← take_snoc hzi]
      intro hm
      obtain ⟨y, hy, e⟩ := List.mem_map.mp hm
      obtain ⟨j, hj⟩ := List.mem_iff_getElem?.mp hy
      have hji : j < i := by
        have := (List.getElem?_eq_some_iff.mp hj).1
        rw [List.length_take] at this
        omega
      rw [List.getElem?_take_of_lt hji] at hj
      have h1 : (zs.map (·.1))[j]? = some z.1 := by rw [List.getElem?_map, hj, ← e]; rfl
      have h2 : (zs.map (·.1))[i]? = some z.1 := by rw [List.getElem?_map, hzi]; rfl
      have g1 := List.getElem?_eq_some_iff.mp h1
      have g2 := List.getElem?_eq_some_iff.mp h2
      exact absurd ((List.getElem_inj hnd).mp (g1.2.trans g2.2.symm)) (Nat.ne_of_lt hji)
  · rintro H' ⟨sm, eD⟩
    rw [← hz, List.take_length] at eD
    exact hd D H' nD sm eD
/-- {a: b for a, b in leaves}, {b: a for a, b in leaves} -/
theorem dc_leaves {K : PySem.W.Frag} {S : Av} {j ia ib : Nat} {a : Addr} {xs : List V} {Ls : List (Int × Str)} {tk tv : TE} {vs : List Nat} {σ : L2.St} {H : Hp} {Q : VK} (hσ : σ[j]? = some (some (.ref a))) (ea : H a = some (.lst xs)) (hA : DaAll S H xs (Ls.map ld)) (f : Int × Str → Key × V) (hnd : (Ls.map fun p => (f p).1).Nodup) (hn : Ls.length < sizeLine)
    (hw : ∀ u v, wipe (((wipe σ vs).set ia (some u)).set ib (some v)) vs = wipe σ vs)
    (hs : ∀ (p : Int × Str) (H1 : Hp) (B : V → V → Hp → Prop), B (kV (f p).1) (f p).2 H1 → tk (((wipe σ vs).set ia (some (.int p.1))).set ib (some (.str p.2))) H1 fun y H5 => tv (((wipe σ vs).set ia (some (.int p.1))).set ib (some (.str p.2))) H5 fun v H6 => B y v H6)
    (hd : ∀ D H', H D = none → Same H H' → H' D = some (.dK (Ls.map f)) → Q (.ref D) H') : tDc (iList K (tVar j)) (gTup K 2 (gCons (gName ia) (gCons (gName ib) gNil))) tYes tk tv vs σ H Q := by
  have hx : xs.length = Ls.length := by rw [hA.length, List.length_map]
  refine ⟨_, hσ, a, rfl, ⟨_, .of ea⟩, ?_⟩
  show tDc (fun _ H R => R (Itl K a) H) (gTup K 2 (gCons (gName ia) (gCons (gName ib) gNil))) tYes tk tv vs σ H Q
  refine dc_map (walk_list (K := K) (a := a) (xs := xs)) (Ls.map f) (by rw [List.length_map, hx]) (by rw [List.map_map]; exact hnd) (by rw [hx]; exact hn) (fun H' sm => .of (sm _ _ ea)) ?_ hd
  rintro i x H1 H2 N B z hz sm ⟨rfl, hxi⟩ hB
  obtain ⟨p, t, ed, rfl, nt, et⟩ := hA.ldS sm hxi
  rw [List.getElem?_map, ed] at hz
  cases hz
  refine ⟨t, _, rfl, .of et, rfl, _, _, rfl, _, _, rfl, rfl, hw _ _, ?_⟩
  exact hs p _ B (hB _ (Same.refl _))
def isAt (H : Hp) : V → IS
  | .ref t => match H t with
    | some (.tup [.int a, .str b]) => (a, b)
    | _ => (0, "")
  | _ => (0, "")
theorem isAt_eq {H : Hp} {t : Addr} {p : Int × Str} (e : H t = some (.tup [.int p.1, .str p.2])) : isAt H (.ref t) = p := by
  show (match H t with | some (.tup [.int a, .str b]) => (a, b) | _ => (0, "")) = p
  rw [e]
theorem mapP_ld {S : Av} {H : Hp} : ∀ {xs : List V} {As : List (Int × Str)}, DaAll S H xs (As.map ld) → xs.map (isAt H) = As
  | [], [], _ => rfl
  | x :: xs, p :: As, .cons h r => by
    obtain ⟨t, rfl, _, e⟩ := h.ld
    rw [List.map_cons, isAt_eq e, mapP_ld r]
theorem da_ofpd {S : Av} {H : Hp} {t : Addr} {p : Int × Int} (n : ¬ S t) (e : H t = some (.tup [.int p.1, .int p.2])) : Da S H (.ref t) (pd p) := .tup n e (.cons (.int _) (.cons (.int _) .nil))
theorem da_ofld {S : Av} {H : Hp} {t : Addr} {p : Int × Str} (n : ¬ S t) (e : H t = some (.tup [.int p.1, .str p.2])) : Da S H (.ref t) (ld p) := .tup n e (.cons (.int _) (.cons (.str _) .nil))
theorem daAll_of {S : Av} {H : Hp} {α : Type} (k : V → α) (d : α → PyData) : ∀ {ys : List V}, (∀ y ∈ ys, Da S H y (d (k y))) → DaAll S H ys ((ys.map k).map d)
  | [], _ => .nil
  | y :: ys, h => .cons (h y List.mem_cons_self) (daAll_of k d fun z hz => h z (List.mem_cons_of_mem _ hz))
theorem sorted_pdA {S : Av} {H : Hp} {xs ys : List V} {As Bs : List (Int × Int)} (h : DaAll S H xs (As.map pd)) (hB : SrtA As Bs) (h1 : SrtO.Srtd (ltP (pairAt H)) ys) (h2 : SrtO.Stb (ltP (pairAt H)) ys xs) : DaAll S H ys (Bs.map pd) := by
  have e : ys.map (pairAt H) = Bs := by
    refine SrtA.uniq (As := As) ⟨?_, SrtO.srtd_map (f := pairAt H) (lt := lexP) h1⟩ hB
    rw [← mapP_pd h]
    exact h2.perm.map _
  rw [← e]
  refine daAll_of (pairAt H) pd fun y hy => ?_
  obtain ⟨j, hj⟩ := List.mem_iff_getElem?.mp (h2.perm.mem_iff.mp hy)
  obtain ⟨p, t, _, rfl, nt, et⟩ := h.pd hj
  rw [pairAt_eq et]
  exact da_ofpd nt et
theorem sorted_ldA {S : Av} {H : Hp} {xs ys : List V} {Ls : List (Int × Str)} (h : DaAll S H xs (Ls.map ld)) (h1 : SrtO.Srtd (ltPS (isAt H)) ys) (h2 : SrtO.Stb (ltPS (isAt H)) ys xs) : ∃ Ms, SrtL Ls Ms ∧ DaAll S H ys (Ms.map ld) := by
  refine ⟨ys.map (isAt H), ⟨?_, SrtO.srtd_map (f := isAt H) (lt := lexPS) h1⟩, daAll_of (isAt H) ld fun y hy => ?_⟩
  · rw [← mapP_ld h]
    exact h2.perm.map _
  · obtain ⟨j, hj⟩ := List.mem_iff_getElem?.mp (h2.perm.mem_iff.mp hy)
    obtain ⟨p, t, _, rfl, nt, et⟩ := h.ld hj
    rw [isAt_eq et]
    exact da_ofld nt et
/-- at o a Net, apart from S -/
structure NetAt (S : Av) (K : PySem.W.Frag) (H : Hp) (o : Addr) (Bs : List (Int × Int)) (Ls Ms : List (Int × Str)) (P : List Int) (root : Int) : Prop where
  srt : SrtL Ls Ms
  ex : ∃ (dx A L M C NA PA NM : Addr) (am ac : Int → Addr) (ys zs : List V) (ns : List Str),
    H o = some (.ins (He.ga K "Net") dx [("_arrows", .ref A), ("_leaves", .ref L), ("_mothers", .ref M), ("_children", .ref C), ("_name_at", .ref NA), ("_place_at", .ref PA), ("_names", .ref NM), ("_root", .int root)]) ∧
    (H A = some (.lst ys) ∧ DaAll S H ys (Bs.map pd)) ∧ (H L = some (.lst zs) ∧ DaAll S H zs (Ms.map ld)) ∧
    (H M = some (dKs P am) ∧ DiR H M P am (upsOf Bs)) ∧ (H C = some (dKs P ac) ∧ DiR H C P ac (downsOf Bs)) ∧
    H NA = some (.dK (Ls.map fun p => ((.inl p.1 : Key), V.str p.2))) ∧ H PA = some (.dK (Ls.map fun p => ((.inr p.2 : Key), V.int p.1))) ∧
    (H NM = some (.lst (ns.map V.str)) ∧ ns.Perm (Ls.map (·.2)) ∧ sortedS ns = true) ∧
    (∀ b ∈ [o, A, L, M, C, NA, PA, NM], ¬ S b) ∧ ∀ p ∈ P, ¬ S (am p) ∧ ¬ S (ac p)
/-- all that is no instance is kept -/
def Kp (H H' : Hp) : Prop := ∀ b u, (∀ C d f, u ≠ .ins C d f) → H b = some u → H' b = some u
theorem Kp.trans {H1 H2 H3 : Hp} (h : Kp H1 H2) (k : Kp H2 H3) : Kp H1 H3 := fun b u n e => k b u n (h b u n e)
theorem Kp.lst {H H' : Hp} (h : Kp H H') {b : Addr} {xs : List V} (e : H b = some (.lst xs)) : H' b = some (.lst xs) := h b _ (fun _ _ _ z => nomatch z) e
theorem Kp.tup {H H' : Hp} (h : Kp H H') {b : Addr} {xs : List V} (e : H b = some (.tup xs)) : H' b = some (.tup xs) := h b _ (fun _ _ _ z => nomatch z) e
theorem Kp.dK {H H' : Hp} (h : Kp H H') {b : Addr} {xs : List (Key × V)} (e : H b = some (.dK xs)) : H' b = some (.dK xs) := h b _ (fun _ _ _ z => nomatch z) e
mutual
theorem Da.kp {S : Av} {H H' : Hp} (k : Kp H H') : ∀ {v : V} {d : PyData}, Da S H v d → Da S H' v d
  | _, _, .non => .non
  | _, _, .bl b => .bl b
  | _, _, .int i => .int i
  | _, _, .str x => .str x
  | _, _, .lst n e r => .lst n (Kp.lst k e) (DaAll.kp k r)
  | _, _, .tup n e r => .tup n (Kp.tup k e) (DaAll.kp k r)
theorem DaAll.kp {S : Av} {H H' : Hp} (k : Kp H H') : ∀ {vs : List V} {ds : List PyData}, DaAll S H vs ds → DaAll S H' vs ds
  | _, _, .nil => .nil
  | _, _, .cons a r => .cons (Da.kp k a) (DaAll.kp k r)
end
theorem DiR.kp {H H' : Hp} {D : Addr} {P : List Int} {adr : Int → Addr} {val : Int → List Int} (h : DiR H D P adr val) (hD : H D = some (dKs P adr)) (k : Kp H H') : DiR H' D P adr val := ⟨.inl (k.dK hD), fun p hp => k.lst (h.val p hp)⟩
theorem stage {H0 H : Hp} {o p C dx : Addr} {fs : List (Str × V)} (fs' : List (Str × V)) (u : HO) (kb : But o H0 H) (eo : H o = some (.ins C dx fs)) (np : H p = none) :
    But o H0 (upd (upd H p u) o (.ins C dx fs')) ∧ Kp H (upd (upd H p u) o (.ins C dx fs')) ∧ upd (upd H p u) o (.ins C dx fs') o = some (.ins C dx fs') ∧ upd (upd H p u) o (.ins C dx fs') p = some u ∧ p ≠ o := by
  have po : p ≠ o := fun e => by rw [e, eo] at np; cases np
  refine ⟨fun b w hb e => ?_, fun b w hw e => ?_, upd_same, by rw [upd_ne po, upd_same], po⟩
  · have e1 := kb b w hb e
    rw [upd_ne hb, upd_ne (fun z => by rw [z, np] at e1; cases e1)]
    exact e1
  · have hb : b ≠ o := fun z => by
      rw [z, eo] at e
      exact hw _ _ _ (Option.some.inj e).symm
    rw [upd_ne hb, upd_ne (fun z => by rw [z, np] at e; cases e)]
    exact e
theorem stage0 {H0 H : Hp} {o C dx : Addr} {fs : List (Str × V)} (fs' : List (Str × V)) (kb : But o H0 H) (eo : H o = some (.ins C dx fs)) :
    But o H0 (upd H o (.ins C dx fs')) ∧ Kp H (upd H o (.ins C dx fs')) ∧ upd H o (.ins C dx fs') o = some (.ins C dx fs') := by
  refine ⟨fun b w hb e => by rw [upd_ne hb]; exact kb b w hb e, fun b w hw e => ?_, upd_same⟩
  have hb : b ≠ o := fun z => by
    rw [z, eo] at e
    exact hw _ _ _ (Option.some.inj e).symm
  rw [upd_ne hb]
  exact e
theorem But.fresh {S : Av} {o p : Addr} {H H' : Hp} (h : But o H H') (hS : ∀ b, S b → ∃ u, H b = some u) (po : p ≠ o) (n : H' p = none) : ¬ S p := fun hs => by
  obtain ⟨u, hu⟩ := hS p hs
  rw [h p u po hu] at n
  cases n
theorem Same.kp {H H' : Hp} (s : Same H H') : Kp H H' := fun b u _ e => s b u e
theorem But.same {o : Addr} {H H' H'' : Hp} (h : But o H H') (s : Same H' H'') : But o H H'' := fun b u hb e => s _ _ (h b u hb e)
theorem fld_h {K : PySem.W.Frag} {ta tv : TE} {f : Str} {D : Ends} {σ : L2.St} {H : Hp} (h : tv σ H fun y H1 => ta σ H1 fun x H2 => ∃ a C dx fs, x = .ref a ∧ H2 a = some (.ins C dx fs) ∧ Cls K C ∧ NoAttr K C f ∧ fs.length < 1000 ∧ D.nx σ (upd H2 a (.ins C dx (putF f y fs)))) :
    sFld K ta tv f D σ H := h
theorem op_h {r : R2} {ta tb : TE} {σ : L2.St} {H : Hp} {Q : VK} (h : ta σ H fun x H1 => tb σ H1 fun y H2 => r x y H2 Q) : tOp r ta tb σ H Q := h
end Lg

/-! A def with a starred parameter, a starred call of a local, a written dict's copy. -/
namespace Lg
open PySem PySem.Spec PyProof.Rows L2
/-- a call of a local that holds a def, with a starred tuple alone -/
def tCallHS (P : Program) (w : World) (K : PySem.W.Frag) (mg : Str → Option Value) (base : Heap) (k i : Nat) (te : TE) : TE := fun σ H Q => ∃ f sp, σ[i]? = some (some (.ref f)) ∧ Held P w K mg base k f sp ∧
  te σ H fun y H1 => ∃ a xs, y = V.ref a ∧ (SqT K H1 a xs ∨ SqL K H1 a xs) ∧ sp xs H1 Q (fun _ _ _ => False)
theorem pe_callHS {X : Cx} {k i : Nat} {x : Str} {p pos sp_ : Pos} {e : Expr} {te : TE} (hr : Room k X.A) (hN : X.N[i]? = some x) (hv : Vis X.env.scope x) (he : PE X e te)
    (hdb : (x == ("__debug__" : Str)) = false := by decide) (hcd : (x == ("__classdict__" : Str)) = false := by decide)
    (hst : starEach [.Starred e sp_] X.env = [(true, eval e X.env)] := by rfl) : PE X (.Call (.Name x p) [.Starred e sp_] [] pos) (tCallHS X.prog X.w X.K X.mg X.base k i te) := by
  refine ⟨fun pins s σ H Q I ⟨f, sp, hs, A, ht⟩ => ?_⟩
  obtain ⟨fd, ps, F, hk, hb⟩ := A.ex
  refine wpAny_Call_Name_kw (thn ((pe_var (pos := p) hN hv hdb hcd).run pins s σ H (fun v H1 => v = .ref f ∧ H1 = H) I ⟨.ref f, hs, rfl, rfl⟩) fun u s1 ⟨v, H1, I1, r1, q1⟩ => ?_)
  obtain ⟨rfl, rfl⟩ := q1
  cases r1
  refine PySem.W.callWith_S (h₀ := X.base) I.ok.mod.kin hk (thn (he.run pins s1 σ _ _ I1 ht) fun v s2 ⟨y, H2, I2, ry, a, xs, ey, hxs, q⟩ => ?_) hst
  subst ey
  obtain rfl : v = Value.ref a := ry
  exact StX.star_any I2 hxs fun us s3 I3 rv => ⟨I3.kIn, wpAny_call (run_fnR (E := fun _ _ _ => False) (F.raw hb .nil) hr (fun _ _ _ _ _ _ _ z => z.elim) I3 rv (by rw [List.append_nil]; exact q))⟩
/-- a def by its name, told by positional values alone -/
structure OwnR (P : Program) (w : World) (K : PySem.W.Frag) (mg : Str → Option Value) (base : Heap) (k : Nat) (x : Str) (sp : Sp) : Prop where
  ex : ∃ f, FnR P w K mg base CX0 k f sp ∧ mg x = some (.ref f) ∧ PySem.W.keepIn K (.ref f) = true
theorem OwnR.up {P : Program} {w : World} {K : PySem.W.Frag} {mg : Str → Option Value} {base : Heap} {x : Str} {sp : Sp} {j k : Nat} (O : OwnR P w K mg base k x sp) (h : k ≤ j) : OwnR P w K mg base j x sp := by
  obtain ⟨f, F, r⟩ := O.ex
  exact ⟨f, F.mono h, r⟩
theorem pe_ownR {X : Cx} {k : Nat} {x : Str} {sp : Sp} {e : Expr} {es : List Expr} {t : TA} {p pos : Pos} (O : OwnR X.prog X.w X.K X.mg X.base k x sp) (hr : Room k X.A) (hg : Gl X x) (ha : PA X (e :: es) t) (hdb : (x == ("__debug__" : Str)) = false := by decide)
    (he : starEach (e :: es) X.env = (false, eval e X.env) :: starEach es X.env := by rfl) (hpl : (backTo pos (starEach es X.env)).any (·.1) = false := by rfl) :
    PE X (.Call (.Name x p) (e :: es) [] pos) (fun σ H Q => t σ H fun vs H1 => sp vs H1 Q E0) := by
  obtain ⟨f, F, gm, kp⟩ := O.ex
  refine ⟨fun pins s σ H Q I h => ?_⟩
  refine wpAny_Call_Name_kw (ld_glob I hg gm ?_ hdb)
  refine PySem.W.callWith_K (h₀ := X.base) I.ok.mod.kin kp (thn (ha.run pos pins s σ H _ I h) fun us s1 ⟨vs, H1, I1, r, q⟩ => ⟨I1.kIn, ?_⟩) he hpl
  exact wpAny_call (run_fnR F hr pass0 I1 r q)
/-- what a caller of def f(.., *v) shows -/
def starSp (n : Nat) (sp : Sp) : Sp := fun vs H Q E => ∃ ws rest, vs = ws ++ rest ∧ ws.length = n ∧ rest.length ≤ sizeLine ∧ ∀ p, H p = Option.none → sp (ws ++ [V.ref p]) (upd H p (.tup rest)) Q E
section
variable {P : Program} {w : World} {K : PySem.W.Frag} {mg : Str → Option Value} {base : Heap}
theorem okStar {x qual pv : Str} {st : Stmt} {f : Addr} {fd : FuncData} {N ps : List Str} {k : Nat} {sp : Sp} (F : Fun K x qual st f fd) (S : FnScope N (ps ++ [pv]) (defScope st))
    (hb : ∀ (kV doc pm : Value) (an : Option Addr) (cdv ct : Value), ∀ us rest : List Value, us.length = ps.length → bindArgs (PySem.W.fnOf x qual (defArgs st) (defBody st) (defScope st) .none kV doc pm an cdv ct) ⟨us ++ rest, []⟩ = (newTuple rest >>= fun t => pure (ps.zip us ++ [(pv, t)])))
    (hbody : ∀ (cdv : Value) (A : Around) (outer : List Env) (s : Shared) (H : Hp) (vs : List V) (Q : VK) (E : XK), Room k (A.deeper (envOfC qual (defScope st) s.heap.objs.size f cdv)) → sp vs H Q E →
      ∃ t, PSs (cxOf CX0 P w K mg base N qual (defScope st) f cdv A outer s H E).nox (defBody st) t ∧ t { nx := fun _ H' => Q .non H', rt := Q } (start N vs) H) : FnR P w K mg base CX0 (k + 1) f (starSp ps.length sp) := by
  obtain ⟨oc, od, kV, doc, pm, an, cdv, ct, osl, rfl, lk, hcd⟩ := F.ex
  refine StX.fn_star lk hcd S StX.cxUp_none (hb kV doc pm an cdv ct) fun A outer s H vs Q E hr hsp => ?_
  obtain ⟨t, h, q⟩ := hbody cdv A outer s H vs Q E hr hsp
  exact ⟨t, h.nox, q⟩
end
/-! ### dict(d), d a written table with text keys whose values are defs -/
structure KVals (K : PySem.W.Frag) (d : Addr) (as : List Addr) : Prop where
  ex : ∃ es n, K.lookup d = some ⟨.type "dict", none, .dict es n, #[]⟩ ∧ es.toList.map (·.val) = as.map Value.ref
abbrev tabO (ks : List Str) (as : List Addr) : HO := .dK ((ks.zip as).map fun ka => ((.inr ka.1 : Key), V.ref ka.2))
def rDictW (K : PySem.W.Frag) (w : World) : List V → Hp → VK → Prop := fun xs H Q => ∃ d ks as, xs = [.ref d] ∧ KTab K w d ks ∧ KVals K d as ∧ ks.length = as.length ∧ ks.length ≤ 1000 ∧ ∀ p, H p = none → Q (.ref p) (upd H p (tabO ks as))
theorem pairs_mix {P : Program} {w : World} : ∀ {l : List DictEntry} {kvs : List (Str × Value)}, PySem.Pairs (PySem.strKind P w) l kvs → PySem.Pairs (mixKind P w) l (kvs.map fun kv => ((.inr kv.1 : Key), kv.2))
  | _, _, .nil => .nil
  | _, _, .cons h e r => .cons h e (pairs_mix r)
theorem kv_refs : ∀ {ks : List Str} {as : List Addr}, KV ((ks.zip as).map fun ka => ((.inr ka.1 : Key), V.ref ka.2)) ((ks.zip (as.map Value.ref)).map fun ka => ((.inr ka.1 : Key), ka.2))
  | [], _ => .nil
  | _ :: _, [] => .nil
  | _ :: _, _ :: _ => .cons ⟨rfl, rfl⟩ kv_refs
theorem zip_fst {α β : Type} : ∀ {ks : List α} {as : List β}, ks.length = as.length → (ks.zip as).map (·.1) = ks := fun h => List.map_fst_zip (by omega)
theorem zip_unzip' {α β : Type} : ∀ (l : List (α × β)), (l.map (·.1)).zip (l.map (·.2)) = l
  | [] => rfl
  | (a, b) :: l => by rw [List.map_cons, List.map_cons, List.zip_cons_cons, zip_unzip' l]
theorem cr_dictW {X : Cx} : CallR X (.type "dict") (rDictW X.K X.w) := by
  intro pins s σ H xs us Q I r h
  obtain ⟨d, ks, as, rfl, D, ⟨es0, n0, l0, vals⟩, hl, hz, q⟩ := h
  rw [Vals.ref1 r]
  obtain ⟨o, es, n, kvs, ho, hx, hdt, hsz, hks, hat, hlk⟩ := D.at_ I
  rw [l0] at hlk
  obtain rfl : es0 = es := by injection hlk with q; injection q with _ _ q _; injection q
  obtain ⟨o2, es2, ho2, hx2, hd2, hk2, hp2, hn2⟩ := hat
  obtain rfl : o = o2 := Option.some.inj (ho.symm.trans ho2)
  rw [hdt] at hd2
  obtain rfl : es0 = es2 := by injection hd2
  have ekv : kvs = ks.zip (as.map Value.ref) := by
    have : ∀ {l : List DictEntry} {m : List (Str × Value)}, PySem.Pairs (PySem.strKind X.prog X.w) l m → m.map (·.2) = l.map (·.val) := fun h => by
      induction h with
      | nil => rfl
      | cons _ e _ ih => rw [List.map_cons, List.map_cons, ih, e]
    have h2 := this hp2
    rw [vals] at h2
    rw [← hks, ← h2]
    exact (zip_unzip' kvs).symm
  have dd : s.heap.DictOf (mixKind X.prog X.w) d (kvs.map fun kv => ((.inr kv.1 : Key), kv.2)) := by
    refine ⟨o, es0, n, ho, hx, hdt, fun e he => ?_, pairs_mix hp2, ?_⟩
    · obtain ⟨k, h1, h2⟩ := hk2 e he
      exact ⟨.inr k, h1, h2⟩
    · rw [List.map_map]
      have : (kvs.map ((fun x : Key × Value => x.1) ∘ fun kv => ((.inr kv.1 : Key), kv.2))) = (kvs.map (·.1)).map Sum.inr := by rw [List.map_map]; rfl
      rw [this]
      exact List.Pairwise.map _ (fun a b h e => h (Sum.inr.inj e)) hn2
  have lk : kvs.length = ks.length := by rw [← hks, List.length_map]
  have sz : (1000 : Nat) ≤ sizeLine := by decide
  refine kt_call_dict D.low dd (by rw [List.length_map]; omega) fun h' d' hs => ?_
  have hm : (s.heap.objs.size == sysModules) = false := beq_eq_false_iff_ne.mpr (Nat.ne_of_gt I.big)
  refine ⟨.ref s.heap.objs.size, upd H s.heap.objs.size (tabO ks as), I.laid (t' := s.toks) (fun b u e => (hs.2 b (Nat.ne_of_lt (Heap.lt_size e))).trans (Heap.get?_push_of_some _ e)) (Nat.le_refl _)
    (show ObjOk X.prog X.w _ _ _ (.dK _) from ⟨by rw [List.length_map, List.length_zip]; omega, hm, _, kv_refs, ?_⟩), rfl, q _ (I.hok.fresh (Nat.le_refl _))⟩
  rw [ekv] at d'
  exact d'
theorem valV_tab {ks : List Str} {as : List Addr} {i : Nat} {k : Str} {a : Addr} (nd : ks.Nodup) (h1 : ks[i]? = some k) (h2 : as[i]? = some a) : valV ((ks.zip as).map fun ka => ((.inr ka.1 : Key), V.ref ka.2)) (.inr k) = some (.ref a) := by
  induction ks generalizing as i with
  | nil => cases h1
  | cons z ks ih =>
    cases as with
    | nil => cases h2
    | cons b as =>
      cases i with
      | zero =>
        cases h1
        cases h2
        unfold valV
        rw [List.zip_cons_cons, List.map_cons, List.find?_cons_of_pos (by simp)]
        rfl
      | succ i =>
        have h1 : ks[i]? = some k := h1
        have hne : z ≠ k := fun e => (List.nodup_cons.mp nd).1 (e ▸ List.mem_of_getElem? h1)
        have := ih (List.nodup_cons.mp nd).2 h1 h2
        unfold valV at this ⊢
        rw [List.zip_cons_cons, List.map_cons, List.find?_cons_of_neg (by simpa using hne)]
        exact this
theorem refsB_vals : ∀ {l : List DictEntry} {as : List Addr}, l.length = as.length → ((l.zip as).all fun p => match p.1.val with | .ref b => b == p.2 | _ => false) = true → l.map (·.val) = as.map Value.ref
  | [], [], _, _ => rfl
  | e :: l, a :: as, hl, h => by
    rw [List.zip_cons_cons, List.all_cons, Bool.and_eq_true] at h
    rw [List.map_cons, List.map_cons, refsB_vals (Nat.succ.inj hl) h.2]
    have h1 := h.1
    split at h1
    · rename_i b e1
      have : b = a := by simpa using h1
      rw [show e.val = Value.ref b from e1, this]
    · cases h1
theorem refsB_ok {K : PySem.W.Frag} {d : Addr} {as : List Addr} (h : refsB K d as = true) : KVals K d as := by
  unfold refsB at h
  split at h
  · rename_i es n sl e
    rw [Bool.and_eq_true, Bool.and_eq_true] at h
    obtain ⟨⟨h1, h2⟩, h3⟩ := h
    have : sl = #[] := Array.isEmpty_iff.mp h1
    rw [this] at e
    exact ⟨es, n, e, refsB_vals (by rw [Array.length_toList]; simpa using h2) h3⟩
  · cases h
theorem firstF_map {ls : List (Str × List Nat)} (h : firstF ls = none) : firstF (ls.map fun p => (p.1, p.2.map fun n : Nat => (n : Int))) = none := by
  unfold firstF at *
  rw [List.findSome?_eq_none_iff] at h ⊢
  intro p hp
  obtain ⟨r, hr, rfl⟩ := List.mem_map.mp hp
  have := h r hr
  cases e : r.2 with
  | nil => rfl
  | cons a l => rw [e] at this; cases this
end Lg

/-! The downward order: at each step the least place that is left and whose mothers are all told. -/
namespace Lg
open PySem PySem.Spec PyProof.Rows L2
abbrev dIs (P : List Int) (m : Int → Int) : HO := .dK (P.map fun p => ((.inl p : Key), V.int (m p)))
theorem valV_dIs {P : List Int} {m : Int → Int} {q : Int} (h : q ∈ P) : valV (P.map fun p => ((.inl p : Key), V.int (m p))) (.inl q) = some (.int (m q)) := by
  unfold valV
  rw [List.find?_map]
  have : ∃ r, P.find? ((fun kv : Key × V => decide (kv.1 = (.inl q : Key))) ∘ fun p => ((.inl p : Key), V.int (m p))) = some r ∧ r = q := by
    cases e : P.find? ((fun kv : Key × V => decide (kv.1 = (.inl q : Key))) ∘ fun p => ((.inl p : Key), V.int (m p))) with
    | none =>
      have := List.find?_eq_none.mp e q h
      simp at this
    | some r =>
      have := List.find?_some e
      simp at this
      exact ⟨r, rfl, this⟩
  obtain ⟨r, h1, rfl⟩ := this
  rw [h1]
  rfl
theorem putK_dIs {P : List Int} {m : Int → Int} {q v : Int} (h : q ∈ P) : putK (P.map fun p => ((.inl p : Key), V.int (m p))) (.inl q) (.int v) = P.map fun p => ((.inl p : Key), V.int (if p = q then v else m p)) := by
  unfold putK
  rw [if_pos (by rw [List.any_map, List.any_eq_true]; exact ⟨q, h, by simp⟩), List.map_map]
  refine List.map_congr_left fun p _ => ?_
  by_cases e : p = q
  · subst e
    simp
  · simp [e]
inductive Greedy (up : Int → List Int) : List Int → List Int → Prop
  | nil : Greedy up [] []
  | cons {p : Int} {left L : List Int} (hp : p ∈ left) (hu : ∀ q ∈ up p, q ∉ left) (hm : ∀ r ∈ left, (∀ q ∈ up r, q ∉ left) → p ≤ r) (r : Greedy up (left.erase p) L) : Greedy up left (p :: L)
theorem Greedy.len {up : Int → List Int} {left L : List Int} (h : Greedy up left L) : L.length = left.length := by
  induction h with
  | nil => rfl
  | cons hp _ _ _ ih =>
    rw [List.length_cons, ih, List.length_erase_of_mem hp]
    have := List.length_pos_of_mem hp
    omega
/-- mothers of q that are left -/
def miss (Bs : List (Int × Int)) (left : List Int) (q : Int) : Int := (Bs.countP fun b => b.2 == q && decide (b.1 ∈ left) : Nat)
theorem mem_ups {Bs : List (Int × Int)} {p q : Int} : p ∈ upsOf Bs q ↔ (p, q) ∈ Bs := by
  unfold upsOf
  rw [List.mem_map]
  constructor
  · rintro ⟨b, hb, rfl⟩
    obtain ⟨h1, h2⟩ := List.mem_filter.mp hb
    rw [beq_iff_eq] at h2
    subst h2
    exact h1
  · exact fun h => ⟨(p, q), List.mem_filter.mpr ⟨h, by simp⟩, rfl⟩
theorem mem_downs {Bs : List (Int × Int)} {p q : Int} : q ∈ downsOf Bs p ↔ (p, q) ∈ Bs := by
  unfold downsOf
  rw [List.mem_map]
  constructor
  · rintro ⟨b, hb, rfl⟩
    obtain ⟨h1, h2⟩ := List.mem_filter.mp hb
    rw [beq_iff_eq] at h2
    subst h2
    exact h1
  · exact fun h => ⟨(p, q), List.mem_filter.mpr ⟨h, by simp⟩, rfl⟩
theorem miss_zero {Bs : List (Int × Int)} {left : List Int} {q : Int} : miss Bs left q = 0 ↔ ∀ u ∈ upsOf Bs q, u ∉ left := by
  unfold miss
  rw [Int.natCast_eq_zero, List.countP_eq_zero]
  constructor
  · intro h u hu hl
    refine h (u, q) (mem_ups.mp hu) ?_
    simp [hl]
  · rintro h ⟨u, q'⟩ hb e
    rw [Bool.and_eq_true, beq_iff_eq, decide_eq_true_eq] at e
    obtain ⟨rfl, hl⟩ := e
    exact h u (mem_ups.mpr hb) hl
theorem miss_all {Bs : List (Int × Int)} {P : List Int} {q : Int} (h : ∀ b ∈ Bs, b.1 ∈ P) : miss Bs P q = ((upsOf Bs q).length : Nat) := by
  unfold miss upsOf
  rw [List.length_map, ← List.countP_eq_length_filter]
  congr 1
  refine List.countP_congr fun b hb => ?_
  simp [h b hb]
theorem count_downs {Bs : List (Int × Int)} {p q : Int} : (downsOf Bs p).count q = Bs.countP fun b => b.2 == q && b.1 == p := by
  unfold downsOf
  rw [List.count, List.countP_map, List.countP_filter]
  rfl
theorem miss_erase {Bs : List (Int × Int)} {left : List Int} {p q : Int} (nd : left.Nodup) (hp : p ∈ left) : miss Bs (left.erase p) q = miss Bs left q - ((downsOf Bs p).count q : Nat) := by
  rw [count_downs]
  unfold miss
  have : (Bs.countP fun b => b.2 == q && decide (b.1 ∈ left)) = (Bs.countP fun b => b.2 == q && decide (b.1 ∈ left.erase p)) + Bs.countP fun b => b.2 == q && b.1 == p := by
    induction Bs with
    | nil => rfl
    | cons b Bs ih =>
      rw [List.countP_cons, List.countP_cons, List.countP_cons, ih]
      have h1 : b.1 ∈ left.erase p ↔ b.1 ≠ p ∧ b.1 ∈ left := List.Nodup.mem_erase_iff nd
      by_cases h2 : b.2 = q
      · by_cases h3 : b.1 = p
        · have : ¬ b.1 ∈ left.erase p := fun z => (h1.mp z).1 h3
          have h4 : b.1 ∈ left := h3 ▸ hp
          have h5 : p ∉ left.erase p := h3 ▸ this
          simp [h2, h3, hp, h5]
          try omega
        · have e : (b.1 ∈ left.erase p) = (b.1 ∈ left) := propext ⟨fun z => (h1.mp z).2, fun z => h1.mpr ⟨h3, z⟩⟩
          simp [h2, h3, e]
          omega
      · simp [h2]
  omega
/-- who is told next -/
def rdy (Bs : List (Int × Int)) (left : List Int) (q : Int) : Prop := q ∈ left ∧ ∀ u ∈ upsOf Bs q, u ∉ left
theorem rdy_some {Bs : List (Int × Int)} {rank : Int → Nat} (hr : ∀ b ∈ Bs, rank b.1 < rank b.2) : ∀ {left : List Int}, left ≠ [] → ∃ q, rdy Bs left q := by
  intro left h
  obtain ⟨q, hq, hm⟩ : ∃ q ∈ left, ∀ r ∈ left, rank q ≤ rank r := by
    clear hr
    induction left with
    | nil => exact absurd rfl h
    | cons a l ih =>
      by_cases e : l = []
      · subst e
        exact ⟨a, by simp, fun r hr => by simp at hr; subst hr; exact Nat.le_refl _⟩
      · obtain ⟨q, hq, hm⟩ := ih e
        by_cases c : rank a ≤ rank q
        · exact ⟨a, by simp, fun r hr => by
            rcases List.mem_cons.mp hr with rfl | hr
            · exact Nat.le_refl _
            · exact Nat.le_trans c (hm r hr)⟩
        · exact ⟨q, List.mem_cons_of_mem _ hq, fun r hr => by
            rcases List.mem_cons.mp hr with rfl | hr
            · omega
            · exact hm r hr⟩
  refine ⟨q, hq, fun u hu hl => ?_⟩
  have h1 := hr _ (mem_ups.mp hu)
  have h2 := hm u hl
  exact absurd h1 (by show ¬ rank u < rank q; omega)
theorem eraseIdx_erase {r : List Int} {p : Int} {j : Nat} (h1 : r[j]? = some p) (h2 : ∀ m : Nat, m < j → r[m]? ≠ some p) : r.eraseIdx j = r.erase p := by
  induction r generalizing j with
  | nil => cases h1
  | cons a r ih =>
    cases j with
    | zero =>
      cases h1
      simp
    | succ j =>
      have ha : a ≠ p := fun e => h2 0 (by omega) (by rw [e]; rfl)
      rw [List.eraseIdx_cons_succ, List.erase_cons_tail (by simpa using ha)]
      rw [ih h1 fun m hm => h2 (m + 1) (by omega)]
theorem idx_first {r : List Int} {p : Int} (h : p ∈ r) : ∃ j : Nat, r[j]? = some p ∧ ∀ m : Nat, m < j → r[m]? ≠ some p := by
  induction r with
  | nil => simp at h
  | cons a r ih =>
    by_cases e : a = p
    · exact ⟨0, by rw [e]; rfl, fun m hm => by omega⟩
    · obtain ⟨j, h1, h2⟩ := ih ((List.mem_cons.mp h).resolve_left (Ne.symm e))
      refine ⟨j + 1, h1, fun m hm => ?_⟩
      cases m with
      | zero => exact fun z => e (Option.some.inj z)
      | succ m => exact h2 m (by omega)
theorem countP_take_lt {ds : List Int} {j : Nat} {c : Int} (h : ds[j]? = some c) : (ds.take j).count c + 1 ≤ ds.count c := by
  have e : ds = ds.take j ++ ds.drop j := (List.take_append_drop j ds).symm
  have e2 : ds.drop j = c :: ds.drop (j + 1) := by
    rw [List.drop_eq_getElem_cons (List.getElem?_eq_some_iff.mp h).1, (List.getElem?_eq_some_iff.mp h).2]
  have : ds.count c = (ds.take j).count c + (ds.drop j).count c := by
    conv => lhs; rw [e]
    rw [List.count_append]
  rw [this, e2, List.count_cons_self]
  omega
theorem count_take_succ {ds : List Int} {j : Nat} {c q : Int} (h : ds[j]? = some c) : (ds.take (j + 1)).count q = (ds.take j).count q + if q = c then 1 else 0 := by
  rw [List.take_succ, h]
  simp only [Option.toList_some, List.count_append]
  rw [List.count_singleton]
  by_cases e : q = c
  · simp [e]
  · simp [e, Ne.symm e]
/-- {..: .. for p in d}, d a dict of lists, by whatever way it comes -/
theorem dc_dict {td tk tv : TE} {ip : Nat} {M : Addr} {P : List Int} {am : Int → Addr} {vs : List Nat} {σ : L2.St} {H : Hp} {Q : VK} (hM : H M = some (dKs P am)) (hn : P.length < sizeLine) (hnd : P.Nodup) (val : Int → V)
    (htd : ∀ (od : Obj) (R : V → Hp → Prop), R (.ref M) (upd H M (.frz od (dKs P am))) → td σ (upd H M (.frz od (dKs P am))) R)
    (hs : ∀ p ∈ P, ∀ (od : Obj) (H1 : Hp) (B : V → V → Hp → Prop), Same (upd H M (.frz od (dKs P am))) H1 → (∀ H5, Same H1 H5 → B (.int p) (val p) H5) →
      gName ip (.int p) (wipe σ vs) H1 fun σ2 H3 => wipe σ2 vs = wipe σ vs ∧ tk σ2 H3 fun y H5 => tv σ2 H5 fun v H6 => B y v H6)
    (hd : ∀ D H', H D = none → Same H H' → H' D = some (.dK (P.map fun p => ((.inl p : Key), val p))) → Q (.ref D) H') : tLockE (tDc (iKeys td) (gName ip) tYes tk tv vs) σ H Q := by
  refine ⟨M, _, hM, trivial, fun od => htd od _ ⟨M, od, rfl, .inl ⟨_, upd_same, ?_⟩⟩⟩
  show tDc (fun _ H R => R (Itk M od (P.map fun p => ((.inl p : Key), V.ref (am p)))) H) (gName ip) tYes tk tv vs σ (upd H M (.frz od (dKs P am))) (fun v H' => H' M = some (.frz od (dKs P am)) ∧ Q v (upd H' M (dKs P am)))
  refine dc_map (walk_keys (d := M) (o := od) (kvs := P.map fun p => ((.inl p : Key), V.ref (am p)))) (P.map fun p => ((.inl p : Key), val p)) (by rw [List.length_map, List.length_map]) ?_ (by rw [List.length_map]; exact hn) (fun H' sm => sm _ _ upd_same) ?_ ?_
  · rw [List.map_map]
    exact List.pairwise_map.mpr (hnd.imp fun h e => h (Sum.inl.inj e))
  · rintro i x H1 H2 N B z hz sm ⟨rfl, k0, v0, hk, rfl⟩ hB
    rw [List.getElem?_map] at hk hz
    obtain ⟨p, hp, hp2⟩ := Option.map_eq_some_iff.mp hk
    cases hp2
    rw [hp] at hz
    cases hz
    exact hs p (List.mem_of_getElem? hp) od _ _ sm hB
  · intro D H' nD sm eD
    have nDM : D ≠ M := fun z => by rw [z, upd_same] at nD; cases nD
    refine ⟨sm _ _ upd_same, hd D _ (by rw [upd_ne nDM] at nD; exact nD) (fun b o eb => ?_) (by rw [upd_ne nDM]; exact eD)⟩
    by_cases hb : b = M
    · subst hb
      rw [hM] at eb
      rw [upd_same]
      exact eb
    · rw [upd_ne hb]
      exact sm _ _ (by rw [upd_ne hb]; exact eb)
end Lg

/-! Lists that give a net: no fault is found, and what stays of it when it is numbered anew. -/
namespace Lg
open PySem PySem.Spec PyProof.Rows L2
def upN (As : List (Int × Int)) (p : Int) : Nat := As.countP fun a => a.2 == p
def dnN (As : List (Int × Int)) (p : Int) : Nat := As.countP fun a => a.1 == p
structure Good (As : List (Int × Int)) (Ls : List (Int × Str)) (P : List Int) : Prop where
  asc : Asc P (endsOf As ++ Ls.map (·.1))
  p64 : P.length < 64
  rng : ∀ p ∈ P, 0 ≤ p ∧ p ≤ 9999
  a46 : As.length ≤ 46
  nd : As.Nodup
  l12 : 1 ≤ Ls.length ∧ Ls.length ≤ 12
  lp : (Ls.map (·.1)).Nodup
  ln : (Ls.map (·.2)).Nodup
  nm : ∀ l ∈ Ls, nameL l.2.cps.toList = true ∧ l.2.length ≤ 8
  rank : ∃ rank : Int → Nat, ∀ a ∈ As, rank a.1 < rank a.2
  deg : ∀ p ∈ P, (p ∈ Ls.map (·.1) ∧ dnN As p = 0 ∧ upN As p ≤ 1) ∨ (p ∉ Ls.map (·.1) ∧ ((dnN As p = 1 ∧ upN As p = 2) ∨ (dnN As p = 2 ∧ upN As p ≤ 1)))
  root : ∃ r ∈ P, ∀ p ∈ P, upN As p = 0 ↔ p = r
  mix : (P.filter fun p => upN As p == 2).length ≤ 8
theorem srt_exists {α : Type} {lt : α → α → Bool} (O : SrtO.Swo lt) : ∀ l : List α, ∃ b, b.Perm l ∧ SrtO.Srtd lt b
  | [] => ⟨[], .nil, .nil⟩
  | y :: l => by
    obtain ⟨b, hp, hs⟩ := srt_exists O l
    have key : ∀ b : List α, SrtO.Srtd lt b → ∃ M N, b = M ++ N ∧ (∀ x ∈ M, lt y x = false) ∧ ∀ x ∈ N, lt y x = true := by
      intro b
      induction b with
      | nil => exact fun _ => ⟨[], [], rfl, by simp, by simp⟩
      | cons a b ih =>
        intro h
        cases c : lt y a with
        | true => exact ⟨[], a :: b, rfl, by simp, O.lt_all h c⟩
        | false =>
          obtain ⟨M, N, e, h1, h2⟩ := ih (List.pairwise_cons.mp h).2
          refine ⟨a :: M, N, by rw [e]; rfl, fun x hx => ?_, h2⟩
          rcases List.mem_cons.mp hx with rfl | hx
          · exact c
          · exact h1 x hx
    obtain ⟨M, N, rfl, h1, h2⟩ := key b hs
    exact ⟨M ++ y :: N, List.perm_middle.trans (.cons _ hp), SrtO.ins_srtd O hs h1 h2⟩
theorem srtA_exists (As : List (Int × Int)) : ∃ Bs, SrtA As Bs := srt_exists swo_lexP As
theorem asc_exists : ∀ l : List Int, ∃ P, Asc P l
  | [] => ⟨[], .nil, fun _ => Iff.rfl⟩
  | x :: l => by
    obtain ⟨P, h1, h2⟩ := asc_exists l
    by_cases hx : x ∈ P
    · refine ⟨P, h1, fun k => ?_⟩
      rw [h2, List.mem_cons]
      exact ⟨.inr, fun h => h.elim (fun e => e ▸ (h2 x).mp hx) id⟩
    · refine ⟨P.filter (fun y => decide (y < x)) ++ x :: P.filter (fun y => decide (x < y)), ?_, fun k => ?_⟩
      · refine List.pairwise_append.mpr ⟨h1.filter _, List.pairwise_cons.mpr ⟨fun y hy => ?_, h1.filter _⟩, fun a ha b hb => ?_⟩
        · simpa using (List.mem_filter.mp hy).2
        · have h3 : a < x := by simpa using (List.mem_filter.mp ha).2
          rcases List.mem_cons.mp hb with rfl | hb
          · exact h3
          · have h4 : x < b := by simpa using (List.mem_filter.mp hb).2
            omega
      · rw [List.mem_append, List.mem_cons, List.mem_filter, List.mem_filter, List.mem_cons, ← h2, decide_eq_true_eq, decide_eq_true_eq]
        constructor
        · rintro (h | rfl | h)
          · exact .inr h.1
          · exact .inl rfl
          · exact .inr h.1
        · rintro (rfl | h)
          · exact .inr (.inl rfl)
          · have : k ≠ x := fun e => hx (e ▸ h)
            by_cases h3 : k < x
            · exact .inl ⟨h, h3⟩
            · exact .inr (.inr ⟨h, by omega⟩)
theorem notin_take {α : Type} {l : List α} (h : l.Nodup) {i : Nat} {x : α} (e : l[i]? = some x) : x ∉ l.take i := fun hm => by
  obtain ⟨j, hj⟩ := List.mem_iff_getElem?.mp hm
  have hji : j < i := by
    have := (List.getElem?_eq_some_iff.mp hj).1
    rw [List.length_take] at this
    omega
  rw [List.getElem?_take_of_lt hji] at hj
  have g1 := List.getElem?_eq_some_iff.mp hj
  have g2 := List.getElem?_eq_some_iff.mp e
  exact absurd ((List.getElem_inj h).mp (g1.2.trans g2.2.symm)) (Nat.ne_of_lt hji)
theorem asOf_pd (As : List (Int × Int)) : asOf (As.map pd) = As := by
  unfold asOf
  rw [List.map_map]
  exact List.map_id As
theorem lsOf_ld (Ls : List (Int × Str)) : lsOf (Ls.map ld) = Ls := by
  unfold lsOf
  rw [List.map_map]
  exact List.map_id Ls
theorem atB_none {α : Type} {p : α → Bool} {l : List α} (h : ∀ d ∈ l, p d = false) : atB p l = [] := by
  unfold atB
  refine List.filter_eq_nil_iff.mpr fun i _ => ?_
  cases e : l[i]? with
  | none => simp
  | some d => simpa using h d (List.mem_of_getElem? e)
section
variable {As : List (Int × Int)} {Ls : List (Int × Str)} {P : List Int} (g : Good As Ls P)
include g
theorem Good.ends : ∀ a ∈ As, a.1 ∈ P ∧ a.2 ∈ P := fun a ha => by
  have h1 : ∀ k, k ∈ [a.1, a.2] → k ∈ P := fun k hk => (g.asc.2 k).mpr (List.mem_append_left _ (List.mem_flatMap.mpr ⟨a, ha, hk⟩))
  exact ⟨h1 _ (by simp), h1 _ (by simp)⟩
theorem Good.lab : ∀ l ∈ Ls, l.1 ∈ P := fun l hl => (g.asc.2 _).mpr (List.mem_append_right _ (List.mem_map_of_mem hl))
theorem Good.lf : firstF (lfinds (As.map pd) (Ls.map ld)) = none := by
  have pl : ∀ p ∈ P, placeD (.int p) = true := fun p hp => by
    have := g.rng p hp
    show (decide (0 ≤ p) && decide (p ≤ 9999)) = true
    simp [this]
  refine firstF_none fun j hj z hz => ?_
  unfold lfinds at hz hj
  rw [asOf_pd, lsOf_ld] at hz
  rcases j with _ | _ | _ | _ | _ | _ | _ | j
  · cases hz
    have h1 := g.a46
    have h2 := g.l12.2
    show (List.range 2).filter (fun i => if i = 0 then decide (46 < (As.map pd).length) else decide (12 < (Ls.map ld).length)) = []
    rw [List.length_map, List.length_map, decide_eq_false (by omega), decide_eq_false (by omega)]
    simp
  · cases hz
    refine atB_none fun d hd => ?_
    obtain ⟨a, ha, rfl⟩ := List.mem_map.mp hd
    have := g.ends a ha
    show (!(placeD (.int a.1) && placeD (.int a.2))) = false
    rw [pl _ this.1, pl _ this.2]
    rfl
  · cases hz
    refine atB_none fun d hd => ?_
    obtain ⟨a, ha, rfl⟩ := List.mem_map.mp hd
    show (!(placeD (.int a.1) && isStrD (.str a.2))) = false
    rw [pl _ (g.lab a ha)]
    rfl
  · cases hz
    refine atB_none fun d hd => ?_
    rw [(g.nm d hd).1]
    rfl
  · cases hz
    refine List.filter_eq_nil_iff.mpr fun i _ => ?_
    cases e : Ls[i]? with
    | none => simp
    | some d =>
      have h1 := notin_take g.lp (i := i) (x := d.1) (by rw [List.getElem?_map, e]; rfl)
      have h2 := notin_take g.ln (i := i) (x := d.2) (by rw [List.getElem?_map, e]; rfl)
      rw [Option.any_some, decide_eq_false h1, decide_eq_false h2]
      decide
  · cases hz
    refine List.filter_eq_nil_iff.mpr fun i _ => ?_
    cases e : As[i]? with
    | none => simp
    | some d =>
      rw [Option.any_some, decide_eq_false (notin_take g.nd e)]
      decide
  · cases hz
    have h1 := g.l12.1
    have : Ls.map ld ≠ [] := fun e => by
      have := congrArg List.length e
      rw [List.length_map] at this
      simp only [List.length_nil] at this
      omega
    show (if Ls.map ld = [] then [0] else []) = []
    rw [if_neg this]
  · cases hz
theorem ups_len {Bs : List (Int × Int)} (hB : SrtA As Bs) (p : Int) : (upsOf Bs p).length = upN As p := by
  unfold upsOf upN
  rw [List.length_map, ← List.countP_eq_length_filter]
  exact hB.1.countP_eq _
theorem downs_len {Bs : List (Int × Int)} (hB : SrtA As Bs) (p : Int) : (downsOf Bs p).length = dnN As p := by
  unfold downsOf dnN
  rw [List.length_map, ← List.countP_eq_length_filter]
  exact hB.1.countP_eq _
omit g in
theorem isEmpty_len {α : Type} (l : List α) : l.isEmpty = (l.length == 0) := by cases l <;> rfl
theorem Good.noring {Bs : List (Int × Int)} (hB : SrtA As Bs) : ∀ p ∈ P, (fun _ : Int => false) p = true ↔ Und (downsOf Bs) p p := by
  intro p _
  refine ⟨fun h => (by cases h), fun h => ?_⟩
  obtain ⟨rank, hr⟩ := g.rank
  have hr' : ∀ u q, q ∈ downsOf Bs u → rank u < rank q := fun u q h => hr (u, q) (hB.1.mem_iff.mp (mem_downs.mp h))
  have : ∀ q, Und (downsOf Bs) p q → rank p < rank q := fun q h => by
    induction h with
    | base h => exact hr' _ _ h
    | step _ h ih => exact Nat.lt_trans ih (hr' _ _ h)
  exact absurd (this p h) (Nat.lt_irrefl _)
theorem Good.roots {Bs : List (Int × Int)} (hB : SrtA As Bs) : ∃ r ∈ P, (P.filter fun p => (upsOf Bs p).isEmpty) = [r] ∧ ∀ p ∈ P, upsOf Bs p = [] ↔ p = r := by
  obtain ⟨r, hr, h⟩ := g.root
  have h2 : ∀ p ∈ P, upsOf Bs p = [] ↔ p = r := fun p hp => by
    rw [← h p hp, ← ups_len g hB, List.length_eq_zero_iff]
  refine ⟨r, hr, ?_, h2⟩
  have e : (P.filter fun p => (upsOf Bs p).isEmpty) = P.filter fun p => p == r := List.filter_congr fun p hp => by
    rw [Bool.eq_iff_iff, List.isEmpty_iff, beq_iff_eq]
    exact h2 p hp
  rw [e, List.filter_beq, g.asc.nodup.count, if_pos hr]
  rfl
theorem Good.pf {Bs : List (Int × Int)} (hB : SrtA As Bs) : firstF (pfinds P (upsOf Bs) (downsOf Bs) (fun _ => false) (Ls.map (·.1))) = none := by
  obtain ⟨r, hr, hf, _⟩ := g.roots hB
  refine firstF_none fun j hj z hz => ?_
  unfold pfinds at hz hj
  rcases j with _ | _ | _ | _ | _ | j
  · cases hz
    refine List.filter_eq_nil_iff.mpr fun p hp => ?_
    unfold badDeg
    rw [ups_len g hB, downs_len g hB]
    rcases g.deg p hp with ⟨_, h1, h2⟩ | ⟨_, ⟨h1, h2⟩ | ⟨h1, h2⟩⟩
    · rw [h1]
      rcases Nat.le_one_iff_eq_zero_or_eq_one.mp h2 with e | e <;> rw [e] <;> decide
    · rw [h1, h2]
      decide
    · rw [h1]
      rcases Nat.le_one_iff_eq_zero_or_eq_one.mp h2 with e | e <;> rw [e] <;> decide
  · cases hz
    show (if _ then _ else _) = _
    rw [hf, if_neg (by simp)]
    rfl
  · cases hz
    simp
  · cases hz
    refine List.filter_eq_nil_iff.mpr fun p hp => ?_
    rw [isEmpty_len, downs_len g hB]
    rcases g.deg p hp with ⟨h0, h1, _⟩ | ⟨h0, ⟨h1, _⟩ | ⟨h1, _⟩⟩ <;> rw [h1] <;> simp only [h0, decide_true, decide_false] <;> decide
  · cases hz
    have : ¬ 8 < (P.filter fun p => (upsOf Bs p).length == 2).length := by
      have e : (P.filter fun p => (upsOf Bs p).length == 2) = P.filter fun p => upN As p == 2 := List.filter_congr fun p _ => by rw [ups_len g hB]
      rw [e]
      have := g.mix
      omega
    show (if _ then _ else _) = _
    rw [if_neg this]
  · cases hz
/-- numbered anew, in any order -/
theorem Good.renamed {f : Int → Int} (hf : ∀ p ∈ P, ∀ q ∈ P, f p = f q → p = q) (hr : ∀ p ∈ P, 0 ≤ f p ∧ f p ≤ 9999) {As' : List (Int × Int)} {Ls' : List (Int × Str)} (h1 : As'.Perm (As.map fun a => (f a.1, f a.2))) (h2 : Ls'.Perm (Ls.map fun l => (f l.1, l.2))) :
    ∃ P', Good As' Ls' P' := by
  obtain ⟨P', hP'⟩ := asc_exists (P.map f)
  have hm : ∀ y, y ∈ P' ↔ ∃ p ∈ P, f p = y := fun y => by rw [hP'.2, List.mem_map]
  have hup : ∀ p ∈ P, upN As' (f p) = upN As p := fun p hp => by
    unfold upN
    rw [h1.countP_eq, List.countP_map]
    refine List.countP_congr fun a ha => ?_
    show ((f a.2 == f p) = true) ↔ ((a.2 == p) = true)
    rw [beq_iff_eq, beq_iff_eq]
    exact ⟨hf _ (g.ends a ha).2 _ hp, fun e => by rw [e]⟩
  have hdn : ∀ p ∈ P, dnN As' (f p) = dnN As p := fun p hp => by
    unfold dnN
    rw [h1.countP_eq, List.countP_map]
    refine List.countP_congr fun a ha => ?_
    show ((f a.1 == f p) = true) ↔ ((a.1 == p) = true)
    rw [beq_iff_eq, beq_iff_eq]
    exact ⟨hf _ (g.ends a ha).1 _ hp, fun e => by rw [e]⟩
  have hlm : ∀ p ∈ P, f p ∈ Ls'.map (·.1) ↔ p ∈ Ls.map (·.1) := fun p hp => by
    rw [(h2.map _).mem_iff, List.map_map]
    constructor
    · intro h
      obtain ⟨l, hl, e⟩ := List.mem_map.mp h
      have : l.1 = p := hf _ (g.lab l hl) _ hp e
      exact List.mem_map.mpr ⟨l, hl, this⟩
    · intro h
      obtain ⟨l, hl, rfl⟩ := List.mem_map.mp h
      exact List.mem_map.mpr ⟨l, hl, rfl⟩
  have pp : P'.Perm (P.map f) := by
    have nd : (P.map f).Nodup := by
      refine List.pairwise_map.mpr (List.Pairwise.imp_of_mem (fun ha hb h e => h (hf _ ha _ hb e)) g.asc.nodup)
    exact (List.perm_ext_iff_of_nodup hP'.nodup nd).mpr hP'.2
  obtain ⟨rank, hrk⟩ := g.rank
  obtain ⟨r, hrP, hroot⟩ := g.root
  refine ⟨P', ⟨hP'.1, fun k => ?_⟩, ?_, fun y hy => ?_, ?_, ?_, ?_, ?_, ?_, fun l hl => ?_, ?_, fun y hy => ?_, ⟨f r, (hm _).mpr ⟨r, hrP, rfl⟩, fun y hy => ?_⟩, ?_⟩
  · rw [hm, List.mem_append, (h2.map _).mem_iff, List.mem_flatMap]
    constructor
    · rintro ⟨p, hp, rfl⟩
      rcases List.mem_append.mp ((g.asc.2 p).mp hp) with h | h
      · obtain ⟨a, ha, hk⟩ := List.mem_flatMap.mp h
        refine .inl ⟨(f a.1, f a.2), h1.mem_iff.mpr (List.mem_map_of_mem ha), ?_⟩
        simp only [List.mem_cons, List.not_mem_nil, or_false] at hk
        rcases hk with rfl | rfl <;> simp
      · obtain ⟨l, hl, rfl⟩ := List.mem_map.mp h
        exact .inr (List.mem_map.mpr ⟨(f l.1, l.2), List.mem_map_of_mem hl, rfl⟩)
    · rintro (⟨b, hb, hk⟩ | h)
      · obtain ⟨a, ha, rfl⟩ := List.mem_map.mp (h1.mem_iff.mp hb)
        simp only [List.mem_cons, List.not_mem_nil, or_false] at hk
        rcases hk with rfl | rfl
        · exact ⟨_, (g.ends a ha).1, rfl⟩
        · exact ⟨_, (g.ends a ha).2, rfl⟩
      · obtain ⟨b, hb, rfl⟩ := List.mem_map.mp h
        obtain ⟨l, hl, rfl⟩ := List.mem_map.mp hb
        exact ⟨_, g.lab l hl, rfl⟩
  · rw [pp.length_eq, List.length_map]
    exact g.p64
  · obtain ⟨p, hp, rfl⟩ := (hm y).mp hy
    exact hr p hp
  · rw [h1.length_eq, List.length_map]
    exact g.a46
  · refine h1.nodup_iff.mpr (List.pairwise_map.mpr (List.Pairwise.imp_of_mem (fun {a b} ha hb h e => h ?_) g.nd))
    injection e with e1 e2
    exact Prod.ext (hf _ (g.ends a ha).1 _ (g.ends b hb).1 e1) (hf _ (g.ends a ha).2 _ (g.ends b hb).2 e2)
  · rw [h2.length_eq, List.length_map]
    exact g.l12
  · refine (h2.map _).nodup_iff.mpr ?_
    rw [List.map_map]
    refine List.pairwise_map.mpr ?_
    exact List.Pairwise.imp_of_mem (fun {a b} ha hb h e => h (hf _ (g.lab a ha) _ (g.lab b hb) e)) (List.pairwise_map.mp g.lp)
  · refine (h2.map _).nodup_iff.mpr ?_
    rw [List.map_map]
    exact g.ln
  · obtain ⟨m, hm2, rfl⟩ := List.mem_map.mp (h2.mem_iff.mp hl)
    exact g.nm m hm2
  · refine ⟨fun y => match P.find? (fun p => f p == y) with | some p => rank p | none => 0, fun b hb => ?_⟩
    obtain ⟨a, ha, rfl⟩ := List.mem_map.mp (h1.mem_iff.mp hb)
    have look : ∀ p ∈ P, P.find? (fun q => f q == f p) = some p := fun p hp => by
      cases e : P.find? (fun q => f q == f p) with
      | none => exact absurd (by simp) (List.find?_eq_none.mp e p hp)
      | some q =>
        have h3 : f q = f p := by simpa using List.find?_some e
        rw [hf _ (List.mem_of_find?_eq_some e) _ hp h3]
    show (match P.find? (fun p => f p == f a.1) with | some p => rank p | none => 0) < (match P.find? (fun p => f p == f a.2) with | some p => rank p | none => 0)
    rw [look _ (g.ends a ha).1, look _ (g.ends a ha).2]
    exact hrk a ha
  · obtain ⟨p, hp, rfl⟩ := (hm y).mp hy
    rw [hup p hp, hdn p hp, hlm p hp]
    exact g.deg p hp
  · obtain ⟨p, hp, rfl⟩ := (hm y).mp hy
    rw [hup p hp, hroot p hp]
    exact ⟨fun e => by rw [e], fun e => hf _ hp _ hrP e⟩
  · have e : (P'.filter fun p => upN As' p == 2).length = (P.filter fun p => upN As p == 2).length := by
      rw [(pp.filter _).length_eq, List.filter_map, List.length_map]
      congr 1
      refine List.filter_congr fun p hp => ?_
      show (upN As' (f p) == 2) = _
      rw [hup p hp]
    rw [e]
    exact g.mix
end
end Lg

/-! The law's own nets: lines that are joined or mixed, from the leaves up. -/
namespace Lg
open PySem PySem.Spec PyProof.Rows L2
structure GenI (n m0 t : Nat) (lines : List Int) (As : List (Int × Int)) (mx : Int) : Prop where
  n1 : 1 ≤ n
  n12 : n ≤ 12
  m8 : m0 ≤ 8
  mx0 : 0 ≤ mx
  mxm : mx ≤ m0
  ne : lines ≠ []
  lr : ∀ l ∈ lines, 0 ≤ l ∧ l < n + t
  arr : ∀ a ∈ As, (n : Int) ≤ a.1 ∧ a.1 < n + t ∧ 0 ≤ a.2 ∧ a.2 < a.1
  leaf : ∀ p : Int, 0 ≤ p → p < n → upN As p + lines.count p = 1
  inner : ∀ p : Int, n ≤ p → p < n + t → (dnN As p = 1 ∧ upN As p + lines.count p = 2) ∨ (dnN As p = 2 ∧ upN As p + lines.count p = 1)
  nd : As.Nodup
  cnt : (As.length : Int) + 2 * lines.length = 3 * (m0 - mx) + 2 * n
  mixc : (((List.range (n + t)).countP fun k : Nat => dnN As k == 1 : Nat) : Int) = m0 - mx
  phi : (t : Int) + 2 * mx + lines.length = 2 * m0 + n
  one : lines.length = 1 → ∀ l ∈ lines, dnN As l ≠ 1
  two : ∀ a, lines = [a, a] → 1 ≤ mx
theorem upN_app {As Bs : List (Int × Int)} {p : Int} : upN (As ++ Bs) p = upN As p + upN Bs p := List.countP_append
theorem dnN_app {As Bs : List (Int × Int)} {p : Int} : dnN (As ++ Bs) p = dnN As p + dnN Bs p := List.countP_append
theorem upN_one {a b p : Int} : upN [(a, b)] p = if b = p then 1 else 0 := by
  unfold upN
  rw [List.countP_singleton]
  simp
theorem dnN_one {a b p : Int} : dnN [(a, b)] p = if a = p then 1 else 0 := by
  unfold dnN
  rw [List.countP_singleton]
  simp
theorem upN_two {a b c p : Int} : upN [(a, b), (a, c)] p = (if b = p then 1 else 0) + if c = p then 1 else 0 := by
  rw [← upN_one (a := a), ← upN_one (a := a), ← upN_app]
  rfl
theorem dnN_two {a b c p : Int} : dnN [(a, b), (a, c)] p = if a = p then 2 else 0 := by
  have : dnN [(a, b), (a, c)] p = dnN [(a, b)] p + dnN [(a, c)] p := by rw [← dnN_app]; rfl
  rw [this, dnN_one, dnN_one]
  split <;> rfl
theorem dnN_zero {As : List (Int × Int)} {p : Int} (h : ∀ a ∈ As, a.1 ≠ p) : dnN As p = 0 := List.countP_eq_zero.mpr fun a ha e => h a ha (by simpa using e)
theorem upN_zero {As : List (Int × Int)} {p : Int} (h : ∀ a ∈ As, a.2 ≠ p) : upN As p = 0 := List.countP_eq_zero.mpr fun a ha e => h a ha (by simpa using e)
theorem perm_eraseIdx {α : Type} {l : List α} {j : Nat} {c : α} (h : l[j]? = some c) : l.Perm (c :: l.eraseIdx j) := by
  induction l generalizing j with
  | nil => cases h
  | cons a l ih =>
    cases j with
    | zero => cases h; exact .refl _
    | succ j =>
      rw [List.eraseIdx_cons_succ]
      exact (List.Perm.cons a (ih h)).trans (.swap _ _ _)
theorem GenI.start {n m : Nat} (h1 : 1 ≤ n) (h2 : n ≤ 12) (h3 : m ≤ 8) : GenI n m 0 ((List.range n).map fun k : Nat => (k : Int)) [] m := by
  have hnd : ((List.range n).map fun k : Nat => (k : Int)).Nodup := List.pairwise_map.mpr (List.nodup_range.imp fun h e => h (Int.ofNat.inj e))
  have hmem : ∀ p : Int, p ∈ ((List.range n).map fun k : Nat => (k : Int)) ↔ 0 ≤ p ∧ p < n := fun p => by
    rw [List.mem_map]
    constructor
    · rintro ⟨k, hk, rfl⟩
      have := List.mem_range.mp hk
      omega
    · exact fun h => ⟨p.toNat, List.mem_range.mpr (by omega), by omega⟩
  refine ⟨h1, h2, h3, Int.natCast_nonneg m, Int.le_refl _, fun e => ?_, fun l hl => ?_, by simp, fun p hp1 hp2 => ?_, fun p h4 h5 => by omega, .nil, ?_, ?_, ?_, fun _ l _ => by show (0 : Nat) ≠ 1; decide, fun a e => ?_⟩
  · have := congrArg List.length e
    rw [List.length_map, List.length_range] at this
    simp at this
    omega
  · have := (hmem l).mp hl
    omega
  · show 0 + _ = 1
    rw [hnd.count, if_pos ((hmem p).mpr ⟨hp1, hp2⟩)]
  · rw [List.length_map, List.length_range]
    simp
  · have : ((List.range (n + 0)).countP fun k : Nat => dnN [] k == 1) = 0 := List.countP_eq_zero.mpr fun k _ e => by
      have : dnN [] (k : Int) = 0 := rfl
      rw [this] at e
      cases e
    rw [this]
    omega
  · rw [List.length_map, List.length_range]
    omega
  · rw [e] at hnd
    simp at hnd
theorem GenI.tle {n m0 t : Nat} {lines : List Int} {As : List (Int × Int)} {mx : Int} (g : GenI n m0 t lines As mx) : t ≤ 27 := by
  have h1 := g.phi
  have h2 : 1 ≤ lines.length := List.length_pos_iff.mpr g.ne
  have := g.n12
  have := g.m8
  have := g.mx0
  omega
section
variable {n m0 t : Nat} {lines l1 l2 : List Int} {As : List (Int × Int)} {mx child other : Int} (g : GenI n m0 t lines As mx)
include g
theorem GenI.mix (hp : lines.Perm (child :: l1)) (h1 : lines.length = 1 → 2 ≤ mx) (h2 : 1 ≤ mx) : GenI n m0 (t + 1) (l1 ++ [(n + t : Int), (n + t : Int)]) (As ++ [((n + t : Int), child)]) (mx - 1) := by
  have hlen := hp.length_eq
  rw [List.length_cons] at hlen
  have hc : child ∈ lines := hp.mem_iff.mpr (by simp)
  have hcr := g.lr child hc
  have hl1 : ∀ l ∈ l1, 0 ≤ l ∧ l < n + t := fun l hl => g.lr l (hp.mem_iff.mpr (by simp [hl]))
  have hcnt : ∀ p, lines.count p = (if child = p then 1 else 0) + l1.count p := fun p => by
    rw [hp.count_eq, List.count_cons]
    simp only [beq_iff_eq]
    omega
  have hfr : l1.count (n + t : Int) = 0 := List.count_eq_zero.mpr fun h => by have := hl1 _ h; omega
  have hf2 : ∀ p : Int, p ≠ n + t → [(n + t : Int), (n + t : Int)].count p = 0 := fun p h => List.count_eq_zero.mpr fun e => by simp at e; exact h e
  have u0 : upN As (n + t : Int) = 0 := upN_zero fun a ha e => by have := g.arr a ha; omega
  have d0 : dnN As (n + t : Int) = 0 := dnN_zero fun a ha e => by have := g.arr a ha; omega
  refine ⟨g.n1, g.n12, g.m8, by have := h2; omega, by have := g.mxm; omega, by simp, fun l hl => ?_, fun a ha => ?_, fun p hp1 hp2 => ?_, fun p hp1 hp2 => ?_, ?_, ?_, ?_, ?_, fun e => ?_, fun a e => ?_⟩
  · rcases List.mem_append.mp hl with h | h
    · have := hl1 l h
      omega
    · simp at h
      omega
  · rcases List.mem_append.mp ha with h | h
    · have := g.arr a h
      omega
    · rw [List.mem_singleton.mp h]
      dsimp only
      omega
  · rw [upN_app, upN_one, List.count_append, hf2 p (by omega)]
    have h3 := g.leaf p hp1 hp2
    have h4 := hcnt p
    omega
  · by_cases e : p = n + t
    · subst e
      refine .inl ⟨?_, ?_⟩
      · rw [dnN_app, d0, dnN_one, if_pos rfl]
      · rw [upN_app, u0, upN_one, if_neg (by omega), List.count_append, hfr]
        simp
    · have h3 := g.inner p hp1 (by omega)
      have h4 := hcnt p
      rw [dnN_app, dnN_one, if_neg (fun z => e z.symm), upN_app, upN_one, List.count_append, hf2 p e]
      omega
  · refine List.nodup_append.mpr ⟨g.nd, by simp, fun a ha b hb => ?_⟩
    rw [List.mem_singleton.mp hb]
    intro z
    have := g.arr a ha
    rw [z] at this
    dsimp only at this
    omega
  · have := g.cnt
    simp only [List.length_append, List.length_cons, List.length_nil]
    omega
  · rw [show n + (t + 1) = (n + t) + 1 from rfl, List.range_succ, List.countP_append, List.countP_singleton]
    have h3 : ((List.range (n + t)).countP fun k : Nat => dnN (As ++ [((n + t : Int), child)]) k == 1) = (List.range (n + t)).countP fun k : Nat => dnN As k == 1 := List.countP_congr fun k hk => by
      have := List.mem_range.mp hk
      rw [dnN_app, dnN_one, if_neg (by omega)]
      exact Iff.rfl
    rw [h3]
    have h4 : dnN (As ++ [((n + t : Int), child)]) ((n + t : Nat) : Int) = 1 := by
      rw [show ((n + t : Nat) : Int) = (n : Int) + t from by omega, dnN_app, d0, dnN_one, if_pos rfl]
    rw [h4, if_pos (by decide)]
    have := g.mixc
    omega
  · have := g.phi
    simp only [List.length_append, List.length_cons, List.length_nil]
    omega
  · simp only [List.length_append, List.length_cons, List.length_nil] at e
    omega
  · have := congrArg List.length e
    simp only [List.length_append, List.length_cons, List.length_nil] at this
    have := h1 (by omega)
    omega
theorem GenI.others (hp : lines.Perm (child :: l1)) (h1 : 2 ≤ lines.length) (h2 : ∀ a, lines ≠ [a, a]) : ∃ y ∈ l1, y ≠ child := by
  refine Classical.byContradiction fun hno => ?_
  have hall : ∀ y ∈ l1, y = child := fun y hy => Classical.byContradiction fun e => hno ⟨y, hy, e⟩
  have hlen := hp.length_eq
  rw [List.length_cons] at hlen
  have hc : child ∈ lines := hp.mem_iff.mpr (by simp)
  have hcr := g.lr child hc
  have hcnt : lines.count child = lines.length := List.count_eq_length.mpr fun b hb => by
    rcases List.mem_cons.mp (hp.mem_iff.mp hb) with h | h
    · exact h.symm
    · exact (hall b h).symm
  have h3 : lines.count child ≤ 2 := by
    by_cases e : child < n
    · have := g.leaf child hcr.1 e
      omega
    · rcases g.inner child (by omega) hcr.2 with h | h <;> omega
  have h4 : lines.length = 2 := by omega
  have hal : ∀ b ∈ lines, b = child := fun b hb => by
    rcases List.mem_cons.mp (hp.mem_iff.mp hb) with h | h
    · exact h
    · exact hall b h
  match lines, h4, hal with
  | [x, y], _, hal =>
    have e1 := hal x (by simp)
    have e2 := hal y (by simp)
    exact h2 child (by rw [e1, e2])
theorem GenI.split (hp : lines.Perm (child :: l1)) (hq : l1.Perm (other :: l2)) (ho : other ≠ child) : GenI n m0 (t + 1) (l2 ++ [(n + t : Int)]) (As ++ [((n + t : Int), child), ((n + t : Int), other)]) mx := by
  have hlen := hp.length_eq
  have hlen2 := hq.length_eq
  rw [List.length_cons] at hlen hlen2
  have hc : child ∈ lines := hp.mem_iff.mpr (by simp)
  have hcr := g.lr child hc
  have hl1 : ∀ l ∈ l1, 0 ≤ l ∧ l < n + t := fun l hl => g.lr l (hp.mem_iff.mpr (by simp [hl]))
  have hor := hl1 other (hq.mem_iff.mpr (by simp))
  have hl2 : ∀ l ∈ l2, 0 ≤ l ∧ l < n + t := fun l hl => hl1 l (hq.mem_iff.mpr (by simp [hl]))
  have hcnt : ∀ p, lines.count p = (if child = p then 1 else 0) + (if other = p then 1 else 0) + l2.count p := fun p => by
    rw [hp.count_eq, List.count_cons, hq.count_eq, List.count_cons]
    simp only [beq_iff_eq]
    omega
  have hfr : l2.count (n + t : Int) = 0 := List.count_eq_zero.mpr fun h => by have := hl2 _ h; omega
  have hf2 : ∀ p : Int, p ≠ n + t → [(n + t : Int)].count p = 0 := fun p h => List.count_eq_zero.mpr fun e => by simp at e; exact h e
  have u0 : upN As (n + t : Int) = 0 := upN_zero fun a ha e => by have := g.arr a ha; omega
  have d0 : dnN As (n + t : Int) = 0 := dnN_zero fun a ha e => by have := g.arr a ha; omega
  refine ⟨g.n1, g.n12, g.m8, g.mx0, g.mxm, by simp, fun l hl => ?_, fun a ha => ?_, fun p hp1 hp2 => ?_, fun p hp1 hp2 => ?_, ?_, ?_, ?_, ?_, fun e l hl => ?_, fun a e => ?_⟩
  · rcases List.mem_append.mp hl with h | h
    · have := hl2 l h
      omega
    · simp at h
      omega
  · rcases List.mem_append.mp ha with h | h
    · have := g.arr a h
      omega
    · simp only [List.mem_cons, List.not_mem_nil, or_false] at h
      rcases h with rfl | rfl <;> dsimp only <;> omega
  · rw [upN_app, upN_two, List.count_append, hf2 p (by omega)]
    have h3 := g.leaf p hp1 hp2
    have h4 := hcnt p
    omega
  · by_cases e : p = n + t
    · subst e
      refine .inr ⟨?_, ?_⟩
      · rw [dnN_app, d0, dnN_two, if_pos rfl]
      · rw [upN_app, u0, upN_two, if_neg (by omega), if_neg (by omega), List.count_append, hfr]
        simp
    · have h3 := g.inner p hp1 (by omega)
      have h4 := hcnt p
      rw [dnN_app, dnN_two, if_neg (fun z => e z.symm), upN_app, upN_two, List.count_append, hf2 p e]
      omega
  · refine List.nodup_append.mpr ⟨g.nd, ?_, fun a ha b hb => ?_⟩
    · simp
      exact Ne.symm ho
    · simp only [List.mem_cons, List.not_mem_nil, or_false] at hb
      intro z
      have := g.arr a ha
      rcases hb with rfl | rfl <;> rw [z] at this <;> dsimp only at this <;> omega
  · have := g.cnt
    simp only [List.length_append, List.length_cons, List.length_nil]
    omega
  · rw [show n + (t + 1) = (n + t) + 1 from rfl, List.range_succ, List.countP_append, List.countP_singleton]
    have h3 : ((List.range (n + t)).countP fun k : Nat => dnN (As ++ [((n + t : Int), child), ((n + t : Int), other)]) k == 1) = (List.range (n + t)).countP fun k : Nat => dnN As k == 1 := List.countP_congr fun k hk => by
      have := List.mem_range.mp hk
      rw [dnN_app, dnN_two, if_neg (by omega)]
      exact Iff.rfl
    rw [h3]
    have h4 : dnN (As ++ [((n + t : Int), child), ((n + t : Int), other)]) ((n + t : Nat) : Int) = 2 := by
      rw [show ((n + t : Nat) : Int) = (n : Int) + t from by omega, dnN_app, d0, dnN_two, if_pos rfl]
    rw [h4, if_neg (by decide)]
    have := g.mixc
    omega
  · have := g.phi
    simp only [List.length_append, List.length_cons, List.length_nil]
    omega
  · simp only [List.length_append, List.length_cons, List.length_nil] at e
    have : l2 = [] := List.length_eq_zero_iff.mp (by omega)
    subst this
    simp at hl
    subst hl
    rw [dnN_app, d0, dnN_two, if_pos rfl]
    decide
  · have h3 := congrArg List.length e
    simp only [List.length_append, List.length_cons, List.length_nil] at h3
    match l2, h3, hl2, e with
    | [x], _, hl2, e =>
      have h4 : x = a ∧ (n + t : Int) = a := by
        simp at e
        exact e
      have := hl2 x (by simp)
      omega
theorem GenI.good (h1 : lines.length = 1) {ns : List Str} (hn : ns.length = n) (hnd : ns.Nodup) (hw : ∀ z ∈ ns, nameL z.cps.toList = true ∧ z.length ≤ 8) {As' : List (Int × Int)} (hAs : As'.Perm As) {Ls : List (Int × Str)} (hL : Ls = (List.range n).zipWith (fun (k : Nat) z => ((k : Int), z)) ns) :
    Good As' Ls ((List.range (n + t)).map fun k : Nat => (k : Int)) := by
  obtain ⟨r, hr⟩ := List.length_eq_one_iff.mp h1
  subst hr
  have hrr := g.lr r (by simp)
  have hr1 := g.one h1 r (by simp)
  have hup : ∀ p, upN As' p = upN As p := fun p => hAs.countP_eq _
  have hdn : ∀ p, dnN As' p = dnN As p := fun p => hAs.countP_eq _
  have hmem : ∀ (m : Nat) (p : Int), p ∈ ((List.range m).map fun k : Nat => (k : Int)) ↔ 0 ≤ p ∧ p < m := fun m p => by
    rw [List.mem_map]
    constructor
    · rintro ⟨k, hk, rfl⟩
      have := List.mem_range.mp hk
      omega
    · exact fun h => ⟨p.toNat, List.mem_range.mpr (by omega), by omega⟩
  have hl1 : Ls.map (·.1) = (List.range n).map fun k : Nat => (k : Int) := by
    rw [hL, List.map_zipWith]
    refine List.ext_getElem (by simp [hn]) fun i h1 h2 => ?_
    simp
  have hl2 : Ls.map (·.2) = ns := by
    rw [hL, List.map_zipWith]
    refine List.ext_getElem (by simp [hn]) fun i h1 h2 => ?_
    simp
  have hll : Ls.length = n := by rw [← List.length_map (f := (·.1)), hl1, List.length_map, List.length_range]
  have hcr : ∀ p, p ≠ r → [r].count p = 0 := fun p h => List.count_eq_zero.mpr fun e => h (by simpa using e)
  have hd0 : ∀ p : Int, p < n → dnN As p = 0 := fun p hp => dnN_zero fun a ha e => by have := g.arr a ha; omega
  have t27 := g.tle
  have n12 := g.n12
  have n1 := g.n1
  refine ⟨⟨?_, fun k => ?_⟩, ?_, fun p hp => ?_, ?_, hAs.nodup_iff.mpr g.nd, by omega, ?_, ?_, fun l hl => ?_, ⟨fun p => (n + t - p : Int).toNat, fun a ha => ?_⟩, fun p hp => ?_, ⟨r, (hmem _ _).mpr (by omega), fun p hp => ?_⟩, ?_⟩
  · refine List.pairwise_map.mpr (List.pairwise_lt_range.imp fun h => ?_)
    exact Int.ofNat_lt.mpr h
  · rw [hmem, List.mem_append, hl1, hmem, List.mem_flatMap]
    constructor
    · rintro ⟨h2, h3⟩
      by_cases e : k < n
      · exact .inr ⟨h2, e⟩
      · have : 0 < dnN As k := by
          rcases g.inner k (by omega) (by omega) with h | h <;> omega
        obtain ⟨a, ha, hk⟩ := List.countP_pos_iff.mp this
        have hk : a.1 = k := by simpa using hk
        exact .inl ⟨a, hAs.mem_iff.mpr ha, by simp [hk]⟩
    · rintro (⟨a, ha, hk⟩ | h)
      · have := g.arr a (hAs.mem_iff.mp ha)
        simp only [List.mem_cons, List.not_mem_nil, or_false] at hk
        rcases hk with rfl | rfl <;> omega
      · omega
  · rw [List.length_map, List.length_range]
    omega
  · have := (hmem _ _).mp hp
    omega
  · rw [hAs.length_eq]
    have h2 := g.cnt
    have := g.mx0
    have := g.m8
    simp only [List.length_cons, List.length_nil] at h2
    omega
  · rw [hl1]
    exact List.pairwise_map.mpr (List.nodup_range.imp fun h e => h (Int.ofNat.inj e))
  · rw [hl2]
    exact hnd
  · exact hw _ (by rw [← hl2]; exact List.mem_map_of_mem hl)
  · have := g.arr a (hAs.mem_iff.mp ha)
    dsimp only
    omega
  · have hpr := (hmem _ _).mp hp
    rw [hup, hdn, hl1, hmem]
    by_cases e : p < n
    · have := g.leaf p hpr.1 e
      exact .inl ⟨⟨hpr.1, e⟩, hd0 p e, by omega⟩
    · refine .inr ⟨by omega, ?_⟩
      rcases g.inner p (by omega) (by omega) with ⟨h2, h3⟩ | ⟨h2, h3⟩
      · have : p ≠ r := fun z => hr1 (z ▸ h2)
        rw [hcr p this] at h3
        exact .inl ⟨h2, h3⟩
      · exact .inr ⟨h2, by omega⟩
  · have hpr := (hmem _ _).mp hp
    rw [hup]
    constructor
    · intro h2
      refine Classical.byContradiction fun z => ?_
      have h3 := hcr p z
      by_cases e : p < n
      · have := g.leaf p hpr.1 e
        omega
      · rcases g.inner p (by omega) (by omega) with h4 | h4 <;> omega
    · rintro rfl
      have h3 : [p].count p = 1 := by simp
      by_cases e : p < n
      · have := g.leaf p hpr.1 e
        omega
      · rcases g.inner p (by omega) (by omega) with h4 | h4
        · exact absurd h4.1 hr1
        · omega
  · have h2 : (((List.range (n + t)).map fun k : Nat => (k : Int)).filter fun p => upN As' p == 2).length ≤ (List.range (n + t)).countP fun k : Nat => dnN As k == 1 := by
      rw [List.filter_map, List.length_map, ← List.countP_eq_length_filter]
      refine List.countP_mono_left fun k hk h3 => ?_
      have hk := List.mem_range.mp hk
      have h4 : upN As k = 2 := by
        rw [← hup]
        simpa using h3
      have h5 : dnN As k = 1 := by
        by_cases e : (k : Int) < n
        · have := g.leaf k (by omega) e
          omega
        · rcases g.inner k (by omega) (by omega) with h6 | h6 <;> omega
      simpa using h5
    have h3 := g.mixc
    have := g.m8
    have := g.mx0
    omega
end
end Lg

/-! What the law's side of a net law wants: comprehensions by whatever way the list comes, nets as data. -/
namespace Lg
open PySem PySem.Spec PyProof.Rows L2
abbrev netD (As : List (Int × Int)) (Ls : List (Int × Str)) : PyData := .list [.list (As.map pd), .list (Ls.map ld)]
theorem da_net {S : Av} {H : Hp} {x : V} {As : List (Int × Int)} {Ls : List (Int × Str)} (h : Da S H x (netD As Ls)) : ∃ (N A L : Addr) (xs ys : List V), x = .ref N ∧ ¬ S N ∧ H N = some (.lst [.ref A, .ref L]) ∧ ¬ S A ∧ H A = some (.lst xs) ∧ DaAll S H xs (As.map pd) ∧ ¬ S L ∧ H L = some (.lst ys) ∧ DaAll S H ys (Ls.map ld) := by
  obtain ⟨N, zs, rfl, nN, eN, hN⟩ := h.list
  cases hN with
  | cons h1 r =>
  cases r with
  | cons h2 r =>
  cases r
  obtain ⟨A, xs, rfl, nA, eA, hA⟩ := h1.list
  obtain ⟨L, ys, rfl, nL, eL, hL⟩ := h2.list
  exact ⟨N, A, L, xs, ys, rfl, nN, eN, nA, eA, hA, nL, eL, hL⟩
theorem lc_listG {K : PySem.W.Frag} {td : TE} {a : Addr} {xs : List V} {g : TG} {tt : TT} {te : TE} {vs : List Nat} {σ : L2.St} {H : Hp} {Q : VK} (htd : ∀ R : V → Hp → Prop, R (.ref a) H → td σ H R) (ea : H a = some (.lst xs)) (zs : List V) (hz : zs.length = xs.length) (hn : xs.length < sizeLine)
    (hs : ∀ (i : Nat) (x : V) (H1 : Hp) (N : Hp → Prop) (A : VK) (z : V), zs[i]? = some z → Same H H1 → xs[i]? = some x → (∀ H5, Same H1 H5 → A z H5) →
      g x (wipe σ vs) H1 fun σ2 H3 => wipe σ2 vs = wipe σ vs ∧ tt σ2 H3 fun b H4 => if b = true then te σ2 H4 A else N H4)
    (hd : ∀ D H', H D = none → Same H H' → H' D = some (.lst zs) → Q (.ref D) H') : tLc (iList K td) g tt te vs σ H Q :=
  htd _ ⟨a, rfl, ⟨_, .of ea⟩, lc_map (walk_list (K := K) (a := a) (xs := xs)) zs hz hn (fun H' sm => .of (sm _ _ ea)) (fun i x H1 H2 N A z h1 h2 ⟨h3, h4⟩ h5 => by
    subst h3
    exact hs i x _ N A z h1 h2 h4 h5) hd⟩
/-- a comprehension whose items are new data -/
theorem lc_itD {J : It} {n : Nat} {G : Hp → Prop} {Y : Nat → Hp → V → Hp → Prop} (w : Walk J n G Y) {S : Av} {g : TG} {tt : TT} {te : TE} {vs : List Nat} {σ : L2.St} {H : Hp} {Q : VK} (hS : Al S H) (ds : List PyData) (hz : ds.length = n) (hn : n < sizeLine)
    (hG : ∀ H', Same H H' → G H')
    (hs : ∀ (i : Nat) (x : V) (H1 H2 : Hp) (N : Hp → Prop) (A : VK) (d : PyData), ds[i]? = some d → Same H H1 → Al S H1 → Y i H1 x H2 → (∀ v H5, Same H1 H5 → Da S H5 v d → (∀ D, H1 D ≠ none → H D = none → Da (addA S D) H5 v d) → A v H5) →
      g x (wipe σ vs) H2 fun σ2 H3 => wipe σ2 vs = wipe σ vs ∧ tt σ2 H3 fun b H4 => if b = true then te σ2 H4 A else N H4)
    (hd : ∀ D ys H', H D = none → Same H H' → ¬ S D → H' D = some (.lst ys) → DaAll S H' ys ds → Q (.ref D) H') : tLc (fun _ H R => R J H) g tt te vs σ H Q := by
  intro D nD
  have nSD : ¬ S D := hS.free nD
  refine loop_it w (fun i H' => Same H H' ∧ ∃ acc, H' D = some (.lst acc) ∧ DaAll (addA S D) H' acc (ds.take i)) ⟨same_new (Same.refl H) nD, _, upd_same, .nil⟩ (fun i H' _ hp => hG H' hp.1)
    (Step := fun Nx x H' => g x (wipe σ vs) H' fun σ2 H2 => wipe σ2 vs = wipe σ vs ∧ tt σ2 H2 fun b H3 =>
      if b = true then te σ2 H3 fun y H4 => ∃ acc, H4 D = some (.lst acc) ∧ acc.length < sizeLine ∧ Nx (upd H4 D (.lst (acc ++ [y]))) else Nx H3) ?_ ?_
  · rintro i x H1 H2 hi ⟨sm, acc, eD, hacc⟩ hy
    obtain ⟨d, hdi⟩ : ∃ d, ds[i]? = some d := ⟨_, List.getElem?_eq_getElem (by omega)⟩
    refine hs i x H1 H2 _ _ d hdi sm (hS.same sm) hy fun v H5 s5 hv hv2 => ⟨acc, s5 _ _ eD, ?_, fun b o eb => ?_, _, upd_same, ?_⟩
    · rw [hacc.length, List.length_take]
      omega
    · rw [upd_ne (ne_of_none eb nD)]
      exact s5 _ _ (sm _ _ eb)
    · rw [← take_snoc hdi]
      exact ((hacc.same s5).app (.one (hv2 D (by rw [eD]; exact fun z => nomatch z) nD))).at
  · rintro H' ⟨sm, acc, eD, hacc⟩
    rw [← hz, List.take_length] at hacc
    exact hd D acc H' nD sm nSD eD hacc.less
theorem lc_listD {K : PySem.W.Frag} {td : TE} {a : Addr} {xs : List V} {S : Av} {g : TG} {tt : TT} {te : TE} {vs : List Nat} {σ : L2.St} {H : Hp} {Q : VK} (htd : ∀ R : V → Hp → Prop, R (.ref a) H → td σ H R) (ea : H a = some (.lst xs)) (hS : Al S H) (ds : List PyData) (hz : ds.length = xs.length) (hn : xs.length < sizeLine)
    (hs : ∀ (i : Nat) (x : V) (H1 : Hp) (N : Hp → Prop) (A : VK) (d : PyData), ds[i]? = some d → Same H H1 → Al S H1 → xs[i]? = some x → (∀ v H5, Same H1 H5 → Da S H5 v d → (∀ D, H1 D ≠ none → H D = none → Da (addA S D) H5 v d) → A v H5) →
      g x (wipe σ vs) H1 fun σ2 H3 => wipe σ2 vs = wipe σ vs ∧ tt σ2 H3 fun b H4 => if b = true then te σ2 H4 A else N H4)
    (hd : ∀ D ys H', H D = none → Same H H' → ¬ S D → H' D = some (.lst ys) → DaAll S H' ys ds → Q (.ref D) H') : tLc (iList K td) g tt te vs σ H Q :=
  htd _ ⟨a, rfl, ⟨_, .of ea⟩, lc_itD (walk_list (K := K) (a := a) (xs := xs)) hS ds hz hn (fun H' sm => .of (sm _ _ ea)) (fun i x H1 H2 N A z h1 h2 h6 ⟨h3, h4⟩ h5 => by
    subst h3
    exact hs i x _ N A z h1 h2 h6 h4 h5) hd⟩
theorem lc_rngD {tA : TA} {n : Nat} {S : Av} {g : TG} {tt : TT} {te : TE} {vs : List Nat} {σ : L2.St} {H : Hp} {Q : VK} (hta : ∀ R : List V → Hp → Prop, R [.int (n : Int)] H → tA σ H R) (hS : Al S H) (ds : List PyData) (hz : ds.length = n) (hn : n < sizeLine)
    (hs : ∀ (i : Nat) (H1 : Hp) (N : Hp → Prop) (A : VK) (d : PyData), ds[i]? = some d → Same H H1 → Al S H1 → (∀ v H5, Same H1 H5 → Da S H5 v d → (∀ D, H1 D ≠ none → H D = none → Da (addA S D) H5 v d) → A v H5) →
      g (.int (i : Int)) (wipe σ vs) H1 fun σ2 H3 => wipe σ2 vs = wipe σ vs ∧ tt σ2 H3 fun b H4 => if b = true then te σ2 H4 A else N H4)
    (hd : ∀ D ys H', H D = none → Same H H' → ¬ S D → H' D = some (.lst ys) → DaAll S H' ys ds → Q (.ref D) H') : tLc (iRng1 tA) g tt te vs σ H Q := by
  have h62 := line62 hn
  refine hta _ ⟨(n : Int), rfl, h62.1, h62.2, ?_⟩
  refine lc_itD (walk_range (lo := 0) (n := (n : Int).toNat)) hS ds (by omega) (by omega) (fun _ _ => trivial) ?_ hd
  rintro i x H1 H2 N A d h1 h2 h6 ⟨rfl, hx⟩ h5
  dsimp only at hx
  rw [Int.zero_add] at hx
  subst hx
  exact hs i _ N A d h1 h2 h6 h5
/-- a comprehension over a list: the items that pass, as they are -/
theorem lc_listF {K : PySem.W.Frag} {td : TE} {a : Addr} {ns : List Int} {j : Nat} {tt : TT} {vs : List Nat} {σ : L2.St} {H : Hp} {Q : VK} (htd : ∀ R : V → Hp → Prop, R (.ref a) H → td σ H R) (ea : H a = some (.lst (ns.map V.int))) (p : Int → Bool) (hn : ns.length < sizeLine)
    (hw : ∀ v, wipe ((wipe σ vs).set j (some v)) vs = wipe σ vs) (hv : ∀ v, ((wipe σ vs).set j (some v))[j]? = some (some v))
    (hs : ∀ x ∈ ns, ∀ (H1 : Hp) (k : Bool → Hp → Prop), Same H H1 → (∀ H4, Same H1 H4 → k (p x) H4) → tt ((wipe σ vs).set j (some (.int x))) H1 k)
    (hd : ∀ R H', H R = none → Same H H' → H' R = some (.lst ((ns.filter p).map V.int)) → Q (.ref R) H') : tLc (iList K td) (gName j) tt (tVar j) vs σ H Q := by
  refine htd _ ⟨a, rfl, ⟨_, .of ea⟩, ?_⟩
  refine lc_fltL (walk_list (K := K) (a := a) (xs := ns.map V.int)) ns (by rw [List.length_map]) p V.int (by rw [List.length_map]; exact hn) (fun H' sm => .of (sm _ _ ea)) ?_ hd
  rintro i z x H1 H2 N A hz sm ⟨rfl, hx⟩ hN hA
  rw [List.getElem?_map, hz] at hx
  cases hx
  refine ⟨hw _, hs z (List.mem_of_getElem? hz) _ _ sm fun H4 s4 => ?_⟩
  cases h : p z with
  | false => exact ite2 (fun e => absurd e (by decide)) fun _ => hN _ s4 h
  | true =>
    exact ite2 (fun _ => ⟨_, hv _, hA _ s4 h⟩) fun e => absurd rfl e
theorem probe_inj {room x0 : Int} (h : 1 ≤ room) {i j : Int} (hi : 0 ≤ i) (hj : j < room) (hij : i < j) : (x0 + i) % room ≠ (x0 + j) % room := fun e => by
  have h1 : (x0 + j - (x0 + i)) % room = 0 := Int.emod_eq_emod_iff_emod_sub_eq_zero.mp e.symm
  have h2 : room ∣ x0 + j - (x0 + i) := Int.dvd_of_emod_eq_zero h1
  have h3 := Int.le_of_dvd (by omega) h2
  omega
theorem probe_end {L : List Int} {room x0 : Int} {m : Nat} (h : 1 ≤ room) (hm : (m : Int) ≤ room) (hL : L.length < m) : ¬ ∀ i : Nat, i < m → (x0 + (i : Int)) % room ∈ L := fun hall => by
  have nd : ((List.range m).map fun i : Nat => (x0 + (i : Int)) % room).Nodup := by
    refine List.pairwise_map.mpr (List.Pairwise.imp_of_mem (fun {a b} ha hb hab => ?_) List.pairwise_lt_range)
    have := List.mem_range.mp hb
    exact probe_inj h (by omega) (by omega) (by omega)
  have := nodup_le nd fun k hk => by
    obtain ⟨i, hi, rfl⟩ := List.mem_map.mp hk
    exact hall i (List.mem_range.mp hi)
  rw [List.length_map, List.length_range] at this
  omega
def knS (k : Nat) : Str := ("k" : Str) ++ (toString (k : Int) : Str)
theorem knS_ok {k : Nat} (h : k < 17) : nameL (knS k).cps.toList = true ∧ (knS k).length ≤ 8 := by
  have : ∀ k ∈ List.range 17, nameL (knS k).cps.toList = true ∧ (knS k).length ≤ 8 := by decide +kernel
  exact this k (List.mem_range.mpr h)
theorem knS_small {k : Nat} (h : k < 17) : (0 + (k : Int)).natAbs.log2 < 1920 ∧ ("k" : Str).length + (toString (0 + (k : Int)) : Str).length ≤ 1000 ∧ ("k" : Str) ++ (toString (0 + (k : Int)) : Str) = knS k := by
  have : ∀ k ∈ List.range 17, (0 + (k : Int)).natAbs.log2 < 1920 ∧ ("k" : Str).length + (toString (0 + (k : Int)) : Str).length ≤ 1000 ∧ ("k" : Str) ++ (toString (0 + (k : Int)) : Str) = knS k := by decide +kernel
  exact this k (List.mem_range.mpr h)
theorem knS_nodup : ((List.range 16).map knS).Nodup := by decide +kernel
theorem knS_end {L : List Str} (h : L.length < 16) : ¬ ∀ i : Nat, i < 16 → knS i ∈ L := fun hall => by
  have := nodup_le knS_nodup fun k hk => by
    obtain ⟨i, hi, rfl⟩ := List.mem_map.mp hk
    exact hall i (List.mem_range.mp hi)
  rw [List.length_map, List.length_range] at this
  omega
theorem fun_exists : ∀ {P L : List Int}, P.Nodup → P.length = L.length → ∃ f : Int → Int, ∀ (i : Nat) (p d : Int), P[i]? = some p → L[i]? = some d → f p = d
  | [], _, _, _ => ⟨fun _ => 0, fun i p d h => by simp at h⟩
  | p0 :: P, [], _, h => by simp at h
  | p0 :: P, d0 :: L, nd, h => by
    obtain ⟨f, hf⟩ := fun_exists (List.nodup_cons.mp nd).2 (Nat.succ.inj h)
    refine ⟨fun q => if q = p0 then d0 else f q, fun i p d h1 h2 => ?_⟩
    cases i with
    | zero =>
      cases h1
      cases h2
      exact if_pos rfl
    | succ i =>
      have h1 : P[i]? = some p := h1
      have : p ≠ p0 := fun e => (List.nodup_cons.mp nd).1 (e ▸ List.mem_of_getElem? h1)
      show (if p = p0 then d0 else f p) = d
      rw [if_neg this]
      exact hf i p d h1 h2
/-- tuples stay where a list is written -/
theorem daAll_pd_put {S : Av} {H : Hp} {l : Addr} {zs : List V} {o : HO} (e : H l = some (.lst zs)) : ∀ {ys : List V} {As : List (Int × Int)}, DaAll S H ys (As.map pd) → DaAll S (upd H l o) ys (As.map pd)
  | [], [], _ => .nil
  | _ :: _, _ :: _, .cons h r => by
    refine .cons ?_ (daAll_pd_put e r)
    obtain ⟨t, rfl, nt, et⟩ := Da.pd h
    exact da_ofpd nt (by rw [upd_ne (fun z => by rw [z, e] at et; cases et)]; exact et)
theorem map_eraseIdx' {α β : Type} (f : α → β) : ∀ (l : List α) (j : Nat), (l.map f).eraseIdx j = (l.eraseIdx j).map f
  | [], _ => rfl
  | _ :: _, 0 => rfl
  | a :: l, j + 1 => by rw [List.map_cons, List.eraseIdx_cons_succ, List.eraseIdx_cons_succ, List.map_cons, map_eraseIdx' f l j]
/-- a new tuple is put behind a list of tuples -/
theorem app_pd {S : Av} {s AR T : Addr} {H H7 : Hp} {ys : List V} {As : List (Int × Int)} (p : Int × Int) (hS : SS S s H) (k : Keep s H H7) (so : SO S s H7) (nA : H AR = none) (eA : H7 AR = some (.lst ys)) (hys : DaAll S H7 ys (As.map pd)) (nT : H7 T = none) :
    ∃ H8, upd (upd H7 T (.tup [.int p.1, .int p.2])) AR (.lst (ys ++ [.ref T])) = H8 ∧ Keep s H H8 ∧ SO S s H8 ∧ H8 AR = some (.lst (ys ++ [.ref T])) ∧ DaAll S H8 (ys ++ [.ref T]) ((As ++ [p]).map pd) ∧ ∀ b o, b ≠ AR → H7 b = some o → H8 b = some o := by
  have nTs : T ≠ s := so.ne nT
  have nTA : T ≠ AR := fun e => by rw [e, eA] at nT; cases nT
  have S7 := hS.keep k so
  have fT : ¬ S T := S7.free nT
  have fA : ¬ S AR := hS.free nA
  have nT0 : H T = none := k.free nTs nT
  refine ⟨_, rfl, (k.new nT0).new nA, (so.put fT).put fA, upd_same, ?_, fun b o hb e => ?_⟩
  · rw [List.map_append]
    have h1 : DaAll S (upd H7 T (.tup [.int p.1, .int p.2])) ys (As.map pd) := hys.new nT
    have e1 : upd H7 T (.tup [.int p.1, .int p.2]) AR = some (.lst ys) := by rw [upd_ne nTA.symm]; exact eA
    exact (daAll_pd_put e1 h1).app (.one (da_ofpd fT (by rw [upd_ne nTA]; exact upd_same)))
  · rw [upd_ne hb, upd_ne (fun z => by rw [z, nT] at e; cases e)]
    exact e
theorem rgV_nat (n : Nat) : rgV 0 (n : Int) = ((List.range n).map fun k : Nat => (k : Int)).map V.int := by
  unfold rgV
  rw [List.map_map, show ((n : Int) - 0).toNat = n by omega]
  refine List.map_congr_left fun k _ => ?_
  show V.int (0 + (k : Int)) = V.int k
  rw [Int.zero_add]
theorem tt_len {K : PySem.W.Frag} {t : TE} {v : V} {r : R2} {σ : L2.St} {H : Hp} {k : Bool → Hp → Prop} (h : t σ H fun x H1 => Lg.rLen K [x] H1 fun y H2 => r y v H2 fun b H3 => ∃ c, b = .bl c ∧ k c H3) : tTest (tOp r (tCB (Lg.rLen K) (tCons t tNil)) (tC v)) σ H k := h
theorem daAll_ints {S : Av} {H : Hp} : ∀ {vs : List V} {L : List Int}, DaAll S H vs (L.map PyData.int) → vs = L.map V.int
  | [], [], _ => rfl
  | _ :: _, _ :: _, .cons h r => by rw [List.map_cons, daAll_ints r, Da.intV h]
theorem daAll_strs {S : Av} {H : Hp} : ∀ {vs : List V} {L : List Str}, DaAll S H vs (L.map PyData.str) → vs = L.map V.str
  | [], [], _ => rfl
  | _ :: _, _ :: _, .cons h r => by rw [List.map_cons, daAll_strs r, Da.strV h]
theorem ints_daAll {S : Av} {H : Hp} : ∀ {L : List Int}, DaAll S H (L.map V.int) (L.map PyData.int)
  | [] => .nil
  | _ :: _ => .cons (.int _) ints_daAll
theorem strs_daAll {S : Av} {H : Hp} : ∀ {L : List Str}, DaAll S H (L.map V.str) (L.map PyData.str)
  | [] => .nil
  | _ :: _ => .cons (.str _) strs_daAll
/-- a new tuple is data beside whatever else is apart -/
theorem da_pd2 {S : Av} {H1 H5 : Hp} {t : Addr} {p : Int × Int} (hS : Al S H1) (s : Same H1 H5) (n : H5 t = none) : Da S (upd H5 t (.tup [.int p.1, .int p.2])) (.ref t) (pd p) ∧ ∀ D, H1 D ≠ none → Da (addA S D) (upd H5 t (.tup [.int p.1, .int p.2])) (.ref t) (pd p) := by
  have nS : ¬ S t := (hS.same s).free n
  refine ⟨.tup nS upd_same (.cons (.int _) (.one (.int _))), fun D hD => .tup (fun h => ?_) upd_same (.cons (.int _) (.one (.int _)))⟩
  rcases h with h | rfl
  · exact nS h
  · exact hD (s.free n)
theorem da_ld2 {S : Av} {H1 H5 : Hp} {t : Addr} {p : Int × Str} (hS : Al S H1) (s : Same H1 H5) (n : H5 t = none) : Da S (upd H5 t (.tup [.int p.1, .str p.2])) (.ref t) (ld p) ∧ ∀ D, H1 D ≠ none → Da (addA S D) (upd H5 t (.tup [.int p.1, .str p.2])) (.ref t) (ld p) := by
  have nS : ¬ S t := (hS.same s).free n
  refine ⟨.tup nS upd_same (.cons (.int _) (.one (.str _))), fun D hD => .tup (fun h => ?_) upd_same (.cons (.int _) (.one (.str _)))⟩
  rcases h with h | rfl
  · exact nS h
  · exact hD (s.free n)
/-- one more place with an empty list -/
theorem DiN.grow {H0 H : Hp} {D : Addr} {P : List Int} {am : Int → Addr} (h : DiN H0 H D P am fun _ => []) {q : Int} {a : Addr} (hq : q ∉ P) (na : H a = none) (s : Same H0 H) :
    DiN H0 (upd (upd H a (.lst [])) D (.dK (putK (P.map fun p => ((.inl p : Key), V.ref (am p))) (.inl q) (.ref a)))) D (P ++ [q]) (fun p => if p = q then a else am p) fun _ => [] := by
  have hne : ∀ p ∈ P, p ≠ q := fun p hp e => hq (e ▸ hp)
  have naD : a ≠ D := fun e => by rw [e, h.at_] at na; cases na
  have nap : ∀ p ∈ P, am p ≠ a := fun p hp e => by
    have := h.val p hp
    rw [e, na] at this
    cases this
  have npD : ∀ p ∈ P, am p ≠ D := fun p hp e => by
    have := h.val p hp
    rw [e, h.at_] at this
    cases this
  refine ⟨h.nd, fun p hp => ?_, fun p hp p' hp' e => ?_, ?_, fun p hp => ?_⟩
  · rcases List.mem_append.mp hp with hp | hp
    · try dsimp only
      rw [if_neg (hne p hp)]
      exact h.na p hp
    · rw [List.mem_singleton] at hp
      try dsimp only
      rw [if_pos hp]
      exact s.free na
  · try dsimp only at e
    rcases List.mem_append.mp hp with hp | hp <;> rcases List.mem_append.mp hp' with hp' | hp'
    · rw [if_neg (hne p hp), if_neg (hne p' hp')] at e
      exact h.inj p hp p' hp' e
    · rw [List.mem_singleton] at hp'
      rw [if_neg (hne p hp), if_pos hp'] at e
      exact absurd e (nap p hp)
    · rw [List.mem_singleton] at hp
      rw [if_pos hp, if_neg (hne p' hp')] at e
      exact absurd e.symm (nap p' hp')
    · rw [List.mem_singleton] at hp hp'
      rw [hp, hp']
  · rw [upd_same, putK_new hq]
    show some (HO.dK _) = some (HO.dK ((P ++ [q]).map _))
    rw [List.map_append, List.map_singleton]
    try dsimp only
    rw [if_pos rfl]
    congr 3
    exact List.map_congr_left fun p hp => by rw [if_neg (hne p hp)]
  · rcases List.mem_append.mp hp with hp | hp
    · try dsimp only
      rw [if_neg (hne p hp), upd_ne (npD p hp), upd_ne (nap p hp)]
      exact h.val p hp
    · rw [List.mem_singleton] at hp
      try dsimp only
      rw [if_pos hp, upd_ne naD, upd_same]
      rfl
theorem perm_pd {es : List PyData} {As : List (Int × Int)} (h : es.Perm (As.map pd)) : ∃ As' : List (Int × Int), As'.Perm As ∧ es = As'.map pd := by
  refine ⟨asOf es, ?_, ?_⟩
  · have := h.map asF
    rw [show (As.map pd).map asF = asOf (As.map pd) from rfl, asOf_pd] at this
    exact this
  · unfold asOf
    rw [List.map_map]
    refine (List.map_id es).symm.trans (List.map_congr_left fun e he => ?_)
    obtain ⟨a, _, rfl⟩ := List.mem_map.mp (h.mem_iff.mp he)
    rfl
theorem perm_ld {es : List PyData} {As : List (Int × Str)} (h : es.Perm (As.map ld)) : ∃ As' : List (Int × Str), As'.Perm As ∧ es = As'.map ld := by
  refine ⟨lsOf es, ?_, ?_⟩
  · have := h.map lsF
    rw [show (As.map ld).map lsF = lsOf (As.map ld) from rfl, lsOf_ld] at this
    exact this
  · unfold lsOf
    rw [List.map_map]
    refine (List.map_id es).symm.trans (List.map_congr_left fun e he => ?_)
    obtain ⟨a, _, rfl⟩ := List.mem_map.mp (h.mem_iff.mp he)
    rfl
end Lg

/-! Classes by name: instances made, methods called; nets that stay. -/
namespace Lg
open PySem PySem.Spec PyProof.Rows L2
structure OwnM (P : Program) (w : World) (K : PySem.W.Frag) (mg : Str → Option Value) (base : Heap) (k : Nat) (C : Addr) (m : Str) (ps : List Str) (sp : Sp) : Prop where
  ex : ∃ f fd, FnOk P w K mg base CX0 k f fd ps sp ∧ Meth K C m f ∧ Binds K fd ps []
theorem OwnM.up {P : Program} {w : World} {K : PySem.W.Frag} {mg : Str → Option Value} {base : Heap} {C : Addr} {m : Str} {ps : List Str} {sp : Sp} {j k : Nat} (O : OwnM P w K mg base k C m ps sp) (h : k ≤ j) : OwnM P w K mg base j C m ps sp := by
  obtain ⟨f, fd, F, r⟩ := O.ex
  exact ⟨f, fd, F.mono h, r⟩
structure OwnC (P : Program) (w : World) (K : PySem.W.Frag) (mg : Str → Option Value) (base : Heap) (k : Nat) (x : Str) (C : Addr) (ps : List Str) (sp : Sp) : Prop where
  ex : ∃ i f fd, i + 1 ≤ k ∧ FnOk P w K mg base CX0 i f fd ps sp ∧ Mk K C f ∧ mg x = some (.ref C) ∧ Binds K fd ps []
theorem OwnC.up {P : Program} {w : World} {K : PySem.W.Frag} {mg : Str → Option Value} {base : Heap} {x : Str} {C : Addr} {ps : List Str} {sp : Sp} {j k : Nat} (O : OwnC P w K mg base k x C ps sp) (h : k ≤ j) : OwnC P w K mg base j x C ps sp := by
  obtain ⟨i, f, fd, l, r⟩ := O.ex
  exact ⟨i, f, fd, Nat.le_trans l h, r⟩
section
variable {X : Cx} {k : Nat} {C : Addr} {m x : Str} {ps : List Str} {sp : Sp} {o e : Expr} {es : List Expr} {ta : TE} {t : TA} {p apos pos : Pos}
theorem pe_ownM0 {pl : Sem Bool} (O : OwnM X.prog X.w X.K X.mg X.base k C m ps sp) (hr : Room k X.A) (c : Cls X.K C) (he : PE X o ta)
    (ht : eval (.Call (.Attribute o m apos) [] [] pos) X.env = (do
      let ov ← eval o X.env
      standAt apos.atName
      let (f, first) ← holding [ov] (getMethod ov m pl)
      callWith pos f first (backTo pos (starEach [] X.env)) (backToKw pos (keywordEach [] X.env))) := by rfl) :
    PE X (.Call (.Attribute o m apos) [] [] pos) (tMeth C m sp [] E0 ta tNil) := by
  obtain ⟨f, fd, F, hm, hb⟩ := O.ex
  exact pe_meth0 he c hm F hr hb .nil pass0 ht
theorem pe_ownC (O : OwnC X.prog X.w X.K X.mg X.base k x C ps sp) (hr : Room k X.A) (hg : Gl X x) (ha : PA X (e :: es) t) (hdb : (x == ("__debug__" : Str)) = false := by decide)
    (he : starEach (e :: es) X.env = (false, eval e X.env) :: starEach es X.env := by rfl) (hpl : (backTo pos (starEach es X.env)).any (·.1) = false := by rfl) :
    PE X (.Call (.Name x p) (e :: es) [] pos) (tMake C sp [] E0 t) := by
  obtain ⟨i, f, fd, l, F, M, hm, hb⟩ := O.ex
  exact pe_make M F (hr.mono l) hg hm hb .nil pass0 ha hdb he hpl
end
theorem DiR.go {H H' : Hp} {D : Addr} {P : List Int} {adr : Int → Addr} {val : Int → List Int} (h : DiR H D P adr val) (eD : H' D = some (dKs P adr)) (k : ∀ p ∈ P, ∀ o, H (adr p) = some o → H' (adr p) = some o) : DiR H' D P adr val :=
  ⟨.inl eD, fun p hp => k p hp _ (h.val p hp)⟩
theorem NetAt.go {S S' : Av} {K : PySem.W.Frag} {H H' : Hp} {o : Addr} {Bs : List (Int × Int)} {Ls Ms : List (Int × Str)} {P : List Int} {root : Int} (h : NetAt S K H o Bs Ls Ms P root) (k : ∀ b u, ¬ S b → H b = some u → ¬ S' b ∧ H' b = some u) : NetAt S' K H' o Bs Ls Ms P root := by
  obtain ⟨hs, dx, A, L, M, C, NA, PA, NM, am, ac, ys, zs, ns, eo, ⟨eA, hA⟩, ⟨eL, hL⟩, ⟨eM, hM⟩, ⟨eC, hC⟩, eNA, ePA, ⟨eNM, hn1, hn2⟩, hS, hP⟩ := h
  have go := fun b u hb e => k b u hb e
  have m : ∀ b, b ∈ [o, A, L, M, C, NA, PA, NM] → ∀ u, H b = some u → ¬ S' b ∧ H' b = some u := fun b hb u e => k b u (hS b hb) e
  have eM' := (m M (by simp) _ eM).2
  have eC' := (m C (by simp) _ eC).2
  refine ⟨hs, dx, A, L, M, C, NA, PA, NM, am, ac, ys, zs, ns, (m o (by simp) _ eo).2, ⟨(m A (by simp) _ eA).2, hA.go k⟩, ⟨(m L (by simp) _ eL).2, hL.go k⟩, ⟨eM', hM.go eM' fun p hp u e => (k _ u (hP p hp).1 e).2⟩, ⟨eC', hC.go eC' fun p hp u e => (k _ u (hP p hp).2 e).2⟩,
    (m NA (by simp) _ eNA).2, (m PA (by simp) _ ePA).2, ⟨(m NM (by simp) _ eNM).2, hn1, hn2⟩, fun b hb => ?_, fun p hp => ⟨(k _ _ (hP p hp).1 (hM.val p hp)).1, (k _ _ (hP p hp).2 (hC.val p hp)).1⟩⟩
  simp only [List.mem_cons, List.not_mem_nil, or_false] at hb
  rcases hb with rfl | rfl | rfl | rfl | rfl | rfl | rfl | rfl
  · exact (m _ (by simp) _ eo).1
  · exact (m _ (by simp) _ eA).1
  · exact (m _ (by simp) _ eL).1
  · exact (m _ (by simp) _ eM).1
  · exact (m _ (by simp) _ eC).1
  · exact (m _ (by simp) _ eNA).1
  · exact (m _ (by simp) _ ePA).1
  · exact (m _ (by simp) _ eNM).1
theorem Good.perm {As As' : List (Int × Int)} {Ls Ls' : List (Int × Str)} {P : List Int} (g : Good As Ls P) (h1 : As'.Perm As) (h2 : Ls'.Perm Ls) : Good As' Ls' P := by
  obtain ⟨P', g'⟩ := g.renamed (f := id) (fun _ _ _ _ e => e) g.rng (As' := As') (Ls' := Ls') (by rw [show (As.map fun a => (id a.1, id a.2)) = As from List.map_id As]; exact h1) (by rw [show (Ls.map fun l => (id l.1, l.2)) = Ls from List.map_id Ls]; exact h2)
  have : P' = P := Asc.uniq g'.asc g.asc fun k => by
    rw [List.mem_append, List.mem_append, (h2.map _).mem_iff, List.mem_flatMap, List.mem_flatMap]
    exact or_congr ⟨fun ⟨a, ha, h⟩ => ⟨a, h1.mem_iff.mp ha, h⟩, fun ⟨a, ha, h⟩ => ⟨a, h1.mem_iff.mpr ha, h⟩⟩ Iff.rfl
  exact this ▸ g'
/-- a net of the program beside the law's own lists -/
structure NetF (S : Av) (K : PySem.W.Frag) (H : Hp) (v : V) (o : Addr) (As Bs : List (Int × Int)) (Ls : List (Int × Str)) (P : List Int) : Prop where
  good : Good As Ls P
  srt : SrtA As Bs
  da : Da S H v (netD As Ls)
  net : ∃ Ls' Ms root, NetAt S K H o Bs Ls' Ms P root ∧ root ∈ P ∧ ∀ p ∈ P, upsOf Bs p = [] ↔ p = root
theorem NetF.go {S S' : Av} {K : PySem.W.Frag} {H H' : Hp} {v : V} {o : Addr} {As Bs : List (Int × Int)} {Ls : List (Int × Str)} {P : List Int} (h : NetF S K H v o As Bs Ls P) (k : ∀ b u, ¬ S b → H b = some u → ¬ S' b ∧ H' b = some u) : NetF S' K H' v o As Bs Ls P := by
  obtain ⟨Ls', Ms, root, h1, h2⟩ := h.net
  exact ⟨h.good, h.srt, h.da.go k, Ls', Ms, root, h1.go k, h2⟩
theorem NetF.ins {S : Av} {K : PySem.W.Frag} {H : Hp} {v : V} {o : Addr} {As Bs : List (Int × Int)} {Ls : List (Int × Str)} {P : List Int} (h : NetF S K H v o As Bs Ls P) : ∃ (dx A L M C NA PA NM : Addr) (root : Int), H o = some (.ins (He.ga K "Net") dx [("_arrows", .ref A), ("_leaves", .ref L), ("_mothers", .ref M), ("_children", .ref C), ("_name_at", .ref NA), ("_place_at", .ref PA), ("_names", .ref NM), ("_root", .int root)]) := by
  obtain ⟨_, _, root, h1, _⟩ := h.net
  obtain ⟨dx, A, L, M, C, NA, PA, NM, _, _, _, _, _, eo, _⟩ := h1.ex
  exact ⟨dx, A, L, M, C, NA, PA, NM, root, eo⟩
theorem meth0_h {sp : Sp} {x : V} {σ : L2.St} {H : Hp} {Q : VK} {E : XK} (h : sp [x] H Q E) : tNil σ H (fun vs H2 => sp (x :: (vs ++ [])) H2 Q E) := h
theorem net_head {S : Av} {H : Hp} {v : V} {As : List (Int × Int)} {Ls : List (Int × Str)} {e : PyData} (h : Da S H v (.list [netD As Ls, e])) : ∃ (G : Addr) (x y : V), v = .ref G ∧ H G = some (.lst [x, y]) ∧ Da S H x (netD As Ls) := by
  obtain ⟨G, gs, rfl, _, eG, hG⟩ := h.list
  cases hG with
  | cons h1 r =>
  cases r with
  | cons h2 r =>
  cases r
  exact ⟨G, _, _, rfl, eG, h1⟩
end Lg

/-! Instances compared by their own ==, isinstance of an own class, the size of a set, lists of pairs compared, keywords in another order. -/
namespace Lg
open PySem PySem.Spec PyProof.Rows L2
theorem cr_lenSet {X : Cx} : CallR X (.builtin "len") (fun xs H Q => ∃ a S n, xs = [.ref a] ∧ H a = some (SetO X.w a S n) ∧ Q (.int (n : Nat)) H) := by
  intro pins s σ H xs us Q I r h
  obtain ⟨a, S, n, rfl, ha, q⟩ := h
  rw [Vals.ref1 r]
  obtain ⟨o, es, ep, t, ho, hex, hd, _, _, _, hsc, hf, hn, _⟩ := setO_get I ha
  have hs : es.size < 2 ^ 62 := Nat.lt_of_lt_of_le hsc (by decide)
  subst hn
  exact call_len_set ho hex hd hf (by omega) ⟨.int es.size, H, I.tok _, ⟨_, rfl⟩, q⟩
/-- x == y, two instances of the class at C whose == is its own -/
def rEqI (C : Addr) (sp : Sp) : R2 := fun x y H Q => ∃ a b dx dy fs gs, x = .ref a ∧ y = .ref b ∧ H a = some (.ins C dx fs) ∧ H b = some (.ins C dy gs) ∧ sp [x, y] H Q E0
theorem op_eqI {X : Cx} {k : Nat} {C : Addr} {ps : List Str} {sp : Sp} (O : OwnM X.prog X.w X.K X.mg X.base k C "__eq__" ps sp) (hr : Room k X.A) : OpR X (compareOp .Eq) (rEqI C sp) := by
  intro pins s σ H x y v u Q I rx ry h
  obtain ⟨a, b, dx, dy, fs, gs, rfl, rfl, ha, hb, q⟩ := h
  cases (show v = Value.ref a from rx)
  cases (show u = Value.ref b from ry)
  obtain ⟨f, fd, F, hm, bi⟩ := O.ex
  obtain ⟨mA, J, _⟩ := ins_get I.hok ha
  obtain ⟨mB, J', _⟩ := ins_get I.hok hb
  obtain ⟨od, J, _⟩ := J.look
  obtain ⟨od', J', _⟩ := J'.look
  obtain ⟨m, hF⟩ := I.fr
  refine PySem.W.cmp_K (op := .Eq) (tb := .ref C) hr.units0 hF I.ok.mod.kin J J'.type (by simp [PySem.W.notFirst]) hm.at_ hm.fn ?_
  refine wpAny_mono (wpAny_call (run_fnR (us := [.ref a, .ref b]) (vs := [.ref a, .ref b]) (E := E0) (F.raw bi .nil) hr pass0 I (.cons rfl (.cons rfl .nil)) q)) (fun w s' z => ?_) fun _ _ x => x
  obtain ⟨z', H', I', rz, qz⟩ := z
  exact SlX.cmpback rz ⟨z', H', I', rz, qz⟩
theorem insB_ok {K : PySem.W.Frag} {C : Addr} (c : Cls K C) (h : insB K C = true) : C8.InsC K C := by
  unfold insB at h
  simp only [Bool.and_eq_true, decide_eq_true_eq] at h
  obtain ⟨h1, h2, h3, h4, h5⟩ := h
  exact ⟨c, He.eqO_ok h1, He.eqO_ok h2, h3, h4, h5⟩
theorem eqv_pds (As Bs : List (Int × Int)) : PyData.eqv (.list (As.map pd)) (.list (Bs.map pd)) = decide (As = Bs) := by
  show PyData.eqvAll (As.map pd) (Bs.map pd) = _
  induction As generalizing Bs with
  | nil => cases Bs <;> simp [PyData.eqvAll]
  | cons a As ih =>
    cases Bs with
    | nil => simp [PyData.eqvAll]
    | cons b Bs =>
      show (PyData.eqv (pd a) (pd b) && PyData.eqvAll (As.map pd) (Bs.map pd)) = _
      rw [ih, eqv_pd, Bool.eq_iff_iff]
      simp
theorem eqv_ints (As Bs : List Int) : PyData.eqv (.list (As.map PyData.int)) (.list (Bs.map PyData.int)) = decide (As = Bs) := by
  show PyData.eqvAll (As.map PyData.int) (Bs.map PyData.int) = _
  induction As generalizing Bs with
  | nil => cases Bs <;> simp [PyData.eqvAll]
  | cons a As ih =>
    cases Bs with
    | nil => simp [PyData.eqvAll]
    | cons b Bs =>
      show (PyData.eqv (.int a) (.int b) && PyData.eqvAll (As.map PyData.int) (Bs.map PyData.int)) = _
      rw [ih, Bool.eq_iff_iff]
      simp [PyData.eqv]
theorem eqv_lds (As Bs : List (Int × Str)) : PyData.eqv (.list (As.map ld)) (.list (Bs.map ld)) = decide (As = Bs) := by
  show PyData.eqvAll (As.map ld) (Bs.map ld) = _
  induction As generalizing Bs with
  | nil => cases Bs <;> simp [PyData.eqvAll]
  | cons a As ih =>
    cases Bs with
    | nil => simp [PyData.eqvAll]
    | cons b Bs =>
      obtain ⟨a1, a2⟩ := a
      obtain ⟨b1, b2⟩ := b
      show (PyData.eqvAll [.int a1, .str a2] [.int b1, .str b2] && PyData.eqvAll (As.map ld) (Bs.map ld)) = _
      rw [ih, Bool.eq_iff_iff]
      simp [PyData.eqvAll, PyData.eqv]
theorem ld_depth (p : Int × Str) : (ld p).depth = 1 := rfl
theorem strOk_name {z : Str} (h : nameL z.cps.toList = true) : PyData.strOk z = true := by
  have key : ∀ c ∈ z.cps.toList, c < 0x110000 := by
    generalize z.cps.toList = l at h
    cases l with
    | nil => cases h
    | cons c r =>
      unfold nameL at h
      rw [Bool.and_eq_true, Bool.and_eq_true, List.all_eq_true] at h
      have b : ∀ c, (isLet c || isDig c) = true → c < 0x110000 := fun c hc => by
        unfold isLet isDig at hc
        simp only [Bool.or_eq_true, Bool.and_eq_true, decide_eq_true_eq] at hc
        omega
      intro x hx
      rcases List.mem_cons.mp hx with rfl | hx
      · exact b x (by rw [h.1.1]; rfl)
      · exact b x (h.1.2 x hx)
  show z.cps.all (fun c => decide (c < 0x110000)) = true
  rw [← Array.all_toList, List.all_eq_true]
  exact fun c hc => decide_eq_true (key c hc)
theorem shaped_lds {As : List (Int × Str)} (h : ∀ p ∈ As, nameL p.2.cps.toList = true) : SeqAt.shaped (.list (As.map ld)) = true := by
  refine Bool.and_eq_true_iff.mpr ⟨lay_map ld fun p hp => ?_, decide_eq_true ?_⟩
  · have := strOk_name (h p hp)
    simp only [PyData.canLay0, PyData.canLayAll0, Bool.and_true, Bool.true_and]
    exact this
  · exact Nat.le_trans (Nat.succ_le_succ (depth_map ld 1 fun p _ => Nat.le_of_eq (ld_depth p))) (by decide)
theorem shaped_ints (As : List Int) : SeqAt.shaped (.list (As.map PyData.int)) = true := by
  refine Bool.and_eq_true_iff.mpr ⟨lay_map PyData.int fun p _ => rfl, decide_eq_true ?_⟩
  exact Nat.le_trans (Nat.succ_le_succ (depth_map PyData.int 0 fun p _ => Nat.le_of_eq rfl)) (by decide)
end Lg

/-! Keywords in any order; sorted lists of pairs and of leaves are told by their items; what a match of two nets is. -/
namespace Lg
open PySem PySem.Spec PyProof.Rows L2
abbrev pdL (ps : List (Int × Int)) : PyData := .list (ps.map pd)
def permL {α : Type} (is : List Nat) (zs : List α) : List α := is.filterMap fun i => zs[i]?
theorem vals_permL {zs : List V} {ws : List Value} (h : Vals zs ws) : ∀ is : List Nat, Vals (permL is zs) (permL is ws)
  | [] => .nil
  | i :: is => by
    unfold permL
    rw [List.filterMap_cons, List.filterMap_cons]
    cases e : zs[i]? with
    | none =>
      have : ws[i]? = none := by
        rw [List.getElem?_eq_none_iff] at e ⊢
        rw [← h.length]
        exact e
      rw [this]
      exact vals_permL h is
    | some x =>
      obtain ⟨u, hu, r⟩ := h.get e
      rw [hu]
      exact .cons r (vals_permL h is)
structure OwnK (P : Program) (w : World) (K : PySem.W.Frag) (mg : Str → Option Value) (base : Heap) (k : Nat) (x : Str) (ps ks : List Str) (is : List Nat) (sp : Sp) : Prop where
  ex : ∃ f fd, FnOk P w K mg base CX0 k f fd ps sp ∧ mg x = some (.ref f) ∧ PySem.W.keepIn K (.ref f) = true ∧ KBn K fd ps 0 ks (fun _ ws => permL is ws) (fun _ zs => permL is zs)
theorem OwnK.up {P : Program} {w : World} {K : PySem.W.Frag} {mg : Str → Option Value} {base : Heap} {x : Str} {ps ks : List Str} {is : List Nat} {sp : Sp} {j k : Nat} (O : OwnK P w K mg base k x ps ks is sp) (h : k ≤ j) : OwnK P w K mg base j x ps ks is sp := by
  obtain ⟨f, fd, F, r⟩ := O.ex
  exact ⟨f, fd, F.mono h, r⟩
section
variable {X : Cx} {k : Nat} {x : Str} {ps ks : List Str} {is : List Nat} {sp : Sp} {t : TA} {p pos : Pos} {kws : List Keyword}
theorem pe_ownKP (O : OwnK X.prog X.w X.K X.mg X.base k x ps ks is sp) (hr : Room k X.A) (hg : Gl X x) (hkw : PK X kws t)
    (hks : (backToKw pos (keywordEach kws X.env)).filterMap (·.1) = ks := by rfl) (hall : (backToKw pos (keywordEach kws X.env)).all (·.1.isSome) = true := by rfl) (hdb : (x == ("__debug__" : Str)) = false := by decide)
    (hpl : ((backTo pos (starEach [] X.env)).any (·.1) || (backToKw pos (keywordEach kws X.env)).any (·.1.isNone)) = false := by rfl) :
    PE X (.Call (.Name x p) [] kws pos) (fun σ H Q => t σ H fun zs H2 => zs.length = ks.length ∧ sp (permL is zs) H2 Q E0) := by
  obtain ⟨f, fd, F, gm, kp, hb⟩ := O.ex
  refine ⟨fun pins s σ H Q I h => ?_⟩
  refine wpAny_Call_Name_kw (ld_glob I hg gm ?_ hdb)
  refine PySem.W.callWith_KW0 (h₀ := X.base) I.ok.mod.kin kp hall ?_ hpl
  refine thn (hkw.run pos pins s σ H _ I h) fun ws s2 ⟨zs, H2, I2, rz, l2, q2⟩ => ⟨I2.kIn, ?_⟩
  rw [hks]
  exact run_fnN (us := []) (vs := []) F hr hb pass0 I2 .nil rz rfl l2 q2
end
theorem kbnP_of {K : PySem.W.Frag} {x qual : Str} {st : Stmt} {f : Addr} {fd : FuncData} {ps ks : List Str} {is : List Nat} (F : Fun K x qual st f fd)
    (h : ∀ (kV doc pm : Value) (an : Option Addr) (cdv ct : Value) (ws : List Value), ws.length = ks.length → bindArgs (PySem.W.fnOf x qual (defArgs st) (defBody st) (defScope st) .none kV doc pm an cdv ct) ⟨[], ks.zip ws⟩ = pure (ps.zip (permL is ws))) :
    KBn K fd ps 0 ks (fun _ ws => permL is ws) (fun _ zs => permL is zs) := by
  obtain ⟨oc, od, kV, doc, pm, an, cdv, ct, osl, rfl, lk, hcd⟩ := F.ex
  refine ⟨fun s us ws _ h1 h2 => ?_, fun _ r => vals_permL r is⟩
  have e : us = [] := List.eq_nil_of_length_eq_zero h1
  subst e
  exact .of_eq (h kV doc pm an cdv ct ws h2)
/-- {..: .. for a, b in pairs} -/
theorem dc_pairs {K : PySem.W.Frag} {S : Av} {j ia ib : Nat} {a : Addr} {xs : List V} {ps : List (Int × Int)} {tk tv : TE} {vs : List Nat} {σ : L2.St} {H : Hp} {Q : VK} (hσ : σ[j]? = some (some (.ref a))) (ea : H a = some (.lst xs)) (hA : DaAll S H xs (ps.map pd)) (hnd : (ps.map (·.1)).Nodup) (hn : ps.length < sizeLine)
    (hw : ∀ u v, wipe ((((wipe σ vs).set ia (some u)).set ib (some v))) vs = wipe σ vs)
    (hs : ∀ (p : Int × Int) (H1 : Hp) (B : V → V → Hp → Prop), B (.int p.1) (.int p.2) H1 → tk (((wipe σ vs).set ia (some (.int p.1))).set ib (some (.int p.2))) H1 fun y H2 => tv (((wipe σ vs).set ia (some (.int p.1))).set ib (some (.int p.2))) H2 fun v H3 => B y v H3)
    (hd : ∀ D H', H D = none → Same H H' → H' D = some (.dK (ps.map fun p => ((.inl p.1 : Key), V.int p.2))) → Q (.ref D) H') : tDc (iList K (tVar j)) (gTup K 2 (gCons (gName ia) (gCons (gName ib) gNil))) tYes tk tv vs σ H Q := by
  have lx : xs.length = ps.length := by rw [hA.length, List.length_map]
  refine ⟨_, hσ, a, rfl, ⟨_, .of ea⟩, ?_⟩
  refine dc_map (walk_list (K := K) (a := a) (xs := xs)) (ps.map fun p => ((.inl p.1 : Key), V.int p.2)) (by rw [List.length_map, lx]) ?_ (by omega) (fun H' sm => .of (sm _ _ ea)) ?_ hd
  · rw [List.map_map]
    exact List.pairwise_map.mpr ((List.pairwise_map.mp hnd).imp fun h e => h (Sum.inl.inj e))
  · rintro i x H1 H2 N B z hz sm ⟨rfl, hx⟩ hB
    obtain ⟨p, t, ed, rfl, nt, et⟩ := hA.pdS sm hx
    rw [List.getElem?_map, ed] at hz
    cases hz
    refine ⟨t, _, rfl, .of et, rfl, _, _, rfl, _, _, rfl, rfl, ?_⟩
    exact ⟨hw _ _, hs p _ _ (hB _ (Same.refl _))⟩
theorem dIs_pairs {ps : List (Int × Int)} {g : Int → Int} (h : ∀ p ∈ ps, g p.1 = p.2) : (HO.dK (ps.map fun p => ((.inl p.1 : Key), V.int p.2))) = dIs (ps.map (·.1)) g := by
  show _ = HO.dK ((ps.map (·.1)).map _)
  rw [List.map_map]
  congr 1
  exact List.map_congr_left fun p hp => by rw [Function.comp, h p hp]
/-! a reading opened where what comes behind is no variable -/
section
variable {te : TE} {t : TA} {D : Ends} {σ : L2.St} {H : Hp} {k : Bool → Hp → Prop} {Q : VK} {r : List V → Hp → VK → Prop}
theorem ret_h (h : te σ H D.rt) : tRet te D σ H := h
theorem next_h (h : D.nx σ H) : tNext D σ H := h
theorem cb_h (h : te σ H fun x H1 => r [x] H1 Q) : tCB r (tCons te tNil) σ H Q := h
theorem notB_h (h : te σ H fun x H1 => ∃ c, x = .bl c ∧ k (!c) H1) : tNot (tB te) σ H k := h
theorem ifs_h {c : TT} {a b : TS} (h : c σ H fun z H1 => if z = true then a D σ H1 else b D σ H1) : tIfS c a b D σ H := h
theorem test_h (h : te σ H fun x H1 => ∃ c, x = .bl c ∧ k c H1) : tTest te σ H k := h
theorem seq_ifs_h {c : TT} {a b u : TS} (h : c σ H fun z H1 => if z = true then a { D with nx := u D } σ H1 else b { D with nx := u D } σ H1) : tSeq (tIfS c a b) u D σ H := h
end
/-- a comprehension over what a call returns -/
theorem lc_td {K : PySem.W.Frag} {td te : TE} {g : TG} {tt : TT} {vs : List Nat} {σ : L2.St} {H : Hp} {Q : VK} (h : td σ H fun x H1 => tLc (iList K (fun _ H R => R x H)) g tt te vs σ H1 Q) : tLc (iList K td) g tt te vs σ H Q := h
/-- one list has one order -/
theorem perm_pair_eq {α : Type} {r : α → α → Prop} : ∀ {l m : List α}, l.Perm m → l.Pairwise r → m.Pairwise r → (∀ a ∈ l, ∀ b ∈ l, r a b → r b a → a = b) → l = m
  | [], m, h, _, _, _ => (List.nil_perm.mp h).symm
  | a :: l, [], h, _, _, _ => absurd (List.perm_nil.mp h) (by simp)
  | a :: l, b :: m, h, h1, h2, h3 => by
    have h1 := List.pairwise_cons.mp h1
    have h2 := List.pairwise_cons.mp h2
    have e : a = b := by
      rcases List.mem_cons.mp (h.mem_iff.mp (List.mem_cons_self (a := a) (l := l))) with e | ha
      · exact e
      · have hb : b ∈ a :: l := h.mem_iff.mpr List.mem_cons_self
        rcases List.mem_cons.mp hb with e | hb'
        · exact e.symm
        · exact h3 a List.mem_cons_self b hb (h1.1 b hb') (h2.1 a ha)
    subst e
    rw [perm_pair_eq ((List.perm_cons a).mp h) h1.2 h2.2 fun x hx y hy => h3 x (List.mem_cons_of_mem _ hx) y (List.mem_cons_of_mem _ hy)]
theorem SrtL.uniq {Ls Ms Ns : List (Int × Str)} (h1 : SrtL Ls Ms) (h2 : SrtL Ls Ns) (nd : (Ls.map (·.1)).Nodup) : Ms = Ns := by
  refine perm_pair_eq (h1.1.trans h2.1.symm) h1.2 h2.2 fun a ha b hb e1 e2 => ?_
  have h3 := lexPS_no.mp e1
  have h4 := lexPS_no.mp e2
  have e : a.1 = b.1 := by omega
  have ha := h1.1.mem_iff.mp ha
  have hb := h1.1.mem_iff.mp hb
  obtain ⟨i, hi⟩ := List.mem_iff_getElem?.mp ha
  obtain ⟨j, hj⟩ := List.mem_iff_getElem?.mp hb
  have g1 : (Ls.map (·.1))[i]? = some a.1 := by rw [List.getElem?_map, hi]; rfl
  have g2 : (Ls.map (·.1))[j]? = some a.1 := by rw [List.getElem?_map, hj, e]; rfl
  have g1 := List.getElem?_eq_some_iff.mp g1
  have g2 := List.getElem?_eq_some_iff.mp g2
  have : i = j := (List.getElem_inj nd).mp (g1.2.trans g2.2.symm)
  subst this
  exact Option.some.inj (hi.symm.trans hj)
/-- a list of pairs with ascending first items is in order -/
theorem srtA_asc {ps : List (Int × Int)} (h : (ps.map (·.1)).Pairwise (· < ·)) {qs : List (Int × Int)} (hq : SrtA ps qs) : qs = ps := by
  refine SrtA.uniq hq ⟨.refl _, ?_⟩
  exact (List.pairwise_map.mp h).imp fun {a b} hab => SrtO.lexB_no.mpr (by omega)
theorem asc_perm {P L : List Int} (hP : P.Pairwise (· < ·)) (h : L.Perm P) (hL : L.Pairwise (· ≤ ·)) : L = P := by
  refine perm_pair_eq h hL (hP.imp Int.le_of_lt) fun a _ b _ h1 h2 => Int.le_antisymm h1 h2
/-! the depth of a list of pairs -/
theorem dd_pd {p : Int × Int} : Dd 1000 1 (pd p) := .tup (by show 2 ≤ 1000; decide) fun d hd => by
  simp only [List.mem_cons, List.not_mem_nil, or_false] at hd
  rcases hd with rfl | rfl <;> exact .int _ _
theorem dd_pdL {ps : List (Int × Int)} (h : ps.length ≤ 1000) : Dd 1000 2 (pdL ps) := .lst (by rw [List.length_map]; exact h) fun d hd => by
  obtain ⟨p, _, rfl⟩ := List.mem_map.mp hd
  exact dd_pd
theorem dd_pdL2 {ps qs : List (Int × Int)} (h1 : ps.length ≤ 1000) (h2 : qs.length ≤ 1000) : Dd 1000 3 (.list [pdL ps, pdL qs]) := .lst (by show 2 ≤ 1000; decide) fun d hd => by
  simp only [List.mem_cons, List.not_mem_nil, or_false] at hd
  rcases hd with rfl | rfl
  · exact dd_pdL h1
  · exact dd_pdL h2
/-- what was new may change -/
theorem same_upd {H H' : Hp} {p : Addr} {o : HO} (s : Same H H') (n : H p = none) : Same H (upd H' p o) := fun b u e => by
  rw [upd_ne (ne_of_none e n)]
  exact s b u e
/-- a comprehension over a list: what is new data of the items that pass -/
theorem lc_listDF {α : Type} {K : PySem.W.Frag} {td : TE} {a : Addr} {xs : List V} {S : Av} {g : TG} {tt : TT} {te : TE} {vs : List Nat} {σ : L2.St} {H : Hp} {Q : VK} (htd : ∀ R : V → Hp → Prop, R (.ref a) H → td σ H R) (ea : H a = some (.lst xs)) (hS : Al S H) (zs : List α) (hz : zs.length = xs.length) (p : α → Bool) (y : α → PyData) (hn : xs.length < sizeLine)
    (hs : ∀ (i : Nat) (x : V) (H1 : Hp) (N : Hp → Prop) (A : VK) (z : α), zs[i]? = some z → Same H H1 → Al S H1 → xs[i]? = some x → (∀ H4, Same H1 H4 → p z = false → N H4) → (∀ v H5, p z = true → Same H1 H5 → Da S H5 v (y z) → (∀ D, H1 D ≠ none → H D = none → Da (addA S D) H5 v (y z)) → A v H5) →
      g x (wipe σ vs) H1 fun σ2 H3 => wipe σ2 vs = wipe σ vs ∧ tt σ2 H3 fun b H4 => if b = true then te σ2 H4 A else N H4)
    (hd : ∀ D ys H', H D = none → Same H H' → ¬ S D → H' D = some (.lst ys) → DaAll S H' ys ((zs.filter p).map y) → Q (.ref D) H') : tLc (iList K td) g tt te vs σ H Q := by
  refine htd _ ⟨a, rfl, ⟨_, .of ea⟩, ?_⟩
  intro D nD
  have nSD : ¬ S D := hS.free nD
  refine loop_it (walk_list (K := K) (a := a) (xs := xs)) (fun i H' => Same H H' ∧ ∃ acc, H' D = some (.lst acc) ∧ DaAll (addA S D) H' acc (((zs.take i).filter p).map y)) ⟨same_new (Same.refl H) nD, _, upd_same, .nil⟩ (fun i H' _ hp => .of (hp.1 _ _ ea))
    (Step := fun Nx x H' => g x (wipe σ vs) H' fun σ2 H2 => wipe σ2 vs = wipe σ vs ∧ tt σ2 H2 fun b H3 =>
      if b = true then te σ2 H3 fun y H4 => ∃ acc, H4 D = some (.lst acc) ∧ acc.length < sizeLine ∧ Nx (upd H4 D (.lst (acc ++ [y]))) else Nx H3) ?_ ?_
  · rintro i x H1 H2 hi ⟨sm, acc, eD, hacc⟩ ⟨rfl, hx⟩
    obtain ⟨z, hzi⟩ : ∃ z, zs[i]? = some z := ⟨_, List.getElem?_eq_getElem (by omega)⟩
    refine hs i x H2 _ _ z hzi sm (hS.same sm) hx (fun H4 s4 h3 => ⟨fun b o eb => s4 _ _ (sm _ _ eb), acc, s4 _ _ eD, ?_⟩) fun v H5 h3 s5 hv hv2 => ⟨acc, s5 _ _ eD, ?_, fun b o eb => ?_, _, upd_same, ?_⟩
    · rw [← take_snoc hzi, List.filter_append, List.filter_cons_of_neg (by rw [h3]; decide), List.filter_nil, List.append_nil]
      exact hacc.same s4
    · rw [hacc.length, List.length_map]
      refine Nat.lt_of_le_of_lt (List.length_filter_le _ _) ?_
      rw [List.length_take]
      omega
    · rw [upd_ne (ne_of_none eb nD)]
      exact s5 _ _ (sm _ _ eb)
    · rw [← take_snoc hzi, List.filter_append, List.filter_cons_of_pos h3, List.filter_nil, List.map_append]
      exact ((hacc.same s5).app (.one (hv2 D (by rw [eD]; exact fun z => nomatch z) nD))).at
  · rintro H' ⟨sm, acc, eD, hacc⟩
    rw [← hz, List.take_length] at hacc
    exact hd D acc H' nD sm nSD eD hacc.less
/-- what a list of pairs holds under one first item -/
theorem filter_fst {g : Int → Int} {k : Int} : ∀ {qs : List (Int × Int)}, (qs.map (·.1)).Nodup → (∀ q ∈ qs, g q.1 = q.2) → k ∈ qs.map (·.1) → qs.filter (fun q => decide (V.int q.1 = V.int k)) = [(k, g k)]
  | [], _, _, h => absurd h (by simp)
  | q :: qs, hn, hg, h => by
    have hn := List.nodup_cons.mp hn
    by_cases e : q.1 = k
    · subst e
      rw [List.filter_cons_of_pos (by simp), List.filter_eq_nil_iff.mpr]
      · rw [hg q List.mem_cons_self]
      · intro r hr z
        have z := V.int.inj (of_decide_eq_true z)
        refine hn.1 ?_
        show q.1 ∈ _
        rw [← z]
        exact List.mem_map_of_mem hr
    · rw [List.filter_cons_of_neg (by simpa using e)]
      refine filter_fst hn.2 (fun r hr => hg r (List.mem_cons_of_mem _ hr)) ?_
      rcases List.mem_cons.mp h with z | z
      · exact absurd z.symm e
      · exact z
theorem srtA_self {ps : List (Int × Int)} (h : (ps.map (·.1)).Pairwise (· < ·)) : SrtA ps ps := ⟨.refl _, (List.pairwise_map.mp h).imp fun {a b} hab => SrtO.lexB_no.mpr (by omega)⟩
/-! two numberings of one net -/
abbrev mapA (f : Int → Int) (As : List (Int × Int)) : List (Int × Int) := As.map fun a => (f a.1, f a.2)
abbrev mapL (f : Int → Int) (Ls : List (Int × Str)) : List (Int × Str) := Ls.map fun l => (f l.1, l.2)
abbrev papD (P : List Int) (f : Int → Int) : List (Int × Int) := P.map fun p => (p, f p)
abbrev swapD (ps : List (Int × Int)) : List (Int × Int) := ps.map fun p => (p.2, p.1)
theorem Good.img {As As' : List (Int × Int)} {Ls Ls' : List (Int × Str)} {P P' : List Int} {f : Int → Int} (g : Good As Ls P) (g' : Good As' Ls' P') (h1 : As'.Perm (mapA f As)) (h2 : Ls'.Perm (mapL f Ls)) (k : Int) : k ∈ P' ↔ ∃ p ∈ P, f p = k := by
  rw [g'.asc.2, List.mem_append, (h2.map _).mem_iff, List.mem_flatMap]
  constructor
  · rintro (⟨b, hb, hk⟩ | h)
    · obtain ⟨a, ha, rfl⟩ := List.mem_map.mp (h1.mem_iff.mp hb)
      simp only [List.mem_cons, List.not_mem_nil, or_false] at hk
      rcases hk with rfl | rfl
      · exact ⟨_, (g.ends a ha).1, rfl⟩
      · exact ⟨_, (g.ends a ha).2, rfl⟩
    · obtain ⟨b, hb, rfl⟩ := List.mem_map.mp h
      obtain ⟨l, hl, rfl⟩ := List.mem_map.mp hb
      exact ⟨_, g.lab l hl, rfl⟩
  · rintro ⟨p, hp, rfl⟩
    rcases List.mem_append.mp ((g.asc.2 p).mp hp) with h | h
    · obtain ⟨a, ha, hk⟩ := List.mem_flatMap.mp h
      refine .inl ⟨(f a.1, f a.2), h1.mem_iff.mpr (List.mem_map_of_mem ha), ?_⟩
      simp only [List.mem_cons, List.not_mem_nil, or_false] at hk
      rcases hk with rfl | rfl <;> simp
    · obtain ⟨l, hl, rfl⟩ := List.mem_map.mp h
      exact .inr (List.mem_map.mpr ⟨(f l.1, l.2), List.mem_map_of_mem hl, rfl⟩)
structure Bij (P P' : List Int) (f g : Int → Int) : Prop where
  a : P.Pairwise (· < ·)
  b : P'.Pairwise (· < ·)
  to : ∀ p ∈ P, f p ∈ P'
  fro : ∀ y ∈ P', g y ∈ P
  gf : ∀ p ∈ P, g (f p) = p
  fg : ∀ y ∈ P', f (g y) = y
section
variable {P P' R : List Int} {f g h i : Int → Int}
theorem Bij.symm (b : Bij P P' f g) : Bij P' P g f := ⟨b.b, b.a, b.fro, b.to, b.fg, b.gf⟩
theorem Bij.comp (b : Bij P P' f g) (c : Bij P' R h i) : Bij P R (fun p => h (f p)) fun y => g (i y) :=
  ⟨b.a, c.b, fun p hp => c.to _ (b.to p hp), fun y hy => b.fro _ (c.fro y hy), fun p hp => by rw [c.gf _ (b.to p hp), b.gf p hp], fun y hy => by rw [b.fg _ (c.fro y hy), c.fg y hy]⟩
theorem Bij.inj (b : Bij P P' f g) : ∀ p ∈ P, ∀ q ∈ P, f p = f q → p = q := fun p hp q hq e => by rw [← b.gf p hp, e, b.gf q hq]
theorem Bij.perm (b : Bij P P' f g) : (P.map f).Perm P' := by
  have nd : (P.map f).Nodup := List.pairwise_map.mpr (List.Pairwise.imp_of_mem (fun ha hb h e => h (b.inj _ ha _ hb e)) (b.a.imp Int.ne_of_lt))
  refine (List.perm_ext_iff_of_nodup nd (b.b.imp Int.ne_of_lt)).mpr fun y => ?_
  rw [List.mem_map]
  exact ⟨fun ⟨p, hp, e⟩ => e ▸ b.to p hp, fun hy => ⟨g y, b.fro y hy, b.fg y hy⟩⟩
theorem papD_fst : (papD P f).map (·.1) = P := by
  rw [List.map_map]
  exact List.map_id P
theorem Bij.inv (b : Bij P P' f g) : SrtA (swapD (papD P f)) (papD P' g) := by
  refine ⟨?_, (srtA_self (by rw [papD_fst]; exact b.b)).2⟩
  have e : swapD (papD P f) = papD (P.map f) g := by
    rw [swapD, papD, papD, List.map_map, List.map_map]
    exact List.map_congr_left fun p hp => by
      show (f p, p) = (f p, g (f p))
      rw [b.gf p hp]
  rw [e]
  exact (b.perm.map _).symm
theorem Bij.backA (b : Bij P P' f g) {As As' : List (Int × Int)} (he : ∀ a ∈ As, a.1 ∈ P ∧ a.2 ∈ P) (h1 : As'.Perm (mapA f As)) : As.Perm (mapA g As') := by
  have e : mapA g (mapA f As) = As := by
    rw [mapA, mapA, List.map_map]
    conv => rhs; rw [← List.map_id As]
    exact List.map_congr_left fun a ha => by
      show (g (f a.1), g (f a.2)) = a
      rw [b.gf _ (he a ha).1, b.gf _ (he a ha).2]
  have h2 : (mapA g As').Perm (mapA g (mapA f As)) := h1.map fun a : Int × Int => (g a.1, g a.2)
  rw [e] at h2
  exact h2.symm
theorem Bij.backL (b : Bij P P' f g) {Ls Ls' : List (Int × Str)} (he : ∀ a ∈ Ls, a.1 ∈ P) (h1 : Ls'.Perm (mapL f Ls)) : Ls.Perm (mapL g Ls') := by
  have e : mapL g (mapL f Ls) = Ls := by
    rw [mapL, mapL, List.map_map]
    conv => rhs; rw [← List.map_id Ls]
    exact List.map_congr_left fun a ha => by
      show (g (f a.1), a.2) = a
      rw [b.gf _ (he a ha)]
  have h2 : (mapL g Ls').Perm (mapL g (mapL f Ls)) := h1.map fun a : Int × Str => (g a.1, a.2)
  rw [e] at h2
  exact h2.symm
theorem SrtA.ren {As As' Bs Bs' : List (Int × Int)} (e : As'.Perm (mapA f As)) (b : SrtA As Bs) (b' : SrtA As' Bs') : SrtA (mapA f Bs) Bs' := ⟨b'.1.trans (e.trans (b.1.symm.map _)), b'.2⟩
theorem SrtL.ren {As As' Bs Bs' : List (Int × Str)} (e : As'.Perm (mapL f As)) (b : SrtL As Bs) (b' : SrtL As' Bs') : SrtL (mapL f Bs) Bs' := ⟨b'.1.trans (e.trans (b.1.symm.map _)), b'.2⟩
theorem bij_of (ha : P.Pairwise (· < ·)) (hb : P'.Pairwise (· < ·)) (hm : ∀ y, y ∈ P' ↔ ∃ p ∈ P, f p = y) (hi : ∀ p ∈ P, ∀ q ∈ P, f p = f q → p = q) : ∃ g, Bij P P' f g := by
  have ex : ∀ y, ∃ x, y ∈ P' → x ∈ P ∧ f x = y := fun y => by
    by_cases hy : y ∈ P'
    · obtain ⟨p, hp, e⟩ := (hm y).mp hy
      exact ⟨p, fun _ => ⟨hp, e⟩⟩
    · exact ⟨0, fun z => absurd z hy⟩
  obtain ⟨g, hg⟩ := Classical.axiomOfChoice ex
  refine ⟨g, ha, hb, fun p hp => (hm _).mpr ⟨p, hp, rfl⟩, fun y hy => (hg y hy).1, fun p hp => ?_, fun y hy => (hg y hy).2⟩
  have h := hg (f p) ((hm _).mpr ⟨p, hp, rfl⟩)
  exact hi _ h.1 _ hp h.2
end
theorem papD_mem {P : List Int} {f : Int → Int} {p : Int × Int} (hp : p ∈ papD P f) : p.1 ∈ P ∧ p.2 = f p.1 := by
  obtain ⟨q, hq, rfl⟩ := List.mem_map.mp hp
  exact ⟨hq, rfl⟩
theorem comp_permA {f h : Int → Int} {As0 As1 As2 : List (Int × Int)} (p2 : As2.Perm (mapA h As1)) (p1 : As1.Perm (mapA f As0)) : As2.Perm (mapA (fun p => h (f p)) As0) := by
  have t := p2.trans (p1.map _)
  rw [mapA, List.map_map] at t
  exact t
theorem comp_permL {f h : Int → Int} {As0 As1 As2 : List (Int × Str)} (p2 : As2.Perm (mapL h As1)) (p1 : As1.Perm (mapL f As0)) : As2.Perm (mapL (fun p => h (f p)) As0) := by
  have t := p2.trans (p1.map _)
  rw [mapL, List.map_map] at t
  exact t
theorem chainS {P : List Int} {f g : Int → Int} (ha : P.Pairwise (· < ·)) : SrtA ((papD P f).map fun p => (p.1, g p.2)) (papD P fun p => g (f p)) := by
  rw [papD, List.map_map]
  exact srtA_self (by rw [List.map_map]; exact (List.map_id P).symm ▸ ha)
theorem papD_congr {P : List Int} {f g : Int → Int} (h : ∀ p ∈ P, f p = g p) : papD P f = papD P g := List.map_congr_left fun p hp => by rw [h p hp]
theorem da_copy {S : Av} {H : Hp} {C : Addr} {xs : List V} {ds : List PyData} (hS : Al S H) (n : H C = none) (h : DaAll S H xs ds) : Da S (upd H C (.lst xs)) (.ref C) (.list ds) := .lst (hS.free n) upd_same (h.new n)
/-- the locals, written anew -/
theorem st_h {t : TS} {D : Ends} {σ σ' : L2.St} {H : Hp} (e : σ = σ') (h : t D σ' H) : t D σ H := e ▸ h
end Lg

/-! Methods with arguments, by position and by keyword; instances made by keyword; properties. -/
namespace Lg
open PySem PySem.Spec PyProof.Rows L2
structure OwnMK (P : Program) (w : World) (K : PySem.W.Frag) (mg : Str → Option Value) (base : Heap) (k : Nat) (C : Addr) (m : Str) (ps ks : List Str) (is : List Nat) (sp : Sp) : Prop where
  ex : ∃ f fd, FnOk P w K mg base CX0 k f fd ps sp ∧ Meth K C m f ∧ KBn K fd ps 1 ks (fun us ws => us ++ permL is ws) (fun us zs => us ++ permL is zs)
theorem OwnMK.up {P : Program} {w : World} {K : PySem.W.Frag} {mg : Str → Option Value} {base : Heap} {C : Addr} {m : Str} {ps ks : List Str} {is : List Nat} {sp : Sp} {j k : Nat} (O : OwnMK P w K mg base k C m ps ks is sp) (h : k ≤ j) : OwnMK P w K mg base j C m ps ks is sp := by
  obtain ⟨f, fd, F, r⟩ := O.ex
  exact ⟨f, fd, F.mono h, r⟩
structure OwnCK (P : Program) (w : World) (K : PySem.W.Frag) (mg : Str → Option Value) (base : Heap) (k : Nat) (x : Str) (C : Addr) (ps ks : List Str) (is : List Nat) (sp : Sp) : Prop where
  ex : ∃ i f fd, i + 1 ≤ k ∧ FnOk P w K mg base CX0 i f fd ps sp ∧ Mk K C f ∧ mg x = some (.ref C) ∧ KBn K fd ps 1 ks (fun us ws => us ++ permL is ws) (fun us zs => us ++ permL is zs)
theorem OwnCK.up {P : Program} {w : World} {K : PySem.W.Frag} {mg : Str → Option Value} {base : Heap} {x : Str} {C : Addr} {ps ks : List Str} {is : List Nat} {sp : Sp} {j k : Nat} (O : OwnCK P w K mg base k x C ps ks is sp) (h : k ≤ j) : OwnCK P w K mg base j x C ps ks is sp := by
  obtain ⟨i, f, fd, l, r⟩ := O.ex
  exact ⟨i, f, fd, Nat.le_trans l h, r⟩
section
variable {X : Cx} {k : Nat} {C : Addr} {m x : Str} {ps ks : List Str} {is : List Nat} {sp : Sp} {o e : Expr} {es : List Expr} {kws : List Keyword} {ta : TE} {t : TA} {p apos pos : Pos}
/-- o.m(e, ..) -/
theorem pe_ownM {pl : Sem Bool} (O : OwnM X.prog X.w X.K X.mg X.base k C m ps sp) (hr : Room k X.A) (c : Cls X.K C) (he : PE X o ta) (ha : PA X (e :: es) t)
    (hst : starEach (e :: es) X.env = (false, eval e X.env) :: starEach es X.env := by rfl) (hpl : (backTo pos (starEach es X.env)).any (·.1) = false := by rfl)
    (ht : eval (.Call (.Attribute o m apos) (e :: es) [] pos) X.env = (do
      let ov ← eval o X.env
      standAt apos.atName
      let (f, first) ← holding [ov] (getMethod ov m pl)
      callWith pos f first (backTo pos (starEach (e :: es) X.env)) (backToKw pos (keywordEach [] X.env))) := by rfl) :
    PE X (.Call (.Attribute o m apos) (e :: es) [] pos) (tMeth C m sp [] E0 ta t) := by
  obtain ⟨f, fd, F, hm, hb⟩ := O.ex
  exact pe_meth he c hm F hr hb .nil pass0 ha hst hpl ht
/-- o.m(k = e, ..): what it wants -/
def tMethK (C : Addr) (m : Str) (is : List Nat) (n : Nat) (sp : Sp) (ta : TE) (t : TA) : TE := fun σ H Q => ta σ H fun x H1 => ∃ a dx fs, x = .ref a ∧ H1 a = some (.ins C dx fs) ∧ fs.lookup m = none ∧ t σ H1 fun zs H2 => zs.length = n ∧ sp (x :: permL is zs) H2 Q E0
theorem pe_ownMKP {pl : Sem Bool} (O : OwnMK X.prog X.w X.K X.mg X.base k C m ps ks is sp) (hr : Room k X.A) (c : Cls X.K C) (he : PE X o ta) (hkw : PK X kws t)
    (hks : (backToKw pos (keywordEach kws X.env)).filterMap (·.1) = ks := by rfl) (hall : (backToKw pos (keywordEach kws X.env)).all (·.1.isSome) = true := by rfl)
    (hpl : ((backTo pos (starEach [] X.env)).any (·.1) || (backToKw pos (keywordEach kws X.env)).any (·.1.isNone)) = false := by rfl)
    (ht : eval (.Call (.Attribute o m apos) [] kws pos) X.env = (do
      let ov ← eval o X.env
      standAt apos.atName
      let (f, first) ← holding [ov] (getMethod ov m pl)
      callWith pos f first (backTo pos (starEach [] X.env)) (backToKw pos (keywordEach kws X.env))) := by rfl) :
    PE X (.Call (.Attribute o m apos) [] kws pos) (tMethK C m is ks.length sp ta t) := by
  obtain ⟨f, fd, F, hm, hb⟩ := O.ex
  refine ⟨fun pins s σ H Q I h => ?_⟩
  refine PySem.W.methodCall_KW (pl := pl) (thn (he.run pins s σ H _ I h) fun u s1 ⟨x, H1, I1, rx, a, dx, fs, ex, ea, l, q⟩ => ?_) ht
  subst ex
  obtain rfl : u = Value.ref a := rx
  refine getmeth_ok I1 ea c hm l ?_
  refine PySem.W.callWith_KW0 (first := [.ref a]) (h₀ := X.base) I.ok.mod.kin hm.kp hall ?_ hpl
  refine thn (hkw.run pos pins s1 σ H1 _ I1 q) fun ws s2 ⟨zs, H2, I2, rz, l2, q2⟩ => ⟨I2.kIn, ?_⟩
  rw [hks]
  exact run_fnN (us := [.ref a]) (vs := [.ref a]) F hr hb pass0 I2 (.cons rfl .nil) rz rfl l2 q2
/-- C(k = e, ..): what it wants -/
def tMakeK (C : Addr) (is : List Nat) (n : Nat) (sp : Sp) (t : TA) : TE := fun σ H Q => t σ H fun zs H1 => zs.length = n ∧ ∀ x dx, H1 x = none → H1 dx = none → dx ≠ x →
  sp (.ref x :: permL is zs) (upd (upd H1 dx (.own x)) x (.ins C dx [])) (fun v H2 => v = .non ∧ Q (.ref x) H2) E0
theorem pe_ownCKP (O : OwnCK X.prog X.w X.K X.mg X.base k x C ps ks is sp) (hr : Room k X.A) (hg : Gl X x) (hkw : PK X kws t) (hdb : (x == ("__debug__" : Str)) = false := by decide)
    (hks : (backToKw pos (keywordEach kws X.env)).filterMap (·.1) = ks := by rfl) (hall : (backToKw pos (keywordEach kws X.env)).all (·.1.isSome) = true := by rfl)
    (hpl : ((backTo pos (starEach [] X.env)).any (·.1) || (backToKw pos (keywordEach kws X.env)).any (·.1.isNone)) = false := by rfl) :
    PE X (.Call (.Name x p) [] kws pos) (tMakeK C is ks.length sp t) := by
  obtain ⟨i, f, fd, l, F, M, hm, hb⟩ := O.ex
  refine ⟨fun pins s σ H Q I h => ?_⟩
  refine wpAny_Call_Name_kw (ld_glob I hg hm ?_ hdb)
  refine PySem.W.callWith_KW0 (h₀ := X.base) I.ok.mod.kin M.kp hall ?_ hpl
  refine thn (hkw.run pos pins s σ H _ I h) fun ws s2 ⟨zs, H2, I2, rz, l2, q2⟩ => ⟨I2.kIn, ?_⟩
  rw [hks]
  exact run_makeN (us := []) (vs := []) M F (hr.mono l) hb pass0 I2 .nil rz rfl l2 q2
end
theorem kbnM_of {K : PySem.W.Frag} {x qual : Str} {st : Stmt} {f : Addr} {fd : FuncData} {ps ks : List Str} {is : List Nat} (F : Fun K x qual st f fd)
    (h : ∀ (kV doc pm : Value) (an : Option Addr) (cdv ct u : Value) (ws : List Value), ws.length = ks.length → bindArgs (PySem.W.fnOf x qual (defArgs st) (defBody st) (defScope st) .none kV doc pm an cdv ct) ⟨[u], ks.zip ws⟩ = pure (ps.zip (u :: permL is ws))) :
    KBn K fd ps 1 ks (fun us ws => us ++ permL is ws) (fun us zs => us ++ permL is zs) := by
  obtain ⟨oc, od, kV, doc, pm, an, cdv, ct, osl, rfl, lk, hcd⟩ := F.ex
  refine ⟨fun s us ws _ h1 h2 => ?_, fun r1 r => r1.append (vals_permL r is)⟩
  obtain ⟨u, rfl⟩ := List.length_eq_one_iff.mp h1
  exact .of_eq (h kV doc pm an cdv ct u ws h2)
/-- [p for p in (what gives the dict) if ..] -/
theorem lc_dictT {td : TE} {ip : Nat} {D : Addr} {P : List Int} {adr : Int → Addr} {tt : TT} {vs : List Nat} {σ : L2.St} {H : Hp} {Q : VK} (hD : H D = some (dKs P adr)) (p : Int → Bool) (hn : P.length < sizeLine)
    (htd : ∀ (od : Obj) (R : V → Hp → Prop), R (.ref D) (upd H D (.frz od (dKs P adr))) → td σ (upd H D (.frz od (dKs P adr))) R)
    (hw : ∀ v, wipe ((wipe σ vs).set ip (some v)) vs = wipe σ vs) (hv : ∀ v, ((wipe σ vs).set ip (some v))[ip]? = some (some v))
    (hs : ∀ x ∈ P, ∀ (od : Obj) (H1 : Hp) (k : Bool → Hp → Prop), Same (upd H D (.frz od (dKs P adr))) H1 → (∀ H4, Same H1 H4 → k (p x) H4) → tt ((wipe σ vs).set ip (some (.int x))) H1 k)
    (hd : ∀ R H', H R = none → Same H H' → H' R = some (.lst ((P.filter p).map V.int)) → Q (.ref R) H') : tLockE (tLc (iKeys td) (gName ip) tt (tVar ip) vs) σ H Q := by
  refine ⟨D, _, hD, trivial, fun od => htd od _ ⟨D, od, rfl, .inl ⟨_, upd_same, ?_⟩⟩⟩
  show tLc (fun _ H R => R (Itk D od (P.map fun p => ((.inl p : Key), V.ref (adr p)))) H) (gName ip) tt (tVar ip) vs σ (upd H D (.frz od (dKs P adr))) (fun v H' => H' D = some (.frz od (dKs P adr)) ∧ Q v (upd H' D (dKs P adr)))
  refine lc_fltL (walk_keys (d := D) (o := od) (kvs := P.map fun p => ((.inl p : Key), V.ref (adr p)))) P (by rw [List.length_map]) p V.int (by rw [List.length_map]; exact hn) (fun H' sm => sm _ _ upd_same) ?_ ?_
  · rintro i z x H1 H2 N A hz sm ⟨rfl, k, v, hk, rfl⟩ hN hA
    rw [List.getElem?_map, hz] at hk
    cases hk
    refine ⟨hw _, hs z (List.mem_of_getElem? hz) od _ _ sm fun H4 s4 => ?_⟩
    cases h : p z with
    | false => exact ite2 (fun e => absurd e (by decide)) fun _ => hN _ s4 h
    | true => exact ite2 (fun _ => ⟨_, hv _, hA _ s4 h⟩) fun e => absurd rfl e
  · intro R H' nR sm e
    have nRD : R ≠ D := fun z => by rw [z, upd_same] at nR; cases nR
    refine ⟨sm _ _ upd_same, hd R _ (by rw [upd_ne nRD] at nR; exact nR) (fun b o eb => ?_) (by rw [upd_ne nRD]; exact e)⟩
    by_cases hb : b = D
    · subst hb
      rw [hD] at eb
      rw [upd_same]
      exact eb
    · rw [upd_ne hb]
      exact sm _ _ (by rw [upd_ne hb]; exact eb)
theorem valV_at {α : Type} {k : α → Key} {v : α → V} : ∀ {l : List α}, (l.map k).Nodup → ∀ {x : α}, x ∈ l → valV (l.map fun y => (k y, v y)) (k x) = some (v x)
  | [], _, _, h => absurd h (by simp)
  | a :: l, nd, x, h => by
    have nd := List.nodup_cons.mp nd
    unfold valV
    rw [List.map_cons, List.find?_cons]
    by_cases e : k a = k x
    · rw [decide_eq_true e]
      rcases List.mem_cons.mp h with rfl | hx
      · rfl
      · exact absurd (e ▸ List.mem_map_of_mem hx) nd.1
    · rw [decide_eq_false e]
      rcases List.mem_cons.mp h with rfl | hx
      · exact absurd rfl e
      · exact valV_at nd.2 hx
theorem valV_not {α : Type} {k : α → Key} {v : α → V} {l : List α} {q : Key} (h : q ∉ l.map k) : valV (l.map fun y => (k y, v y)) q = none := by
  unfold valV
  rw [List.find?_eq_none.mpr]
  · rfl
  · intro r hr e
    obtain ⟨y, hy, rfl⟩ := List.mem_map.mp hr
    exact h (of_decide_eq_true e ▸ List.mem_map_of_mem hy)
end Lg

/-! Own == and != beside anything, isinstance of an own class for anything, properties. -/
namespace Lg
open PySem PySem.Spec PyProof.Rows L2
theorem call_isX {X : Cx} {C : Addr} : CallR X (.builtin "isinstance") (fun xs H Q => ∃ (x : V) (t : Value) (b : Bool), xs = [x, .ref C] ∧ TyX X.K H x t ∧ PySem.W.kitOne X.K t (.ref C) = some b ∧ Q (.bl b) H) :=
  CallR.imp call_isi fun _ _ _ ⟨x, t, b, e, ty, k, q⟩ => ⟨x, .ref C, t, .ref C, b, e, .own C, ty, k, q⟩
/-- what == and != and isinstance ask of a class of one's own -/
structure InsX (K : PySem.W.Frag) (C : Addr) : Prop where
  ins : C8.InsC K C
  kit : ∀ n ∈ sixT, PySem.W.kitOne K (.type n) (.ref C) = some false
  sub : ∀ n ∈ sixT, PySem.W.notFirst K C (.type n) = true
  ne : PySem.W.findIn K (.ref C) "__ne__" = some (some (.builtin "object.__ne__"))
theorem insXB_ok {K : PySem.W.Frag} {C : Addr} (c : Cls K C) (h : insXB K C = true) : InsX K C := by
  unfold insXB at h
  simp only [Bool.and_eq_true, List.all_eq_true, decide_eq_true_eq] at h
  obtain ⟨h1, h2, h3, h4⟩ := h
  exact ⟨insB_ok c h1, h2, h3, He.eqO_ok h4⟩
theorem InsX.ty {K : PySem.W.Frag} {C a dx : Addr} {H : Hp} {fs : List (Str × V)} (c : InsX K C) (e : H a = some (.ins C dx fs)) : TyX K H (.ref a) (.ref C) := .base (.ins e c.ins.cl c.ins.ha c.ins.hn c.ins.htk c.ins.hm)
theorem InsX.self {K : PySem.W.Frag} {C : Addr} : PySem.W.notFirst K C (.ref C) = true := by
  unfold PySem.W.notFirst
  rw [beq_self_eq_true]
  rfl
theorem six_of {S : Av} {H : Hp} {x : V} {d : PyData} (h : Da S H x d) : tyN d ∈ sixT := by
  cases h <;> simp [tyN, sixT]
/-- x == y, y anything -/
def rEqA (K : PySem.W.Frag) (C : Addr) (sp : Sp) : R2 := fun x y H Q => ∃ (a dx : Addr) (fs : List (Str × V)) (t : Value), x = .ref a ∧ H a = some (.ins C dx fs) ∧ TyX K H y t ∧ PySem.W.notFirst K C t = true ∧ sp [x, y] H Q E0
theorem op_eqA {X : Cx} {k : Nat} {C : Addr} {ps : List Str} {sp : Sp} (O : OwnM X.prog X.w X.K X.mg X.base k C "__eq__" ps sp) (hr : Room k X.A) : OpR X (compareOp .Eq) (rEqA X.K C sp) := by
  intro pins s σ H x y v u Q I rx ry h
  obtain ⟨a, dx, fs, t, rfl, ha, ty, nf, q⟩ := h
  cases (show v = Value.ref a from rx)
  obtain ⟨f, fd, F, hm, bi⟩ := O.ex
  obtain ⟨mA, J, _⟩ := ins_get I.hok ha
  obtain ⟨od, J, _⟩ := J.look
  obtain ⟨m, hF⟩ := I.fr
  obtain ⟨PZ, Z, pz, _⟩ := kit_of I ry ty
  refine PySem.W.cmp_K (op := .Eq) (tb := t) hr.units0 hF I.ok.mod.kin J (Z.ty _ _ I.kIn pz) nf hm.at_ hm.fn ?_
  refine wpAny_mono (wpAny_call (run_fnR (us := [.ref a, u]) (vs := [.ref a, y]) (E := E0) (F.raw bi .nil) hr pass0 I (.cons rfl (.cons ry .nil)) q)) (fun w s' z => ?_) fun _ _ x => x
  obtain ⟨z', H', I', rz, qz⟩ := z
  exact SlX.cmpback rz ⟨z', H', I', rz, qz⟩
section
open PySem.W
variable {prog : Program} {w : World} {A : Around} {E : Value → Shared → Prop} {s : Shared} {K : Frag} {x C L f : Addr} {h₀ : Heap} {m : Str → Option Value} {ox : Obj} {od : Option Obj} {b tb : Value}
theorem ifBound_ne {M : Model} {args : List Value} {Q : Option Value → Shared → Prop} (X : K.In s.heap) (I : InstAt s.heap x ox C od) (hs : findIn K (.ref C) "__ne__" = some (some (.builtin "object.__ne__")))
    (h : wpAny M A (call (.builtin "object.__ne__") (.ref x :: args)) (fun v => Q (some v)) E s) : wpAny M A (callSpecialIfBound? (.ref x) "__ne__" args) Q E s := by
  simp only [callSpecialIfBound?, bindSpecialIfBound?]
  refine wpAny_holding (wpAny_bind (wpAny_bind (wpAny_bind (I.type.here ((looks_findIn X hs).here ?_)))))
  refine wpAny_bind (wpAny_askSetting (wpAny_ite ?_))
  have fin : wpAny M A (call (.builtin "object.__ne__") ([.ref x] ++ args) >>= fun v => pure (some v)) Q E s := wpAny_bind (wpAny_mono h (fun v s' h' => wpAny_pure h') fun _ _ h' => h')
  split
  · exact wpAny_bind (wpAny_of_eq (F.cmp_object.ne.bind _) (wpAny_pure (by exact fin)))
  · exact wpAny_tryCatch (wpAny_bind (wpAny_of_eq (F.cmp_object.ne.bind _) (wpAny_pure (by exact fin))))
theorem objNe_entry {Q : Fin → Shared → Prop} (hu : A.units < cLine) (X : K.In s.heap) (I : InstAt s.heap x ox C od) (he : findIn K (.ref C) "__eq__" = some (some (.ref f))) (hf : isFn K (.ref f) = true)
    (h : wpAny (model prog w) A (call (.ref f) [.ref x, b]) (fun v s' => ∃ c, v = .bool c ∧ Q (.done (.ret (.bool (!c)))) s') E s) : wpAny (model prog w) A (Builtin.«object.__ne__» ⟨[.ref x, b], []⟩) Q E s := by
  unfold Builtin.«object.__ne__»
  repeat (first
    | with_reducible refine wpAny_cRoomFor hu ?_
    | (refine wpAny_bind (m := callSpecialIfBound? (.ref x) (Str.ofString "__eq__") [b])
        (ifBound_K X I he hf (wpAny_mono h (fun r s' hr => by
          obtain ⟨c, rfl, hq⟩ := hr
          repeat (first | exact hq | exact wpAny_pure hq | exact wpAny_truthy_bool hq | (refine wpAny_bind (m := truthy (.bool _)) (wpAny_truthy_bool ?_)) | wp_step)) fun _ _ e => e)))
    | wp_step)
theorem cmp_ne_K {Q : Value → Shared → Prop} (hu : A.units + 1 < cLine) (Fz : Fr h₀ L s.heap m) (X₀ : K.In h₀) (I : InstAt s.heap x ox C od) (hb : Looks (model prog w) s.heap (typeOf b) tb) (hn : notFirst K C tb = true)
    (hs : findIn K (.ref C) "__ne__" = some (some (.builtin "object.__ne__"))) (hm : mroIn K C (.type "object") = some true) (he : findIn K (.ref C) "__eq__" = some (some (.ref f))) (hf : isFn K (.ref f) = true)
    (h : wpAny (model prog w) A.in1 (call (.ref f) [.ref x, b]) (fun v s' => ∃ c, v = .bool c ∧ Q (.bool (!c)) s') E s) : wpAny (model prog w) A (richCompare .NotEq (.ref x) b) Q E s := by
  have X := X₀.keeps Fz.keep
  have one : wpAny (model prog w) A (tryCompare (.ref x) "__ne__" b) (fun r s' => ∃ v, r = some v ∧ Q v s') E s := by
    unfold tryCompare
    refine wpAny_bind (ifBound_ne X I hs (wpAny_call (codeAny_call_builtin F.cmp_object.ne.plain F.cmpEntry_ne (check_slot F.cmpKind_ne F.cmpSplit_ne (I.type.andThen (looks_mroIn X hm)) (F.cmpArgs_ne _ _)
      (objNe_entry (A := A.in1) hu X I he hf (wpAny_mono h (fun v s' hv => ?_) fun _ _ e => e))))))
    obtain ⟨c, rfl, hq⟩ := hv
    first | exact ⟨c, rfl, wpAny_pure ⟨_, rfl, hq⟩⟩ | exact ⟨c, rfl, wpAny_pure (wpAny_pure ⟨_, rfl, hq⟩)⟩ | exact ⟨c, rfl, ⟨_, rfl, hq⟩⟩
  unfold richCompare
  simp only [oneThing_ref]
  refine wpAny_holding (wpAny_bind (wpAny_cRoomFor (by omega) ?_))
  refine wpAny_bind (I.type.here (wpAny_bind (hb.here ?_)))
  split
  · rename_i q
    have e : subIn K tb (.ref C) = some false := by
      rcases Bool.or_eq_true_iff.mp hn with e | e
      · rw [beq_iff_eq.mp e] at q; simp at q
      · exact beq_iff_eq.mp e
    refine wpAny_bind ((looks_subIn X e).here ?_)
    simp only [Bool.false_eq_true, if_false]
    refine wpAny_bind (wpAny_mono one (fun r s' z => ?_) fun _ _ e => e)
    obtain ⟨v, rfl, hq⟩ := z
    exact wpAny_pure hq
  · refine wpAny_bind (wpAny_pure ?_)
    simp only [Bool.false_eq_true, if_false]
    refine wpAny_bind (wpAny_mono one (fun r s' z => ?_) fun _ _ e => e)
    obtain ⟨v, rfl, hq⟩ := z
    exact wpAny_pure hq
end
/-- x != y, y anything; the class has no __ne__ of its own -/
def rNeA (K : PySem.W.Frag) (C : Addr) (sp : Sp) : R2 := fun x y H Q => ∃ (a dx : Addr) (fs : List (Str × V)) (t : Value), x = .ref a ∧ H a = some (.ins C dx fs) ∧ TyX K H y t ∧ PySem.W.notFirst K C t = true ∧ sp [x, y] H (fun v H' => ∃ c, v = .bl c ∧ Q (.bl (!c)) H') E0
theorem op_neA {X : Cx} {k : Nat} {C : Addr} {ps : List Str} {sp : Sp} (c : InsX X.K C) (O : OwnM X.prog X.w X.K X.mg X.base k C "__eq__" ps sp) (hr : Room (k + 1) X.A) : OpR X (compareOp .NotEq) (rNeA X.K C sp) := by
  intro pins s σ H x y v u Q I rx ry h
  obtain ⟨a, dx, fs, t, rfl, ha, ty, nf, q⟩ := h
  cases (show v = Value.ref a from rx)
  obtain ⟨f, fd, F, hm, bi⟩ := O.ex
  obtain ⟨mA, J, _⟩ := ins_get I.hok ha
  obtain ⟨od, J, _⟩ := J.look
  obtain ⟨m, hF⟩ := I.fr
  obtain ⟨PZ, Z, pz, _⟩ := kit_of I ry ty
  refine cmp_ne_K (tb := t) (by have := hr.un; omega) hF I.ok.mod.kin J (Z.ty _ _ I.kIn pz) nf c.ne c.ins.hm hm.at_ hm.fn ?_
  have R := F.raw bi .nil
  refine wpAny_call (codeAny_mono (R X.A.in1 X.stack s H [.ref a, u] [.ref a, y] _ E0 hr.in1 I.env0.in1 (.cons rfl (.cons ry .nil)) q) fun r s' hq => ?_)
  cases r with
  | error e => exact pass0 pins σ H s e s' I hq
  | ok fl =>
    cases fl with
    | ret u2 =>
      obtain ⟨v2, H', I3, rv, c2, rfl, q3⟩ := I.after hq
      cases (show u2 = Value.bool c2 from rv)
      exact ⟨c2, rfl, .bl (!c2), H', I3, rfl, q3⟩
    | next => exact False.elim hq
    | brk => exact False.elim hq
    | cont => exact False.elim hq
theorem op_neD {X : Cx} {k : Nat} {C : Addr} {ps : List Str} {sp : Sp} (c : InsX X.K C) (O : ∃ j, j + 1 ≤ k ∧ OwnM X.prog X.w X.K X.mg X.base j C "__eq__" ps sp) (hr : Room k X.A) : OpR X (compareOp .NotEq) (rNeA X.K C sp) :=
  let ⟨_, h, O⟩ := O
  op_neA c O (hr.mono h)
structure OwnP (P : Program) (w : World) (K : PySem.W.Frag) (mg : Str → Option Value) (base : Heap) (k : Nat) (C : Addr) (m : Str) (ps : List Str) (sp : Sp) : Prop where
  ex : ∃ i p f fd, i + 1 ≤ k ∧ FnOk P w K mg base CX0 i f fd ps sp ∧ PropOf K C m p f ∧ Binds K fd ps []
theorem OwnP.up {P : Program} {w : World} {K : PySem.W.Frag} {mg : Str → Option Value} {base : Heap} {C : Addr} {m : Str} {ps : List Str} {sp : Sp} {j k : Nat} (O : OwnP P w K mg base k C m ps sp) (h : k ≤ j) : OwnP P w K mg base j C m ps sp := by
  obtain ⟨i, p, f, fd, l, r⟩ := O.ex
  exact ⟨i, p, f, fd, Nat.le_trans l h, r⟩
/-- o.p, a property -/
theorem pe_ownP {X : Cx} {k : Nat} {C : Addr} {m : Str} {ps : List Str} {sp : Sp} {o : Expr} {ta : TE} {pos : Pos} (O : OwnP X.prog X.w X.K X.mg X.base k C m ps sp) (hr : Room k X.A) (c : Cls X.K C) (he : PE X o ta)
    (hab : attributeBase o m X.env (eval o X.env) = eval o X.env := by rfl) : PE X (.Attribute o m pos) (tProp C sp [] E0 ta) := by
  obtain ⟨i, p, f, fd, l, F, hp, hb⟩ := O.ex
  exact pe_prop he c hp F (hr.mono l) hb .nil pass0 hab
theorem prop_h {C : Addr} {sp : Sp} {a dx : Addr} {fs : List (Str × V)} {ta : TE} {σ : L2.St} {H : Hp} {Q : VK} (h : ta σ H fun x H1 => ∃ a dx fs, x = .ref a ∧ H1 a = some (.ins C dx fs) ∧ sp [.ref a] H1 Q E0) : tProp C sp [] E0 ta σ H Q := h
end Lg

/-! What k03 wants: names in one order, lists apart, kinds of places. -/
namespace Lg
open PySem PySem.Spec PyProof.Rows L2
theorem sortedS_pw : ∀ {l : List Str}, sortedS l = true → l.Pairwise fun a b => ¬ b.cps.toList < a.cps.toList
  | [], _ => .nil
  | x :: l, h => by
    induction l generalizing x with
    | nil => exact List.pairwise_singleton _ _
    | cons y l ih =>
      have h1 : (!ltCps y.cps.toList x.cps.toList && risingS y l) = true := h
      obtain ⟨h2, h3⟩ := Bool.and_eq_true_iff.mp h1
      have h4 : ¬ y.cps.toList < x.cps.toList := by
        rw [ltCps_eq] at h2
        simpa using h2
      have h5 := ih y h3
      refine List.pairwise_cons.mpr ⟨fun b hb => ?_, h5⟩
      rcases List.mem_cons.mp hb with rfl | hb
      · exact h4
      · exact List.not_lt.mpr (List.le_trans (List.not_lt.mp h4) (List.not_lt.mp ((List.pairwise_cons.mp h5).1 b hb)))
theorem sortedS_uniq {l m : List Str} (p : l.Perm m) (h1 : sortedS l = true) (h2 : sortedS m = true) : l = m :=
  perm_pair_eq p (sortedS_pw h1) (sortedS_pw h2) fun a _ b _ x y => by
    have e : a.cps.toList = b.cps.toList := List.le_antisymm (List.not_lt.mp x) (List.not_lt.mp y)
    obtain ⟨a⟩ := a
    obtain ⟨b⟩ := b
    exact congrArg _ (Array.toList_inj.mp e)
theorem Keep.but {s A : Addr} {H H1 H2 : Hp} (k : Keep s H H1) (hn : H A = none) (b : But A H1 H2) : Keep s H H2 := by
  refine ⟨fun c o hc e => b c o (fun z => ?_) (k.fn c o hc e), fun S so => ?_⟩
  · rw [z, hn] at e
    cases e
  · obtain ⟨hs, c, ns, p, r, sd, t, e1, hcs, e2, hp, hr, hSc⟩ := so
    have so0 : SO (fun b => b = s ∨ b = c) s H := ⟨.inl rfl, c, ns, p, r, sd, t, e1, hcs, e2, hp, hr, .inr rfl⟩
    obtain ⟨_, c', ns', p', r', sd', t', e1', hcs', e2', hp', hr', hSc'⟩ := k.so _ so0
    obtain rfl : c' = c := hSc'.resolve_left hcs'
    exact ⟨hs, c', ns', p', r', sd', t', b _ _ (fun z => by rw [z, hn] at e1; cases e1) e1', hcs', b _ _ (fun z => by rw [z, hn] at e2; cases e2) e2', hp', hr', hSc⟩
theorem pd_off {S : Av} {H : Hp} {A : Addr} {ws : List V} (e : H A = some (.lst ws)) : ∀ {xs : List V} {As : List (Int × Int)}, DaAll S H xs (As.map pd) → DaAll (addA S A) H xs (As.map pd)
  | [], [], _ => .nil
  | [], _ :: _, h => by cases h
  | _ :: _, [], h => by cases h
  | x :: xs, a :: As, .cons h r => by
    obtain ⟨t, rfl, nt, et⟩ := h.pd
    exact .cons (da_ofpd (fun z => z.elim nt fun z => by rw [z, e] at et; cases et) et) (pd_off e r)
theorem ld_off {S : Av} {H : Hp} {A : Addr} {ws : List V} (e : H A = some (.lst ws)) : ∀ {xs : List V} {As : List (Int × Str)}, DaAll S H xs (As.map ld) → DaAll (addA S A) H xs (As.map ld)
  | [], [], _ => .nil
  | [], _ :: _, h => by cases h
  | _ :: _, [], h => by cases h
  | x :: xs, a :: As, .cons h r => by
    obtain ⟨t, rfl, nt, et⟩ := h.ld
    exact .cons (da_ofld (fun z => z.elim nt fun z => by rw [z, e] at et; cases et) et) (ld_off e r)
theorem dd2 {n : Nat} {a b : PyData} (ha : Dd 1000 n a) (hb : Dd 1000 n b) : Dd 1000 (n + 1) (.list [a, b]) := .lst (by show 2 ≤ 1000; decide) fun d hd => by
  simp only [List.mem_cons, List.not_mem_nil, or_false] at hd
  rcases hd with rfl | rfl
  · exact ha
  · exact hb
theorem dd_ints {L : List Int} (h : L.length ≤ 1000) : Dd 1000 1 (.list (L.map PyData.int)) := .lst (by rw [List.length_map]; exact h) fun d hd => by
  obtain ⟨i, _, rfl⟩ := List.mem_map.mp hd
  exact .int _ _
theorem dd_strs {L : List Str} (h : L.length ≤ 1000) (hz : ∀ z ∈ L, z.length ≤ 1000) : Dd 1000 1 (.list (L.map PyData.str)) := .lst (by rw [List.length_map]; exact h) fun d hd => by
  obtain ⟨i, hi, rfl⟩ := List.mem_map.mp hd
  exact .str _ (hz i hi)
theorem dd_ld {p : Int × Str} (hz : p.2.length ≤ 1000) : Dd 1000 1 (ld p) := .tup (by show 2 ≤ 1000; decide) fun d hd => by
  simp only [List.mem_cons, List.not_mem_nil, or_false] at hd
  rcases hd with rfl | rfl
  · exact .int _ _
  · exact .str _ hz
theorem dd_lds {L : List (Int × Str)} (h : L.length ≤ 1000) (hz : ∀ p ∈ L, p.2.length ≤ 1000) : Dd 1000 2 (.list (L.map ld)) := .lst (by rw [List.length_map]; exact h) fun d hd => by
  obtain ⟨i, hi, rfl⟩ := List.mem_map.mp hd
  exact dd_ld (hz i hi)
theorem da_two {S : Av} {H1 H5 : Hp} {t : Addr} {i j : Int} (hS : Al S H1) (s : Same H1 H5) (n : H5 t = none) : Da S (upd H5 t (.lst [.int i, .int j])) (.ref t) (.list [.int i, .int j]) ∧ ∀ D, H1 D ≠ none → Da (addA S D) (upd H5 t (.lst [.int i, .int j])) (.ref t) (.list [.int i, .int j]) :=
  ⟨.lst ((hS.same s).free n) upd_same (.cons (.int _) (.one (.int _))), fun D h => .lst (fun z => z.elim ((hS.same s).free n) fun z => h (by rw [← z]; exact s.free n)) upd_same (.cons (.int _) (.one (.int _)))⟩
section
variable {As Bs : List (Int × Int)} {Ls : List (Int × Str)} {P : List Int} (g : Good As Ls P)
include g
theorem Good.mixF (hB : SrtA As Bs) : (P.filter fun p => (upsOf Bs p).length == 2) = P.filter fun p => (downsOf Bs p).length == 1 :=
  List.filter_congr fun p hp => by
    rw [ups_len g hB, downs_len g hB]
    rcases g.deg p hp with ⟨_, h1, h2⟩ | ⟨_, ⟨h1, h2⟩ | ⟨h1, h2⟩⟩
    · rw [h1, beq_eq_false_iff_ne.mpr (by omega : upN As p ≠ 2)]; rfl
    · rw [h1, h2]; rfl
    · rw [h1, beq_eq_false_iff_ne.mpr (by omega : upN As p ≠ 2)]; rfl
theorem Good.kind (hB : SrtA As Bs) {p : Int} (hp : p ∈ P) : ∃ z, (["leaf", "mixing", "split"] : List Str)[(downsOf Bs p).length]? = some z := by
  rw [downs_len g hB]
  rcases g.deg p hp with ⟨_, h1, h2⟩ | ⟨_, ⟨h1, h2⟩ | ⟨h1, h2⟩⟩ <;> rw [h1] <;> exact ⟨_, rfl⟩
theorem Good.leafy (hB : SrtA As Bs) {p : Int} (hp : p ∈ P) : p ∈ Ls.map (·.1) ↔ downsOf Bs p = [] := by
  rw [← List.length_eq_zero_iff, downs_len g hB]
  rcases g.deg p hp with ⟨h, h1, h2⟩ | ⟨h, ⟨h1, h2⟩ | ⟨h1, h2⟩⟩
  · exact ⟨fun _ => h1, fun _ => h⟩
  · exact ⟨fun z => absurd z h, fun z => by omega⟩
  · exact ⟨fun z => absurd z h, fun z => by omega⟩
end
abbrev tI (p : Int × Int) : HO := .tup [.int p.1, .int p.2]
abbrev tS (p : Int × Str) : HO := .tup [.int p.1, .str p.2]
theorem lit4 {S : Av} {H : Hp} (al : Al S H) {T0 T1 T2 T3 A : Addr} (p0 p1 p2 p3 : Int × Int) (m0 : H T0 = none) (m1 : upd H T0 (tI p0) T1 = none) (m2 : upd (upd H T0 (tI p0)) T1 (tI p1) T2 = none) (m3 : upd (upd (upd H T0 (tI p0)) T1 (tI p1)) T2 (tI p2) T3 = none) (nA : upd (upd (upd (upd H T0 (tI p0)) T1 (tI p1)) T2 (tI p2)) T3 (tI p3) A = none) :
    ∃ H', upd (upd (upd (upd (upd H T0 (tI p0)) T1 (tI p1)) T2 (tI p2)) T3 (tI p3)) A (.lst [.ref T0, .ref T1, .ref T2, .ref T3]) = H' ∧ Same H H' ∧ H' A = some (.lst [.ref T0, .ref T1, .ref T2, .ref T3]) ∧ DaAll S H' [.ref T0, .ref T1, .ref T2, .ref T3] ([p0, p1, p2, p3].map pd) := by
  have s0 : Same H (upd H T0 (tI p0)) := same_snoc (Same.refl H) m0
  have s1 : Same H (upd (upd H T0 (tI p0)) T1 (tI p1)) := same_snoc s0 m1
  have s2 : Same H (upd (upd (upd H T0 (tI p0)) T1 (tI p1)) T2 (tI p2)) := same_snoc s1 m2
  have s3 : Same H (upd (upd (upd (upd H T0 (tI p0)) T1 (tI p1)) T2 (tI p2)) T3 (tI p3)) := same_snoc s2 m3
  have d0 : Da S (upd H T0 (tI p0)) (.ref T0) (pd p0) := da_ofpd (al.free m0) upd_same
  have d1 : Da S (upd (upd H T0 (tI p0)) T1 (tI p1)) (.ref T1) (pd p1) := da_ofpd ((al.same s0).free m1) upd_same
  have d2 : Da S (upd (upd (upd H T0 (tI p0)) T1 (tI p1)) T2 (tI p2)) (.ref T2) (pd p2) := da_ofpd ((al.same s1).free m2) upd_same
  have d3 : Da S (upd (upd (upd (upd H T0 (tI p0)) T1 (tI p1)) T2 (tI p2)) T3 (tI p3)) (.ref T3) (pd p3) := da_ofpd ((al.same s2).free m3) upd_same
  exact ⟨_, rfl, same_snoc s3 nA, upd_same, .cons ((((d0.new m1).new m2).new m3).new nA) (.cons (((d1.new m2).new m3).new nA) (.cons ((d2.new m3).new nA) (.one (d3.new nA))))⟩
theorem lit3 {S : Av} {H : Hp} (al : Al S H) {T0 T1 T2 A : Addr} (p0 p1 p2 : Int × Str) (m0 : H T0 = none) (m1 : upd H T0 (tS p0) T1 = none) (m2 : upd (upd H T0 (tS p0)) T1 (tS p1) T2 = none) (nA : upd (upd (upd H T0 (tS p0)) T1 (tS p1)) T2 (tS p2) A = none) :
    ∃ H', upd (upd (upd (upd H T0 (tS p0)) T1 (tS p1)) T2 (tS p2)) A (.lst [.ref T0, .ref T1, .ref T2]) = H' ∧ Same H H' ∧ H' A = some (.lst [.ref T0, .ref T1, .ref T2]) ∧ DaAll S H' [.ref T0, .ref T1, .ref T2] ([p0, p1, p2].map ld) := by
  have s0 : Same H (upd H T0 (tS p0)) := same_snoc (Same.refl H) m0
  have s1 : Same H (upd (upd H T0 (tS p0)) T1 (tS p1)) := same_snoc s0 m1
  have s2 : Same H (upd (upd (upd H T0 (tS p0)) T1 (tS p1)) T2 (tS p2)) := same_snoc s1 m2
  have d0 : Da S (upd H T0 (tS p0)) (.ref T0) (ld p0) := da_ofld (al.free m0) upd_same
  have d1 : Da S (upd (upd H T0 (tS p0)) T1 (tS p1)) (.ref T1) (ld p1) := da_ofld ((al.same s0).free m1) upd_same
  have d2 : Da S (upd (upd (upd H T0 (tS p0)) T1 (tS p1)) T2 (tS p2)) (.ref T2) (ld p2) := da_ofld ((al.same s1).free m2) upd_same
  exact ⟨_, rfl, same_snoc s2 nA, upd_same, .cons (((d0.new m1).new m2).new nA) (.cons ((d1.new m2).new nA) (.one (d2.new nA)))⟩
theorem good_cross {a b : Int} (h : (a = 4 ∧ b = 3) ∨ (a = 3 ∧ b = 4)) {z0 z1 z2 : Str} (nd : [z0, z1, z2].Nodup) (hz : ∀ z ∈ [z0, z1, z2], nameL z.cps.toList = true ∧ z.length ≤ 8) : Good [(0, 1), (0, a), (1, 2), (1, b)] [(2, z0), (3, z1), (4, z2)] [0, 1, 2, 3, 4] := by
  refine ⟨⟨by decide, fun k => ?_⟩, by decide, by decide, by show 4 ≤ 46; decide, ?_, by show 1 ≤ 3 ∧ 3 ≤ 12; decide, by show [(2 : Int), 3, 4].Nodup; decide, nd, fun l hl => ?_, ⟨fun p => p.toNat, ?_⟩, ?_, ⟨0, by decide, ?_⟩, ?_⟩
  · show k ∈ [0, 1, 2, 3, 4] ↔ k ∈ [(0 : Int), 1, 0, a, 1, 2, 1, b] ++ [(2 : Int), 3, 4]
    rcases h with ⟨rfl, rfl⟩ | ⟨rfl, rfl⟩ <;> simp only [List.mem_append, List.mem_cons, List.not_mem_nil, or_false] <;> omega
  · rcases h with ⟨rfl, rfl⟩ | ⟨rfl, rfl⟩ <;> decide
  · simp only [List.mem_cons, List.not_mem_nil, or_false] at hl
    rcases hl with rfl | rfl | rfl <;> exact hz _ (by simp)
  · rcases h with ⟨rfl, rfl⟩ | ⟨rfl, rfl⟩ <;> decide
  · show ∀ p ∈ [(0 : Int), 1, 2, 3, 4], (p ∈ [(2 : Int), 3, 4] ∧ _) ∨ (p ∉ [(2 : Int), 3, 4] ∧ _)
    rcases h with ⟨rfl, rfl⟩ | ⟨rfl, rfl⟩ <;> decide
  · rcases h with ⟨rfl, rfl⟩ | ⟨rfl, rfl⟩ <;> decide
  · rcases h with ⟨rfl, rfl⟩ | ⟨rfl, rfl⟩ <;> decide
/-- a net of the program beside the law's own lists, both in order -/
structure NetG (S : Av) (K : PySem.W.Frag) (H : Hp) (v : V) (o : Addr) (As : List (Int × Int)) (Ls : List (Int × Str)) (P : List Int) : Prop where
  good : Good As Ls P
  oA : SrtA As As
  oL : SrtL Ls Ls
  da : Da S H v (netD As Ls)
  net : ∃ (Ls' : List (Int × Str)) (root : Int), Ls'.Perm Ls ∧ (P.filter fun p => (upsOf As p).isEmpty) = [root] ∧ NetAt S K H o As Ls' Ls P root
theorem NetG.go {S S' : Av} {K : PySem.W.Frag} {H H' : Hp} {v : V} {o : Addr} {As : List (Int × Int)} {Ls : List (Int × Str)} {P : List Int} (h : NetG S K H v o As Ls P) (k : ∀ b u, ¬ S b → H b = some u → ¬ S' b ∧ H' b = some u) : NetG S' K H' v o As Ls P := by
  obtain ⟨Ls', root, h1, h2, h3⟩ := h.net
  exact ⟨h.good, h.oA, h.oL, h.da.go k, Ls', root, h1, h2, h3.go k⟩
theorem NetG.keep {S : Av} {s : Addr} {K : PySem.W.Frag} {H H' : Hp} {v : V} {o : Addr} {As : List (Int × Int)} {Ls : List (Int × Str)} {P : List Int} (h : NetG S K H v o As Ls P) (k : Keep s H H') (hs : S s) : NetG S K H' v o As Ls P := h.go (kgo k hs)
theorem NetG.same {S : Av} {K : PySem.W.Frag} {H H' : Hp} {v : V} {o : Addr} {As : List (Int × Int)} {Ls : List (Int × Str)} {P : List Int} (h : NetG S K H v o As Ls P) (k : Same H H') : NetG S K H' v o As Ls P := h.go fun b u n e => ⟨n, k b u e⟩
theorem NetG.names {S : Av} {K : PySem.W.Frag} {H : Hp} {v : V} {o : Addr} {As : List (Int × Int)} {Ls : List (Int × Str)} {P : List Int} (h : NetG S K H v o As Ls P) : ∀ p ∈ Ls, nameL p.2.cps.toList = true := fun p hp => (h.good.nm p hp).1
theorem shaped_net {As : List (Int × Int)} {Ls : List (Int × Str)} (h : ∀ p ∈ Ls, nameL p.2.cps.toList = true) : SeqAt.shaped (netD As Ls) = true := by
  obtain ⟨a1, a2⟩ := Bool.and_eq_true_iff.mp (shaped_pds As)
  obtain ⟨b1, b2⟩ := Bool.and_eq_true_iff.mp (shaped_lds h)
  refine Bool.and_eq_true_iff.mpr ⟨?_, decide_eq_true ?_⟩
  · show (PyData.canLay0 (.list (As.map pd)) && (PyData.canLay0 (.list (Ls.map ld)) && true)) = true
    rw [a1, b1]
    rfl
  · have e1 : PyData.depthAll (As.map pd) ≤ 1 := depth_map pd 1 fun p _ => Nat.le_of_eq rfl
    have e2 : PyData.depthAll (Ls.map ld) ≤ 1 := depth_map ld 1 fun p _ => Nat.le_of_eq (ld_depth p)
    show (PyData.depthAll [.list (As.map pd), .list (Ls.map ld)] + 1) ≤ _
    have e3 : PyData.depthAll [.list (As.map pd), .list (Ls.map ld)] ≤ 2 := by
      show max (PyData.depthAll (As.map pd) + 1) (max (PyData.depthAll (Ls.map ld) + 1) 0) ≤ 2
      omega
    exact Nat.le_trans (Nat.succ_le_succ e3) (by decide)
theorem eqv_net (As Bs : List (Int × Int)) (Ls Ms : List (Int × Str)) : PyData.eqv (netD As Ls) (netD Bs Ms) = (decide (As = Bs) && decide (Ls = Ms)) := by
  show (PyData.eqv (.list (As.map pd)) (.list (Bs.map pd)) && (PyData.eqv (.list (Ls.map ld)) (.list (Ms.map ld)) && true)) = _
  rw [eqv_pds, eqv_lds, Bool.and_true]
/-- the names of the first leaf and of the last one exchanged -/
def swapL (Ls : List (Int × Str)) (l0 ll : Int × Str) : List (Int × Str) := (Ls.set 0 (l0.1, ll.2)).set (Ls.length - 1) (ll.1, l0.2)
section
variable {As : List (Int × Int)} {Ls : List (Int × Str)} {P : List Int} {l0 ll : Int × Str}
theorem swapL_fst (h0 : Ls[0]? = some l0) (hl : Ls[Ls.length - 1]? = some ll) : (swapL Ls l0 ll).map (·.1) = Ls.map (·.1) := by
  have z : ∀ {l : List (Int × Str)} {i : Nat} {p : Int × Str} {z : Str}, l[i]? = some p → (l.set i (p.1, z)).map (·.1) = l.map (·.1) := by
    intro l i p z h
    obtain ⟨hi, e⟩ := List.getElem?_eq_some_iff.mp h
    rw [List.map_set]
    refine List.ext_getElem (by rw [List.length_set]) fun j h1 h2 => ?_
    rw [List.getElem_set]
    split
    · rename_i e2
      subst e2
      rw [List.getElem_map, e]
    · rfl
  unfold swapL
  by_cases e : Ls.length - 1 = 0
  · rw [e] at hl ⊢
    rw [h0] at hl
    cases hl
    rw [List.set_set]
    exact z h0
  · refine (z (p := ll) ?_).trans (z h0)
    rw [List.getElem?_set_ne (by omega)]
    exact hl
theorem swapL_snd (h0 : Ls[0]? = some l0) (hl : Ls[Ls.length - 1]? = some ll) : ((swapL Ls l0 ll).map (·.2)).Perm (Ls.map (·.2)) := by
  obtain ⟨i0, e0⟩ := List.getElem?_eq_some_iff.mp h0
  obtain ⟨il, el⟩ := List.getElem?_eq_some_iff.mp hl
  unfold swapL
  rw [List.map_set, List.map_set]
  have a : l0.2 = (Ls.map (·.2))[0]'(by rw [List.length_map]; exact i0) := by rw [List.getElem_map, e0]
  have b : ll.2 = (Ls.map (·.2))[Ls.length - 1]'(by rw [List.length_map]; exact il) := by rw [List.getElem_map, el]
  show (((Ls.map (·.2)).set 0 ll.2).set (Ls.length - 1) l0.2).Perm _
  rw [a, b]
  exact List.set_set_perm _ _
theorem swapL_eq (g : Good As Ls P) (h0 : Ls[0]? = some l0) (hl : Ls[Ls.length - 1]? = some ll) : Ls = swapL Ls l0 ll ↔ Ls.length = 1 := by
  obtain ⟨i0, e0⟩ := List.getElem?_eq_some_iff.mp h0
  obtain ⟨il, el⟩ := List.getElem?_eq_some_iff.mp hl
  constructor
  · intro e
    have h : Ls[Ls.length - 1]? = some (ll.1, l0.2) := by
      conv => lhs; rw [e]
      rw [show (swapL Ls l0 ll).length = Ls.length by unfold swapL; rw [List.length_set, List.length_set]]
      unfold swapL
      rw [List.getElem?_set_self (by rw [List.length_set]; exact il)]
    rw [hl] at h
    have h := congrArg (·.2) (Option.some.inj h)
    have n0 : (Ls.map (·.2))[0]'(by rw [List.length_map]; exact i0) = (Ls.map (·.2))[Ls.length - 1]'(by rw [List.length_map]; exact il) := by
      rw [List.getElem_map, List.getElem_map, e0, el]
      exact h.symm
    have := (List.getElem_inj g.ln).mp n0
    omega
  · intro e
    have e2 : Ls.length - 1 = 0 := by omega
    rw [e2, h0] at hl
    cases hl
    unfold swapL
    rw [e2, List.set_set]
    refine (List.ext_getElem (by rw [List.length_set]) fun j h1 h2 => ?_)
    rw [List.getElem_set]
    split
    · rename_i e3
      subst e3
      exact e0
    · rfl
theorem Good.names {Ms : List (Int × Str)} (g : Good As Ls P) (h1 : Ms.map (·.1) = Ls.map (·.1)) (h2 : (Ms.map (·.2)).Perm (Ls.map (·.2))) : Good As Ms P :=
  ⟨h1 ▸ g.asc, g.p64, g.rng, g.a46, g.nd, by
    have := congrArg List.length h1
    rw [List.length_map, List.length_map] at this
    rw [this]
    exact g.l12, h1 ▸ g.lp, h2.nodup_iff.mpr g.ln, fun l hl => by
    obtain ⟨m, hm, e⟩ := List.mem_map.mp (h2.mem_iff.mp (List.mem_map_of_mem hl))
    rw [← e]
    exact g.nm m hm, g.rank, h1 ▸ g.deg, g.root, g.mix⟩
theorem srtL_fst {Ms : List (Int × Str)} (o : SrtL Ls Ls) (nd : (Ls.map (·.1)).Nodup) (h1 : Ms.map (·.1) = Ls.map (·.1)) : SrtL Ms Ms := by
  refine ⟨.refl _, ?_⟩
  have p1 : (Ls.map (·.1)).Pairwise (· < ·) := by
    refine List.pairwise_map.mpr ?_
    have nd := List.pairwise_map.mp nd
    refine (nd.and o.2).imp fun {a b} ⟨x, y⟩ => ?_
    have := lexPS_no.mp y
    omega
  rw [← h1] at p1
  exact (List.pairwise_map.mp p1).imp fun {a b} x => lexPS_no.mpr (by omega)
end
theorem ixN_end {n : Nat} (h : 0 < n) : ixN n (-1) = some (n - 1) := by
  unfold ixN
  rw [if_neg (by decide), if_pos (by omega)]
  congr 1
  omega
theorem atI_end {α : Type} {xs : List α} {v : α} (h : xs[xs.length - 1]? = some v) : atI xs (-1) = some v := by
  have hj : xs.length - 1 < xs.length := (List.getElem?_eq_some_iff.mp h).1
  unfold atI
  rw [ixN_end (by omega)]
  exact h
section
variable {S : Av} {H : Hp} {LC T0 T1 : Addr} {ys : List V} {Ls : List (Int × Str)} {l0 ll : Int × Str}
/-- the copy of the leaves, its first item changed -/
theorem swap_mid (al : Al S H) (nLC : H LC = none) (hL : DaAll S H ys (Ls.map ld)) (h0 : Ls[0]? = some l0) (hl : Ls[Ls.length - 1]? = some ll) (n0 : upd H LC (.lst ys) T0 = none) :
    Same H (upd (upd (upd H LC (.lst ys)) T0 (tS (l0.1, ll.2))) LC (.lst (ys.set 0 (.ref T0)))) ∧ DaAll (addA S LC) (upd (upd (upd H LC (.lst ys)) T0 (tS (l0.1, ll.2))) LC (.lst (ys.set 0 (.ref T0)))) (ys.set 0 (.ref T0)) ((Ls.set 0 (l0.1, ll.2)).map ld) ∧
    ∃ (t : Addr) (z : Str), (ys.set 0 (.ref T0))[(ys.set 0 (.ref T0)).length - 1]? = some (.ref t) ∧ upd (upd (upd H LC (.lst ys)) T0 (tS (l0.1, ll.2))) LC (.lst (ys.set 0 (.ref T0))) t = some (.tup [.int ll.1, .str z]) := by
  have nT : T0 ≠ LC := fun z => by rw [z, upd_same] at n0; cases n0
  have sm : Same H (upd (upd (upd H LC (.lst ys)) T0 (tS (l0.1, ll.2))) LC (.lst (ys.set 0 (.ref T0)))) := fun b u e => by
    have h1 : b ≠ LC := fun z => by rw [z, nLC] at e; cases e
    have h2 : b ≠ T0 := fun z => by rw [← z, upd_ne h1, e] at n0; cases n0
    rw [upd_ne h1, upd_ne h2, upd_ne h1]
    exact e
  have d0 : Da (addA S LC) (upd (upd H LC (.lst ys)) T0 (tS (l0.1, ll.2))) (.ref T0) (ld (l0.1, ll.2)) := da_ofld (fun z => z.elim (al.upd.free n0) nT) upd_same
  have hd : DaAll (addA S LC) (upd (upd (upd H LC (.lst ys)) T0 (tS (l0.1, ll.2))) LC (.lst (ys.set 0 (.ref T0)))) (ys.set 0 (.ref T0)) ((Ls.set 0 (l0.1, ll.2)).map ld) := by
    rw [List.map_set]
    exact (DaAll.set d0 0 (((hL.more nLC).new (o := .lst ys) nLC).new n0)).at
  refine ⟨sm, hd, ?_⟩
  have lz : (ys.set 0 (.ref T0)).length = Ls.length := by rw [List.length_set, hL.length, List.length_map]
  obtain ⟨il, _⟩ := List.getElem?_eq_some_iff.mp hl
  have hv : (ys.set 0 (.ref T0))[(ys.set 0 (.ref T0)).length - 1]? = some ((ys.set 0 (V.ref T0))[(ys.set 0 (V.ref T0)).length - 1]'(by omega)) := List.getElem?_eq_getElem _
  obtain ⟨p, t, ep, ev, _, et⟩ := hd.ld hv
  rw [ev] at hv
  refine ⟨t, p.2, hv, ?_⟩
  rw [et]
  have : p.1 = ll.1 := by
    rw [lz] at ep
    by_cases e : Ls.length - 1 = 0
    · rw [e] at ep hl
      rw [List.getElem?_set_self (by omega)] at ep
      rw [h0] at hl
      cases hl
      cases ep
      rfl
    · rw [List.getElem?_set_ne (by omega), hl] at ep
      cases ep
      rfl
  rw [this]
theorem swap_put (al : Al S H) (nLC : H LC = none) (hL : DaAll S H ys (Ls.map ld)) (h0 : Ls[0]? = some l0) (hl : Ls[Ls.length - 1]? = some ll) (n0 : upd H LC (.lst ys) T0 = none)
    (n1 : upd (upd (upd H LC (.lst ys)) T0 (tS (l0.1, ll.2))) LC (.lst (ys.set 0 (.ref T0))) T1 = none) :
    ∃ H', upd (upd (upd (upd (upd H LC (.lst ys)) T0 (tS (l0.1, ll.2))) LC (.lst (ys.set 0 (.ref T0)))) T1 (tS (ll.1, l0.2))) LC (.lst ((ys.set 0 (.ref T0)).set ((ys.set 0 (V.ref T0)).length - 1) (.ref T1))) = H' ∧ Same H H' ∧
      H' LC = some (.lst ((ys.set 0 (.ref T0)).set ((ys.set 0 (V.ref T0)).length - 1) (.ref T1))) ∧ DaAll S H' ((ys.set 0 (.ref T0)).set ((ys.set 0 (V.ref T0)).length - 1) (.ref T1)) ((swapL Ls l0 ll).map ld) := by
  obtain ⟨sm, hd, _⟩ := swap_mid al nLC hL h0 hl n0
  have nT : T1 ≠ LC := fun z => by rw [z, upd_same] at n1; cases n1
  have lz : (ys.set 0 (V.ref T0)).length = Ls.length := by rw [List.length_set, hL.length, List.length_map]
  have d1 : Da (addA S LC) (upd (upd (upd (upd H LC (.lst ys)) T0 (tS (l0.1, ll.2))) LC (.lst (ys.set 0 (.ref T0)))) T1 (tS (ll.1, l0.2))) (.ref T1) (ld (ll.1, l0.2)) := da_ofld (fun z => z.elim (al.upd.upd.upd.free n1) nT) upd_same
  refine ⟨_, rfl, fun b u e => ?_, upd_same, ?_⟩
  · have h1 : b ≠ LC := fun z => by rw [z, nLC] at e; cases e
    have e3 := sm b u e
    have h2 : b ≠ T1 := fun z => by rw [← z, e3] at n1; cases n1
    rw [upd_ne h1, upd_ne h2]
    exact e3
  · have := (DaAll.set d1 (Ls.length - 1) (hd.new n1)).at (o := .lst ((ys.set 0 (.ref T0)).set ((ys.set 0 (V.ref T0)).length - 1) (.ref T1)))
    rw [lz] at this ⊢
    unfold swapL
    rw [List.map_set]
    exact this.less
end
end Lg

/-! Moments: list.count of ints; which moments fit. -/
namespace Lg
open PySem PySem.Spec PyProof.Rows L2
def rCountI (K : PySem.W.Frag) : V → List V → Hp → VK → Prop := fun x xs H Q => ∃ (a : Addr) (ns : List Int) (k : Int), x = V.ref a ∧ xs = [.int k] ∧ SqL K H a (ns.map V.int) ∧ Q (.int (ns.count k : Nat)) H
theorem mt_countI {X : Cx} : MtR X "list.count" (rCountI X.K) := by
  intro pins s σ H x xs v us Q I rx rxs h
  obtain ⟨a, ns, k, rfl, rfl, hs, q⟩ := h
  cases rx
  cases rxs with
  | cons ry rt =>
    cases rt
    obtain ⟨t, rfl⟩ := ry
    obtain ⟨its, rv, hl, _⟩ := I.list hs
    exact count_list_ints hl.isList rv.ints ⟨.int ((ns.count k : Nat) : Int), H, I.tok _, ⟨_, rfl⟩, q⟩
theorem cr_maxK {X : Cx} (K : PySem.W.Frag) (hK : X.K = K) (hc : X.calm = true) : CallR X (.builtin "max") (rMax K) := hK ▸ cr_max hc
mutual
theorem Da.off {S : Av} {H : Hp} {D : Addr} {o : Obj} {u : HO} (e : H D = some (.frz o u)) : ∀ {v : V} {d : PyData}, Da S H v d → Da (addA S D) H v d
  | _, _, .non => .non
  | _, _, .bl b => .bl b
  | _, _, .int i => .int i
  | _, _, .str x => .str x
  | _, _, .lst n e2 r => .lst (fun z => z.elim n fun z => by rw [z, e] at e2; cases e2) e2 (DaAll.off e r)
  | _, _, .tup n e2 r => .tup (fun z => z.elim n fun z => by rw [z, e] at e2; cases e2) e2 (DaAll.off e r)
theorem DaAll.off {S : Av} {H : Hp} {D : Addr} {o : Obj} {u : HO} (e : H D = some (.frz o u)) : ∀ {vs : List V} {ds : List PyData}, DaAll S H vs ds → DaAll (addA S D) H vs ds
  | _, _, .nil => .nil
  | _, _, .cons h r => .cons (Da.off e h) (DaAll.off e r)
end
def wholeD' : PyData → Bool
  | .int _ => true
  | _ => false
def timedD : PyData → Bool
  | .tuple [a, b] => wholeD' a && wholeD' b
  | _ => false
theorem timedD_no {ds : List PyData} (h : ∀ a b, ds ≠ [a, b]) : timedD (.tuple ds) = false := by
  match ds, h with
  | [], _ => rfl
  | [_], _ => rfl
  | [a, b], h => exact absurd rfl (h a b)
  | _ :: _ :: _ :: _, _ => rfl
def backB (Bs : List (Int × Int)) (f : Int → Int) (b : Int × Int) : Bool := decide (f b.2 < f b.1) || (decide (f b.1 = f b.2) && !((upsOf Bs b.2).length == 2))
def giftB (Bs : List (Int × Int)) (f : Int → Int) (p : Int) : Bool := (upsOf Bs p).length == 2 && !((((upsOf Bs p).map f).count (f p)) == 1)
def lateB (Bs : List (Int × Int)) (f : Int → Int) (p : Int) : Bool := !(downsOf Bs p).isEmpty && (downsOf Bs p).all fun c => decide (f c ≤ f p)
def mfinds (P : List Int) (Bs : List (Int × Int)) (f : Int → Int) : List (Str × List PyData) :=
  [("back", (Bs.filter (backB Bs f)).map pd), ("gift", (P.filter (giftB Bs f)).map PyData.int), ("late", (P.filter (lateB Bs f)).map PyData.int)]
/-- the first fault of the moments, as a value -/
def mfD (P : List Int) (Bs : List (Int × Int)) (f : Int → Int) : PyData := match firstF (mfinds P Bs f) with
  | none => .none
  | some (w, d) => .tuple [.str w, d]
structure Fits (P : List Int) (Bs : List (Int × Int)) (f : Int → Int) : Prop where
  back : ∀ b ∈ Bs, backB Bs f b = false
  gift : ∀ p ∈ P, giftB Bs f p = false
  late : ∀ p ∈ P, lateB Bs f p = false
theorem filter_none {α : Type} {l : List α} {p : α → Bool} (h : ∀ a ∈ l, p a = false) : l.filter p = [] := List.filter_eq_nil_iff.mpr fun a ha e => by rw [h a ha] at e; cases e
theorem Fits.mf {P : List Int} {Bs : List (Int × Int)} {f : Int → Int} (h : Fits P Bs f) : mfD P Bs f = .none := by
  unfold mfD mfinds
  rw [filter_none h.back, filter_none h.gift, filter_none h.late]
  rfl
theorem DGet.of_dIs {H : Hp} {D : Addr} {P : List Int} {f : Int → Int} (e : H D = some (dIs P f)) {p : Int} (hp : p ∈ P) : DGet H D (.int p) (some (.int (f p))) := .inl ⟨_, .inl p, .inl e, rfl, (valV_dIs hp).symm⟩
theorem filter_first {α : Type} {p : α → Bool} : ∀ {l : List α} {i : Nat} {a : α}, l[i]? = some a → p a = true → (∀ j, j < i → ∀ b, l[j]? = some b → p b = false) → ∃ r, l.filter p = a :: r
  | [], i, a, h, _, _ => by rw [List.getElem?_nil] at h; cases h
  | x :: l, 0, a, h, hp, _ => by
    cases h
    exact ⟨_, List.filter_cons_of_pos hp⟩
  | x :: l, i + 1, a, h, hp, hn => by
    have hx := hn 0 (Nat.succ_pos _) x rfl
    rw [List.filter_cons_of_neg (by rw [hx]; decide)]
    exact filter_first (l := l) (i := i) h hp fun j hj b hb => hn (j + 1) (Nat.succ_lt_succ hj) b hb
theorem all_upto {α : Type} {p : α → Bool} {l : List α} {n : Nat} (hn : l.length ≤ n) (h : ∀ j, j < n → ∀ b, l[j]? = some b → p b = false) : ∀ a ∈ l, p a = false := fun a ha => by
  obtain ⟨i, hi⟩ := List.mem_iff_getElem?.mp ha
  have := (List.getElem?_eq_some_iff.mp hi).1
  exact h i (by omega) a hi
section
variable {P : List Int} {Bs : List (Int × Int)} {f : Int → Int}
theorem mfD_back {i : Nat} {b : Int × Int} (h : Bs[i]? = some b) (hb : backB Bs f b = true) (hn : ∀ j, j < i → ∀ c, Bs[j]? = some c → backB Bs f c = false) : mfD P Bs f = .tuple [.str "back", pd b] := by
  obtain ⟨r, e⟩ := filter_first h hb hn
  unfold mfD mfinds
  rw [e]
  rfl
theorem mfD_gift (h1 : ∀ b ∈ Bs, backB Bs f b = false) {i : Nat} {p : Int} (h : P[i]? = some p) (hb : giftB Bs f p = true) (hn : ∀ j, j < i → ∀ c, P[j]? = some c → giftB Bs f c = false) : mfD P Bs f = .tuple [.str "gift", .int p] := by
  obtain ⟨r, e⟩ := filter_first h hb hn
  unfold mfD mfinds
  rw [e, filter_none h1]
  rfl
theorem mfD_late (h1 : ∀ b ∈ Bs, backB Bs f b = false) (h2 : ∀ p ∈ P, giftB Bs f p = false) {i : Nat} {p : Int} (h : P[i]? = some p) (hb : lateB Bs f p = true) (hn : ∀ j, j < i → ∀ c, P[j]? = some c → lateB Bs f c = false) : mfD P Bs f = .tuple [.str "late", .int p] := by
  obtain ⟨r, e⟩ := filter_first h hb hn
  unfold mfD mfinds
  rw [e, filter_none h1, filter_none h2]
  rfl
theorem count_map (L : List Int) (k : Int) : (L.map f).count k = (L.filter fun u => f u == k).length := by
  rw [List.count_eq_countP, List.countP_map, List.countP_eq_length_filter]
  rfl
theorem dec_len (n : Nat) (k : Nat) : decide (V.int (n : Int) = V.int (k : Int)) = (n == k) := by
  rw [Bool.eq_iff_iff, decide_eq_true_iff, beq_iff_eq]
  exact ⟨fun h => (by have := V.int.inj h; omega), fun h => by rw [h]⟩
end
theorem mfD_dd {P : List Int} {Bs : List (Int × Int)} {f : Int → Int} : Dd 1000 2 (mfD P Bs f) := by
  have key : ∀ (w : Str) (d : PyData), w.length ≤ 1000 → Dd 1000 1 d → Dd 1000 2 (.tuple [.str w, d]) := fun w d hw hd => .tup (by show 2 ≤ 1000; decide) fun e he => by
    simp only [List.mem_cons, List.not_mem_nil, or_false] at he
    rcases he with rfl | rfl
    · exact .str _ hw
    · exact hd
  unfold mfD mfinds
  cases h1 : Bs.filter (backB Bs f) with
  | cons b r => exact key "back" (pd b) (by decide) dd_pd
  | nil =>
    cases h2 : P.filter (giftB Bs f) with
    | cons b r => exact key "gift" (.int b) (by decide) (.int _ _)
    | nil =>
      cases h3 : P.filter (lateB Bs f) with
      | cons b r => exact key "late" (.int b) (by decide) (.int _ _)
      | nil => exact .non _
end Lg

/-! The names and the times that are drawn for the laws of moments. -/
namespace Lg
open PySem PySem.Spec PyProof.Rows L2
def alphaS : Str := "abcdefghijklmnopqrstuvwxyz"
def cnS (st : Str) (sh k : Int) : Str := st ++ (⟨#[alphaS.cps.toList.getD ((5 * k + sh) % 26).toNat 0]⟩ : Str) ++ cutS ("0z9a1" : Str) none (some ((3 * k + sh) % 6))
def cnOk (st : Str) (sh : Int) : Bool := decide (((List.range 12).map fun k : Nat => (cnS st sh k).cps.toList).Nodup) && (List.range 12).all fun k : Nat => nameL (cnS st sh k).cps.toList && decide ((cnS st sh k).length ≤ 8) && decide (0 < (cnS st sh k).length)
theorem cn_all : ((["", "a", "q7", "zz"] : List Str).all fun st => (List.range 26).all fun sh : Nat => cnOk st sh) = true := by decide +kernel
theorem cn_ok {st : Str} {sh : Int} (h : st ∈ (["", "a", "q7", "zz"] : List Str)) (h0 : 0 ≤ sh) (h1 : sh < 26) {n : Nat} (hn : n ≤ 12) :
    ((List.range n).map fun k : Nat => cnS st sh k).Nodup ∧ ∀ z ∈ (List.range n).map fun k : Nat => cnS st sh k, nameL z.cps.toList = true ∧ z.length ≤ 8 := by
  have a := List.all_eq_true.mp (List.all_eq_true.mp cn_all st h) sh.toNat (List.mem_range.mpr (by omega))
  have e : ((sh.toNat : Nat) : Int) = sh := by omega
  rw [e] at a
  unfold cnOk at a
  rw [Bool.and_eq_true, decide_eq_true_iff, List.all_eq_true] at a
  obtain ⟨a1, a2⟩ := a
  refine ⟨?_, fun z hz => ?_⟩
  · have : (List.range n).Sublist (List.range 12) := by
      rw [show List.range n = (List.range 12).take n by rw [List.take_range, Nat.min_eq_left hn]]
      exact List.take_sublist _ _
    have a3 : ((List.range n).map fun k : Nat => (cnS st sh k).cps.toList).Nodup := a1.sublist (this.map _)
    have a4 : (((List.range n).map fun k : Nat => cnS st sh k).map fun z : Str => z.cps.toList).Nodup := by
      rw [List.map_map]
      exact a3
    exact (List.pairwise_map.mp a4).imp fun h e => h (by rw [e])
  · obtain ⟨k, hk, rfl⟩ := List.mem_map.mp hz
    have hk' := List.mem_range.mp hk
    have b := a2 k (List.mem_range.mpr (by omega))
    rw [Bool.and_eq_true, Bool.and_eq_true, decide_eq_true_iff] at b
    exact ⟨b.1.1, b.1.2⟩
theorem letter_at {i : Int} (h0 : 0 ≤ i) (h1 : i < 26) : atI alphaS.cps.toList i = some (alphaS.cps.toList.getD i.toNat 0) := by
  have l : alphaS.cps.toList.length = 26 := by decide +kernel
  have e : ((i.toNat : Nat) : Int) = i := by omega
  rw [← e, Int.toNat_natCast]
  refine atI_nat ?_
  rw [List.getD_eq_getElem?_getD, List.getElem?_eq_getElem (by omega)]
  rfl
theorem gn_h {i : Nat} {x : V} {u : L2.St → Hp → Prop} {σ σ' : L2.St} {H : Hp} (e : σ.set i (some x) = σ') (h : u σ' H) : gName i x σ H u := by
  subst e
  exact h
def intF : PyData → Int
  | .int i => i
  | _ => 0
theorem perm_int {es : List PyData} {L : List Int} (h : es.Perm (L.map PyData.int)) : ∃ L' : List Int, L'.Perm L ∧ es = L'.map PyData.int := by
  refine ⟨es.map intF, ?_, ?_⟩
  · have := h.map intF
    rw [List.map_map, show (intF ∘ PyData.int) = id from rfl, List.map_id] at this
    exact this
  · rw [List.map_map]
    refine (List.map_id es).symm.trans (List.map_congr_left fun e he => ?_)
    obtain ⟨a, _, rfl⟩ := List.mem_map.mp (h.mem_iff.mp he)
    rfl
/-- a statement that walks over a dict and fills another one -/
theorem for_fill {td tdd ty tv : TE} {ip : Nat} {M D : Addr} {P : List Int} {kvs : List (Key × V)} {u : TS} {E : Ends} {σ : L2.St} {H : Hp} {w0 : Option V} (kf vf : Int → Int)
    (eM : H M = some (.dK kvs)) (hk : kvs.map (·.1) = P.map (Sum.inl : Int → Key)) (eD : H D = some (.dK [])) (hMD : M ≠ D) (hn : P.length ≤ 1000) (hip : σ[ip]? = some w0)
    (hnd : P.Nodup) (hinj : ∀ p ∈ P, ∀ q ∈ P, kf p = kf q → p = q)
    (htd : ∀ (od : Obj) (R : V → Hp → Prop), R (.ref M) (upd H M (.frz od (.dK kvs))) → td σ (upd H M (.frz od (.dK kvs))) R)
    (hs : ∀ p ∈ P, ∀ (H1 : Hp) (od : Obj), (∀ b o, b ≠ M → b ≠ D → H b = some o → H1 b = some o) → H1 M = some (.frz od (.dK kvs)) → ∀ A : V → V → V → Hp → Prop, A (.int (vf p)) (.ref D) (.int (kf p)) H1 →
       tv (σ.set ip (some (.int p))) H1 fun v H2 => tdd (σ.set ip (some (.int p))) H2 fun x H3 => ty (σ.set ip (some (.int p))) H3 fun y H4 => A v x y H4)
    (hd : ∀ (w : Option V) (H' : Hp), (∀ b o, b ≠ D → H b = some o → H' b = some o) → H' D = some (.dK (P.map fun p => ((.inl (kf p) : Key), V.int (vf p)))) → u E (σ.set ip w) H') :
    tSeq (tLock (tFor (iKeys td) (gName ip) (sDPut tdd ty tv))) u E σ H := by
  have hl : kvs.length = P.length := by
    have := congrArg List.length hk
    rwa [List.length_map, List.length_map] at this
  have sz : 1000 < sizeLine := by decide
  refine ⟨M, _, eM, trivial, fun od => htd od _ ⟨M, od, rfl, .inl ⟨_, upd_same, ?_⟩⟩⟩
  refine for_it (walk_keys (d := M) (o := od) (kvs := kvs)) (fun i σ' H' => (∃ w, σ' = σ.set ip w) ∧ (∀ b o, b ≠ M → b ≠ D → H b = some o → H' b = some o) ∧ H' M = some (.frz od (.dK kvs)) ∧ H' D = some (.dK ((P.take i).map fun p => ((.inl (kf p) : Key), V.int (vf p)))))
    ⟨⟨w0, ?_⟩, fun b o h1 h2 e => by rw [upd_ne h1]; exact e, upd_same, by rw [upd_ne hMD.symm]; exact eD⟩ (fun i σ' H' _ h => h.2.2.1) ?_ ?_
  · obtain ⟨h1, h2⟩ := List.getElem?_eq_some_iff.mp hip
    rw [← h2, List.set_getElem_self]
  · rintro i x σ' H1 H2 hi ⟨⟨w, rfl⟩, fr, eM1, eD1⟩ ⟨rfl, k, v, hkv, rfl⟩
    obtain ⟨p, hp, rfl⟩ : ∃ p, P[i]? = some p ∧ (.inl p : Key) = k := by
      have := congrArg (fun l => l[i]?) hk
      simp only [List.getElem?_map, hkv, Option.map_some] at this
      obtain ⟨p, h1, h2⟩ := Option.map_eq_some_iff.mp this.symm
      exact ⟨p, h1, h2⟩
    have hpP := List.mem_of_getElem? hp
    refine gn_h (σ' := σ.set ip (some (.int p))) (List.set_set ..) ?_
    refine hs p hpP _ od fr eM1 (fun v x y H4 => ∃ a H5, x = .ref a ∧ DPut H4 a y v H5 ∧ _) ⟨D, _, rfl, .inl ⟨_, .inl (kf p), eD1, rfl, by rw [List.length_map, List.length_take]; omega, rfl⟩, ⟨_, rfl⟩, fun b o h1 h2 e => by rw [upd_ne h2]; exact fr b o h1 h2 e, by rw [upd_ne hMD]; exact eM1, ?_⟩
    rw [upd_same, putK_fresh, ← take_snoc hp, List.map_append]
    · rfl
    · rw [List.map_map]
      intro hm
      obtain ⟨z, hz, e⟩ := List.mem_map.mp hm
      have := hinj z (List.mem_of_mem_take hz) p hpP (Sum.inl.inj e)
      exact notin_take hnd hp (this ▸ hz)
  · rintro σ' H1 ⟨⟨w, rfl⟩, fr, eM1, eD1⟩
    rw [hl, List.take_length] at eD1
    refine ⟨eM1, hd w _ (fun b o h e => ?_) (by rw [upd_ne hMD.symm]; exact eD1)⟩
    by_cases c : b = M
    · subst c
      rw [upd_same, ← eM, e]
    · rw [upd_ne c]
      exact fr b o c h e
theorem Greedy.perm {up : Int → List Int} {left L : List Int} (h : Greedy up left L) : L.Perm left := by
  induction h with
  | nil => exact .nil
  | cons hp _ _ _ ih => exact (ih.cons _).trans (List.perm_cons_erase hp).symm
theorem Greedy.topo {up : Int → List Int} {left L : List Int} (h : Greedy up left L) : ∀ (i : Nat) (p : Int), L[i]? = some p → ∀ u ∈ up p, u ∈ left → u ∈ L.take i := by
  induction h with
  | nil => intro i p hi; cases hi
  | @cons q _ _ hp hu _ _ ih =>
    intro i p hi u h1 h2
    cases i with
    | zero =>
      cases hi
      exact absurd h2 (hu u h1)
    | succ i =>
      rw [List.take_succ_cons]
      by_cases c : u = q
      · rw [c]
        exact List.mem_cons_self
      · exact List.mem_cons_of_mem _ (ih i p hi u h1 ((List.mem_erase_of_ne c).mpr h2))
theorem Good.p47 {As : List (Int × Int)} {Ls : List (Int × Str)} {P : List Int} (g : Good As Ls P) : P.length ≤ 47 := by
  obtain ⟨r, _, hr⟩ := g.root
  have h := nodup_le (M := r :: As.map (·.2)) g.asc.nodup fun p hp => by
    by_cases c : p = r
    · rw [c]
      exact List.mem_cons_self
    · refine List.mem_cons_of_mem _ ?_
      have h0 : upN As p ≠ 0 := fun z => c ((hr p hp).mp z)
      have h1 : 0 < As.countP fun a => a.2 == p := Nat.pos_of_ne_zero h0
      obtain ⟨a, ha, he⟩ := List.countP_pos_iff.mp h1
      exact List.mem_map.mpr ⟨a, ha, by simpa using he⟩
  have := g.a46
  rw [List.length_cons, List.length_map] at h
  omega
theorem put_next {H : Hp} {D : Addr} {L : List Int} {f : Int → Int} {i : Nat} {p v : Int} (nd : L.Nodup) (hp : L[i]? = some p) :
    upd H D (.dK (putK ((L.take i).map fun q => ((.inl q : Key), V.int (f q))) (.inl p) (.int v))) D = some (dIs (L.take (i + 1)) fun q => if q = p then v else f q) := by
  have hn := notin_take nd hp
  rw [upd_same, putK_fresh, ← take_snoc hp]
  · show _ = some (HO.dK ((L.take i ++ [p]).map _))
    rw [List.map_append]
    congr 3
    · refine List.map_congr_left fun q hq => ?_
      have hne : q ≠ p := fun e => hn (e ▸ hq)
      show ((Sum.inl q : Key), V.int (f q)) = (Sum.inl q, V.int (if q = p then v else f q))
      rw [if_neg hne]
    · show [((Sum.inl p : Key), V.int v)] = [((Sum.inl p : Key), V.int (if p = p then v else f p))]
      rw [if_pos rfl]
  · rw [List.map_map]
    intro hm
    obtain ⟨z, hz, e⟩ := List.mem_map.mp hm
    have h9 : z = p := Sum.inl.inj e
    exact hn (h9 ▸ hz)
theorem dput_h {td ty tv : TE} {D : Ends} {σ : L2.St} {H : Hp} (h : tv σ H fun v H1 => td σ H1 fun x H2 => ty σ H2 fun y H3 => ∃ a H4, x = .ref a ∧ DPut H3 a y v H4 ∧ D.nx σ H4) : sDPut td ty tv D σ H := h
end Lg

/-! The nets with times that the law of moments draws, grown from the root. -/
namespace Lg
open PySem PySem.Spec PyProof.Rows L2
def ind (a b : Int) : Nat := if a = b then 1 else 0
theorem ind_or (a b : Int) : (a = b ∧ ind a b = 1) ∨ (a ≠ b ∧ ind a b = 0) := by
  unfold ind
  by_cases h : a = b
  · exact .inl ⟨h, if_pos h⟩
  · exact .inr ⟨h, if_neg h⟩
theorem ind_ne {a b : Int} (h : a ≠ b) : ind a b = 0 := if_neg h
theorem ind_self (a : Int) : ind a a = 1 := if_pos rfl
theorem upN_snoc (As : List (Int × Int)) (u v p : Int) : upN (As ++ [(u, v)]) p = upN As p + ind v p := by
  unfold upN ind
  by_cases h : v = p <;> simp [List.countP_append, List.countP_cons, h]
theorem dnN_snoc (As : List (Int × Int)) (u v p : Int) : dnN (As ++ [(u, v)]) p = dnN As p + ind u p := by
  unfold dnN ind
  by_cases h : u = p <;> simp [List.countP_append, List.countP_cons, h]
theorem cnt_cons (a : Int) (l : List Int) (p : Int) : (a :: l).count p = l.count p + ind a p := by
  unfold ind
  by_cases h : a = p <;> simp [List.count_cons, h]
theorem cnt_snoc (l : List Int) (a p : Int) : (l ++ [a]).count p = l.count p + ind a p := by
  rw [List.count_append, cnt_cons, List.count_nil, Nat.zero_add]
theorem cnt_set : ∀ {l : List Int} {i : Nat} {x v : Int}, l[i]? = some x → ∀ p, (l.set i v).count p + ind x p = l.count p + ind v p
  | [], i, x, v, h, p => by simp at h
  | a :: l, 0, x, v, h, p => by
    have : a = x := by simpa using h
    subst this
    rw [List.set_cons_zero, cnt_cons, cnt_cons]
    omega
  | a :: l, i + 1, x, v, h, p => by
    have ih := cnt_set (l := l) (i := i) (x := x) (v := v) (by simpa using h) p
    rw [List.set_cons_succ, cnt_cons, cnt_cons]
    omega
def rgI (N : Nat) : List Int := (List.range N).map fun k : Nat => (k : Int)
theorem mem_rgI {N : Nat} {p : Int} : p ∈ rgI N ↔ 0 ≤ p ∧ p < N := by
  unfold rgI
  rw [List.mem_map]
  constructor
  · rintro ⟨k, hk, rfl⟩
    have := List.mem_range.mp hk
    omega
  · rintro ⟨h0, h1⟩
    exact ⟨p.toNat, List.mem_range.mpr (by omega), by omega⟩
theorem rgI_succ (N : Nat) : rgI (N + 1) = rgI N ++ [(N : Int)] := by
  unfold rgI
  rw [List.range_succ, List.map_append]
  rfl
theorem rgI_len (N : Nat) : (rgI N).length = N := by
  unfold rgI
  rw [List.length_map, List.length_range]
theorem rgI_pw (N : Nat) : (rgI N).Pairwise (· < ·) := List.pairwise_map.mpr (List.pairwise_lt_range.imp fun h => Int.ofNat_lt.mpr h)
theorem rgI_nd (N : Nat) : (rgI N).Nodup := (rgI_pw N).imp Int.ne_of_lt
theorem rgI_at {N i : Nat} (h : i < N) : (rgI N)[i]? = some (i : Int) := by
  unfold rgI
  rw [List.getElem?_map, List.getElem?_range h]
  rfl
def gfN (As : List (Int × Int)) (f : Int → Int) (p : Int) : Nat := As.countP fun a => a.2 == p && f a.1 == f p
theorem gfN_snoc (As : List (Int × Int)) (f : Int → Int) (u v p : Int) : gfN (As ++ [(u, v)]) f p = gfN As f p + if v = p ∧ f u = f p then 1 else 0 := by
  unfold gfN
  by_cases h : v = p <;> by_cases h2 : f u = f p <;> simp [List.countP_append, List.countP_cons, h, h2]
theorem gfN_congr {As : List (Int × Int)} {f f' : Int → Int} {p : Int} (h : ∀ a ∈ As, f' a.1 = f a.1) (hp : f' p = f p) : gfN As f' p = gfN As f p := by
  refine List.countP_congr fun a ha => ?_
  show (a.2 == p && f' a.1 == f' p) = true ↔ (a.2 == p && f a.1 == f p) = true
  rw [h a ha, hp]
structure Grow (c : Int → Nat) (As : List (Int × Int)) (Ls : List (Int × Str)) (N : Nat) (f : Int → Int) (k : Nat) : Prop where
  pos : 1 ≤ N
  rng : ∀ x : Int, 0 < c x → 0 ≤ x ∧ x < (N : Int)
  arr : ∀ a ∈ As, 0 ≤ a.1 ∧ a.1 < a.2 ∧ a.2 < (N : Int)
  nd : As.Nodup
  leaf : ∀ l ∈ Ls, 0 ≤ l.1 ∧ l.1 < (N : Int)
  lnd : (Ls.map (·.1)).Nodup
  deg : ∀ p : Int, 0 ≤ p → p < (N : Int) → (p ∈ Ls.map (·.1) ∧ upN As p ≤ 1 ∧ dnN As p + c p = 0) ∨ (p ∉ Ls.map (·.1) ∧ ((upN As p ≤ 1 ∧ dnN As p + c p = 2) ∨ (upN As p = 2 ∧ dnN As p + c p = 1)))
  root : ∀ p : Int, 0 ≤ p → p < (N : Int) → (upN As p = 0 ↔ p = 0)
  back : ∀ a ∈ As, f a.1 < f a.2 ∨ (f a.1 = f a.2 ∧ upN As a.2 = 2)
  gift : ∀ p, upN As p = 2 → gfN As f p = 1
  late : ∀ p : Int, 0 ≤ p → p < (N : Int) → p ∈ Ls.map (·.1) ∨ 0 < c p ∨ ∃ a ∈ As, a.1 = p ∧ f p < f a.2
  mix : ((rgI N).filter fun p => upN As p == 2).length = k
section
variable {c c' : Int → Nat} {As : List (Int × Int)} {Ls Ls' : List (Int × Str)} {N : Nat} {f f' : Int → Int} {k : Nat}
theorem Grow.up0 (g : Grow c As Ls N f k) {p : Int} (h : (N : Int) ≤ p) : upN As p = 0 := List.countP_eq_zero.mpr fun a ha e => by
  have h1 := (g.arr a ha).2.2
  have h2 : a.2 = p := by simpa using e
  omega
theorem Grow.dn0 (g : Grow c As Ls N f k) {p : Int} (h : (N : Int) ≤ p) : dnN As p = 0 := List.countP_eq_zero.mpr fun a ha e => by
  have h1 := g.arr a ha
  have h2 : a.1 = p := by simpa using e
  omega
theorem Grow.c0 (g : Grow c As Ls N f k) {p : Int} (h : (N : Int) ≤ p) : c p = 0 := Nat.eq_zero_of_not_pos fun z => by
  have := g.rng p z
  omega
theorem Grow.start : Grow (fun p => 2 * ind 0 p) [] [] 1 f 0 where
  pos := Nat.le_refl _
  rng x hx := by
    have hx : 0 < 2 * ind 0 x := hx
    rcases ind_or 0 x with ⟨h, e⟩ | ⟨h, e⟩
    · omega
    · rw [e] at hx
      omega
  arr a h := by cases h
  nd := .nil
  leaf a h := by cases h
  lnd := .nil
  deg p h0 h1 := by
    have : p = 0 := by omega
    subst this
    exact .inr ⟨by simp, .inl ⟨Nat.zero_le _, by show 0 + 2 * ind 0 0 = 2; rw [ind_self]⟩⟩
  root p h0 h1 := ⟨fun _ => by omega, fun _ => rfl⟩
  back a h := by cases h
  gift p h := by
    have h : (0 : Nat) = 2 := h
    omega
  late p h0 h1 := by
    have : p = 0 := by omega
    subst this
    exact .inr (.inl (by show 0 < 2 * ind 0 0; rw [ind_self]; omega))
  mix := rfl
theorem Grow.one {z : Str} : Grow (fun _ => 0) [] [(0, z)] 1 f 0 where
  pos := Nat.le_refl _
  rng x hx := absurd hx (Nat.lt_irrefl _)
  arr a h := by cases h
  nd := .nil
  leaf a h := by
    obtain rfl := List.mem_singleton.mp h
    exact ⟨Int.le_refl _, by show (0 : Int) < 1; decide⟩
  lnd := by simp
  deg p h0 h1 := by
    have : p = 0 := by omega
    subst this
    exact .inl ⟨by simp, Nat.zero_le _, rfl⟩
  root p h0 h1 := ⟨fun _ => by omega, fun _ => rfl⟩
  back a h := by cases h
  gift p h := by
    have h : (0 : Nat) = 2 := h
    omega
  late p h0 h1 := by
    have : p = 0 := by omega
    subst this
    exact .inl (by simp)
  mix := rfl
theorem Grow.add {cc : Nat} {u : Int} (g : Grow c As Ls N f k) (hu : 0 < c u) (hc : ∀ p, c' p + ind u p = c p + cc * ind N p)
    (hL : (cc = 2 ∧ Ls' = Ls) ∨ (cc = 0 ∧ ∃ z, Ls' = Ls ++ [((N : Int), z)])) (hf : ∀ p : Int, p < (N : Int) → f' p = f p) (hs : f u < f' N) :
    Grow c' (As ++ [(u, (N : Int))]) Ls' (N + 1) f' k := by
  have uN := g.rng u hu
  have hcN : c' N = cc := by
    have := hc N
    rw [g.c0 (Int.le_refl _), ind_self, ind_ne (show u ≠ (N : Int) by omega)] at this
    omega
  have hcp : ∀ p : Int, p ≠ N → c' p + ind u p = c p := fun p hp => by
    have := hc p
    rw [ind_ne (show (N : Int) ≠ p from fun e => hp e.symm)] at this
    omega
  have hup := upN_snoc As u N
  have hdn := dnN_snoc As u N
  have up0 := g.up0 (p := N) (Int.le_refl _)
  have dn0 := g.dn0 (p := N) (Int.le_refl _)
  have eN : upN (As ++ [(u, (N : Int))]) N = 1 := by rw [hup, up0, ind_self]
  have eP : ∀ p : Int, p ≠ N → upN (As ++ [(u, (N : Int))]) p = upN As p := fun p hp => by rw [hup, ind_ne fun z => hp z.symm, Nat.add_zero]
  have ha : ∀ a ∈ As, f' a.1 = f a.1 ∧ f' a.2 = f a.2 := fun a h => by
    have := g.arr a h
    exact ⟨hf _ (by omega), hf _ (by omega)⟩
  have mL : ∀ p : Int, p ≠ N → (p ∈ Ls'.map (·.1) ↔ p ∈ Ls.map (·.1)) := fun p hp => by
    rcases hL with ⟨_, rfl⟩ | ⟨_, z, rfl⟩
    · exact Iff.rfl
    · rw [List.map_append, List.mem_append]
      exact ⟨fun h => h.resolve_right fun e => hp (by simpa using e), .inl⟩
  have nL : (N : Int) ∉ Ls.map (·.1) := fun h => by
    obtain ⟨l, hl, e⟩ := List.mem_map.mp h
    have := (g.leaf l hl).2
    omega
  refine ⟨by have := g.pos; omega, fun x hx => ?_, fun a h => ?_, ?_, fun l hl => ?_, ?_, fun p h0 h1 => ?_, fun p h0 h1 => ?_, fun a h => ?_, fun p h => ?_, fun p h0 h1 => ?_, ?_⟩
  · by_cases e : x = N
    · omega
    · have h1 := hcp x e
      have h2 := g.rng x (by omega)
      omega
  · rcases List.mem_append.mp h with h | h
    · have := g.arr a h
      omega
    · obtain rfl := List.mem_singleton.mp h
      show 0 ≤ u ∧ u < (N : Int) ∧ (N : Int) < ((N + 1 : Nat) : Int)
      omega
  · refine List.nodup_append.mpr ⟨g.nd, by simp, fun a h b hb e => ?_⟩
    have h2 := (g.arr a h).2.2
    rw [e, List.mem_singleton.mp hb] at h2
    exact absurd h2 (Int.lt_irrefl _)
  · rcases hL with ⟨_, rfl⟩ | ⟨_, z, rfl⟩
    · have := g.leaf l hl
      omega
    · rcases List.mem_append.mp hl with h | h
      · have := g.leaf l h
        omega
      · obtain rfl := List.mem_singleton.mp h
        show 0 ≤ (N : Int) ∧ (N : Int) < ((N + 1 : Nat) : Int)
        omega
  · rcases hL with ⟨_, rfl⟩ | ⟨_, z, rfl⟩
    · exact g.lnd
    · rw [List.map_append]
      refine List.nodup_append.mpr ⟨g.lnd, by simp, fun a h b hb e => ?_⟩
      have hb' : b = (N : Int) := by simpa using hb
      exact nL (by rw [← hb', ← e]; exact h)
  · by_cases e : p = N
    · have e2 := hdn N
      rw [dn0, ind_ne (show u ≠ (N : Int) by omega)] at e2
      rw [e, eN, e2, hcN]
      rcases hL with ⟨h, rfl⟩ | ⟨h, z, rfl⟩
      · exact .inr ⟨nL, .inl ⟨by omega, by omega⟩⟩
      · exact .inl ⟨by simp, by omega, by omega⟩
    · have e2 := hdn p
      have e3 := hcp p e
      rw [eP p e, e2]
      rcases g.deg p h0 (by omega) with ⟨h, d⟩ | ⟨h, d⟩
      · exact .inl ⟨(mL p e).mpr h, by omega, by omega⟩
      · exact .inr ⟨fun z => h ((mL p e).mp z), by omega⟩
  · by_cases e : p = N
    · rw [e, eN]
      have := g.pos
      omega
    · rw [eP p e]
      exact g.root p h0 (by omega)
  · rcases List.mem_append.mp h with h | h
    · have h1 := g.arr a h
      rw [(ha a h).1, (ha a h).2, eP a.2 (by omega)]
      exact g.back a h
    · obtain rfl := List.mem_singleton.mp h
      refine .inl ?_
      show f' u < f' N
      rw [hf u uN.2]
      exact hs
  · have e : p ≠ N := fun e => by
      rw [e, eN] at h
      omega
    rw [eP p e] at h
    have hp : p < N := Int.not_le.mp fun z => by
      rw [g.up0 z] at h
      omega
    rw [gfN_snoc, gfN_congr (fun a h => (ha a h).1) (hf p hp), g.gift p h, if_neg (fun z => e z.1.symm)]
  · by_cases e : p = N
    · rcases hL with ⟨h, rfl⟩ | ⟨h, z, rfl⟩
      · exact .inr (.inl (by rw [e, hcN]; omega))
      · exact .inl (by rw [e]; simp)
    · have e3 := hcp p e
      by_cases eu : p = u
      · refine .inr (.inr ⟨(u, (N : Int)), List.mem_append_right _ List.mem_cons_self, eu.symm, ?_⟩)
        rw [eu, hf u uN.2]
        exact hs
      · rw [ind_ne (fun z => eu z.symm)] at e3
        rcases g.late p h0 (by omega) with h | h | ⟨a, h, h2, h3⟩
        · exact .inl ((mL p e).mpr h)
        · exact .inr (.inl (by omega))
        · exact .inr (.inr ⟨a, List.mem_append_left _ h, h2, by rw [hf p (by omega), (ha a h).2]; exact h3⟩)
  · have h2 : (rgI N).filter (fun p => upN (As ++ [(u, (N : Int))]) p == 2) = (rgI N).filter fun p => upN As p == 2 := List.filter_congr fun p hp => by
      have := mem_rgI.mp hp
      rw [eP p (by omega)]
    have h3 : [(N : Int)].filter (fun p => upN (As ++ [(u, (N : Int))]) p == 2) = [] := by
      rw [List.filter_cons_of_neg (by rw [eN]; decide)]
      rfl
    rw [rgI_succ, List.filter_append, h2, h3, List.append_nil]
    exact g.mix
theorem Grow.gif {u w mom : Int} (g : Grow c As Ls N f k) (hu : 0 < c u) (hw : 0 < c w) (hc : ∀ p, c' p + ind u p + ind w p = c p + ind N p + ind ((N : Int) + 1) p)
    (hf : ∀ p : Int, p < (N : Int) → f' p = f p) (t1 : f' N = mom) (t2 : f' ((N : Int) + 1) = mom) (hs : f u < mom) (hs2 : f w < mom) :
    Grow c' (As ++ [(u, (N : Int))] ++ [(w, (N : Int) + 1)] ++ [((N : Int), (N : Int) + 1)]) Ls (N + 2) f' (k + 1) := by
  have uN := g.rng u hu
  have wN := g.rng w hw
  generalize hX : As ++ [(u, (N : Int))] ++ [(w, (N : Int) + 1)] ++ [((N : Int), (N : Int) + 1)] = X
  have hup : ∀ p, upN X p = upN As p + ind N p + 2 * ind ((N : Int) + 1) p := fun p => by
    rw [← hX, upN_snoc, upN_snoc, upN_snoc]
    omega
  have hdn : ∀ p, dnN X p = dnN As p + ind u p + ind w p + ind N p := fun p => by rw [← hX, dnN_snoc, dnN_snoc, dnN_snoc]
  have hgf : ∀ p, gfN X f' p = gfN As f' p + (if (N : Int) = p ∧ f' u = f' p then 1 else 0) + (if (N : Int) + 1 = p ∧ f' w = f' p then 1 else 0) + (if (N : Int) + 1 = p ∧ f' N = f' p then 1 else 0) := fun p => by
    rw [← hX, gfN_snoc, gfN_snoc, gfN_snoc]
  have hmem : ∀ a, a ∈ X ↔ a ∈ As ∨ a = (u, (N : Int)) ∨ a = (w, (N : Int) + 1) ∨ a = ((N : Int), (N : Int) + 1) := fun a => by
    rw [← hX]
    simp only [List.mem_append, List.mem_singleton, or_assoc]
  have hnd : X.Nodup := by
    rw [← hX]
    have old : ∀ a ∈ As, a.2 < (N : Int) := fun a h => (g.arr a h).2.2
    refine List.nodup_append.mpr ⟨List.nodup_append.mpr ⟨List.nodup_append.mpr ⟨g.nd, by simp, fun a h b hb e => ?_⟩, by simp, fun a h b hb e => ?_⟩, by simp, fun a h b hb e => ?_⟩
    · have := old a h
      rw [e, List.mem_singleton.mp hb] at this
      have this : (N : Int) < N := this
      omega
    · rw [List.mem_singleton.mp hb] at e
      rcases List.mem_append.mp h with h | h
      · have := old a h
        rw [e] at this
        have this : (N : Int) + 1 < N := this
        omega
      · rw [List.mem_singleton.mp h] at e
        have := congrArg Prod.snd e
        have this : (N : Int) = N + 1 := this
        omega
    · rw [List.mem_singleton.mp hb] at e
      rcases List.mem_append.mp h with h | h
      · rcases List.mem_append.mp h with h | h
        · have := old a h
          rw [e] at this
          have this : (N : Int) + 1 < N := this
          omega
        · rw [List.mem_singleton.mp h] at e
          have := congrArg Prod.snd e
          have this : (N : Int) = N + 1 := this
          omega
      · rw [List.mem_singleton.mp h] at e
        have := congrArg Prod.fst e
        have this : w = N := this
        omega
  clear hX
  have j0 : ∀ p : Int, p < N → ind N p = 0 ∧ ind ((N : Int) + 1) p = 0 := fun p h => ⟨ind_ne (by omega), ind_ne (by omega)⟩
  have upP : ∀ p : Int, p < N → upN X p = upN As p := fun p h => by
    rw [hup, (j0 p h).1, (j0 p h).2]
    omega
  have eN : upN X N = 1 := by rw [hup, g.up0 (Int.le_refl _), ind_self, ind_ne (show (N : Int) + 1 ≠ N by omega)]
  have eM : upN X ((N : Int) + 1) = 2 := by rw [hup, g.up0 (by omega), ind_self, ind_ne (show (N : Int) ≠ N + 1 by omega)]
  have dN : dnN X N = 1 := by rw [hdn, g.dn0 (Int.le_refl _), ind_self, ind_ne (show u ≠ (N : Int) by omega), ind_ne (show w ≠ (N : Int) by omega)]
  have dM : dnN X ((N : Int) + 1) = 0 := by rw [hdn, g.dn0 (by omega), ind_ne (show (N : Int) ≠ N + 1 by omega), ind_ne (show u ≠ (N : Int) + 1 by omega), ind_ne (show w ≠ (N : Int) + 1 by omega)]
  have cN : c' N = 1 := by
    have := hc N
    rw [g.c0 (Int.le_refl _), ind_self, ind_ne (show u ≠ (N : Int) by omega), ind_ne (show w ≠ (N : Int) by omega), ind_ne (show (N : Int) + 1 ≠ N by omega)] at this
    omega
  have cM : c' ((N : Int) + 1) = 1 := by
    have := hc ((N : Int) + 1)
    rw [g.c0 (by omega), ind_self, ind_ne (show u ≠ (N : Int) + 1 by omega), ind_ne (show w ≠ (N : Int) + 1 by omega), ind_ne (show (N : Int) ≠ N + 1 by omega)] at this
    omega
  have cP : ∀ p : Int, p < N → c' p + ind u p + ind w p = c p := fun p h => by
    have := hc p
    rw [(j0 p h).1, (j0 p h).2] at this
    omega
  have ha : ∀ a ∈ As, f' a.1 = f a.1 ∧ f' a.2 = f a.2 := fun a h => by
    have := g.arr a h
    exact ⟨hf _ (by omega), hf _ (by omega)⟩
  have nL : ∀ p : Int, (N : Int) ≤ p → p ∉ Ls.map (·.1) := fun p hp h => by
    obtain ⟨l, hl, e⟩ := List.mem_map.mp h
    have := (g.leaf l hl).2
    omega
  have tri : ∀ p : Int, p < ((N + 2 : Nat) : Int) → p < N ∨ p = N ∨ p = (N : Int) + 1 := fun p h => by omega
  refine ⟨by have := g.pos; omega, fun x hx => ?_, fun a h => ?_, hnd, fun l hl => ?_, g.lnd, fun p h0 h1 => ?_, fun p h0 h1 => ?_, fun a h => ?_, fun p h => ?_, fun p h0 h1 => ?_, ?_⟩
  · have h3 := hc x
    rcases ind_or N x with ⟨e, j⟩ | ⟨e, j⟩
    · omega
    · rcases ind_or ((N : Int) + 1) x with ⟨e, j2⟩ | ⟨e, j2⟩
      · omega
      · have h4 := g.rng x (by omega)
        omega
  · rcases (hmem a).mp h with h | rfl | rfl | rfl
    · have := g.arr a h
      omega
    · show 0 ≤ u ∧ u < (N : Int) ∧ (N : Int) < ((N + 2 : Nat) : Int)
      omega
    · show 0 ≤ w ∧ w < (N : Int) + 1 ∧ (N : Int) + 1 < ((N + 2 : Nat) : Int)
      omega
    · show 0 ≤ (N : Int) ∧ (N : Int) < (N : Int) + 1 ∧ (N : Int) + 1 < ((N + 2 : Nat) : Int)
      omega
  · have := g.leaf l hl
    omega
  · rcases tri p h1 with h | h | h
    · rw [upP p h, hdn p, (j0 p h).1]
      have e3 := cP p h
      rcases g.deg p h0 h with ⟨h, d⟩ | ⟨h, d⟩
      · exact .inl ⟨h, by omega, by omega⟩
      · exact .inr ⟨h, by omega⟩
    · rw [h, eN, dN, cN]
      exact .inr ⟨nL _ (Int.le_refl _), .inl ⟨by omega, by omega⟩⟩
    · rw [h, eM, dM, cM]
      exact .inr ⟨nL _ (by omega), .inr ⟨by omega, by omega⟩⟩
  · have := g.pos
    rcases tri p h1 with h | h | h
    · rw [upP p h]
      exact g.root p h0 h
    · rw [h, eN]
      omega
    · rw [h, eM]
      omega
  · rcases (hmem a).mp h with h | rfl | rfl | rfl
    · rw [(ha a h).1, (ha a h).2, upP a.2 (g.arr a h).2.2]
      exact g.back a h
    · refine .inl ?_
      show f' u < f' N
      rw [hf u uN.2, t1]
      exact hs
    · refine .inl ?_
      show f' w < f' ((N : Int) + 1)
      rw [hf w wN.2, t2]
      exact hs2
    · refine .inr ⟨?_, eM⟩
      show f' N = f' ((N : Int) + 1)
      rw [t1, t2]
  · rw [hgf]
    by_cases e : p = (N : Int) + 1
    · rw [e, if_neg (fun z => by omega), if_neg (fun z => by have := z.2; rw [hf w wN.2, t2] at this; omega), if_pos ⟨rfl, t1.trans t2.symm⟩]
      have : gfN As f' ((N : Int) + 1) = 0 := List.countP_eq_zero.mpr fun a h z => by
        have h3 := (g.arr a h).2.2
        rw [Bool.and_eq_true, beq_iff_eq] at z
        have := z.1
        omega
      omega
    · have e2 : p ≠ N := fun z => by
        rw [z, eN] at h
        omega
      have hp : p < N := Int.not_le.mp fun z => by
        rw [hup, g.up0 z, ind_ne (fun z => e2 z.symm), ind_ne (fun z => e z.symm)] at h
        omega
      rw [upP p hp] at h
      rw [gfN_congr (fun a h => (ha a h).1) (hf p hp), g.gift p h, if_neg (fun z => e2 z.1.symm), if_neg (fun z => e z.1.symm), if_neg (fun z => e z.1.symm)]
  · rcases tri p h1 with h | h | h
    · by_cases eu : p = u
      · exact .inr (.inr ⟨_, (hmem _).mpr (.inr (.inl rfl)), eu.symm, by show f' p < f' N; rw [eu, hf u uN.2, t1]; exact hs⟩)
      · by_cases ew : p = w
        · exact .inr (.inr ⟨_, (hmem _).mpr (.inr (.inr (.inl rfl))), ew.symm, by show f' p < f' ((N : Int) + 1); rw [ew, hf w wN.2, t2]; exact hs2⟩)
        · have e3 := cP p h
          rw [ind_ne (fun z => eu z.symm), ind_ne (fun z => ew z.symm)] at e3
          rcases g.late p h0 h with h4 | h4 | ⟨a, h4, h5, h6⟩
          · exact .inl h4
          · exact .inr (.inl (by omega))
          · exact .inr (.inr ⟨a, (hmem a).mpr (.inl h4), h5, by rw [hf p h, (ha a h4).2]; exact h6⟩)
    · exact .inr (.inl (by rw [h, cN]; omega))
    · exact .inr (.inl (by rw [h, cM]; omega))
  · have h2 : (rgI N).filter (fun p => upN X p == 2) = (rgI N).filter fun p => upN As p == 2 := List.filter_congr fun p hp => by rw [upP p (mem_rgI.mp hp).2]
    have h3 : [(N : Int)].filter (fun p => upN X p == 2) = [] := by
      rw [List.filter_cons_of_neg (by rw [eN]; decide)]
      rfl
    have h4 : [((N + 1 : Nat) : Int)].filter (fun p => upN X p == 2) = [((N + 1 : Nat) : Int)] := by
      rw [List.filter_cons_of_pos (by rw [show ((N + 1 : Nat) : Int) = (N : Int) + 1 from rfl, eM]; rfl)]
      rfl
    rw [rgI_succ, rgI_succ, List.filter_append, List.filter_append, h2, h3, h4, List.append_nil, List.length_append, g.mix]
    rfl
/-- times that fit, told of arrows in any order -/
structure FitsC (P : List Int) (As : List (Int × Int)) (f : Int → Int) : Prop where
  back : ∀ a ∈ As, f a.1 < f a.2 ∨ (f a.1 = f a.2 ∧ upN As a.2 = 2)
  gift : ∀ p ∈ P, upN As p = 2 → gfN As f p = 1
  late : ∀ p ∈ P, dnN As p = 0 ∨ ∃ a ∈ As, a.1 = p ∧ f p < f a.2
theorem Grow.good (g : Grow c As Ls N f k) (c0 : ∀ p, c p = 0) (hk : k ≤ 8) (ha : As.length ≤ 46) (hl : 1 ≤ Ls.length ∧ Ls.length ≤ 12) (hN : N < 64) (hln : (Ls.map (·.2)).Nodup) (hnm : ∀ l ∈ Ls, nameL l.2.cps.toList = true ∧ l.2.length ≤ 8) : Good As Ls (rgI N) where
  asc := ⟨rgI_pw N, fun p => ⟨fun h => by
    obtain ⟨h0, h1⟩ := mem_rgI.mp h
    rcases g.deg p h0 h1 with ⟨h, _⟩ | ⟨_, d⟩
    · exact List.mem_append_right _ h
    · have h2 := c0 p
      have h3 : 0 < dnN As p := by omega
      obtain ⟨a, ha, e⟩ := List.countP_pos_iff.mp h3
      refine List.mem_append_left _ (List.mem_flatMap.mpr ⟨a, ha, ?_⟩)
      have e : a.1 = p := by simpa using e
      rw [← e]
      simp, fun h => by
    rcases List.mem_append.mp h with h | h
    · obtain ⟨a, ha, hk⟩ := List.mem_flatMap.mp h
      have := g.arr a ha
      simp only [List.mem_cons, List.not_mem_nil, or_false] at hk
      rcases hk with rfl | rfl <;> exact mem_rgI.mpr (by omega)
    · obtain ⟨l, hl, rfl⟩ := List.mem_map.mp h
      exact mem_rgI.mpr (g.leaf l hl)⟩⟩
  p64 := by rw [rgI_len]; exact hN
  rng p h := by
    have := mem_rgI.mp h
    omega
  a46 := ha
  nd := g.nd
  l12 := hl
  lp := g.lnd
  ln := hln
  nm := hnm
  rank := ⟨Int.toNat, fun a h => by
    have := g.arr a h
    omega⟩
  deg p h := by
    obtain ⟨h0, h1⟩ := mem_rgI.mp h
    have c1 := c0 p
    rcases g.deg p h0 h1 with ⟨h, d1, d2⟩ | ⟨h, d⟩
    · exact .inl ⟨h, by omega, d1⟩
    · exact .inr ⟨h, by omega⟩
  root := ⟨0, mem_rgI.mpr (by have := g.pos; omega), fun p h => by
    obtain ⟨h0, h1⟩ := mem_rgI.mp h
    exact g.root p h0 h1⟩
  mix := by rw [g.mix]; exact hk
theorem Grow.fitsC (g : Grow c As Ls N f k) (c0 : ∀ p, c p = 0) : FitsC (rgI N) As f where
  back := g.back
  gift p _ h := g.gift p h
  late p h := by
    obtain ⟨h0, h1⟩ := mem_rgI.mp h
    have c1 := c0 p
    rcases g.late p h0 h1 with h | h | h
    · rcases g.deg p h0 h1 with ⟨_, d1, d2⟩ | ⟨h2, _⟩
      · exact .inl (by omega)
      · exact absurd h h2
    · omega
    · exact .inr h
end
theorem upsOf_up {Bs As : List (Int × Int)} (hB : Bs.Perm As) (p : Int) : (upsOf Bs p).length = upN As p := by
  unfold upsOf upN
  rw [List.length_map, ← List.countP_eq_length_filter]
  exact hB.countP_eq _
theorem downsOf_dn {Bs As : List (Int × Int)} (hB : Bs.Perm As) (p : Int) : (downsOf Bs p).length = dnN As p := by
  unfold downsOf dnN
  rw [List.length_map, ← List.countP_eq_length_filter]
  exact hB.countP_eq _
theorem cnt_ups {Bs As : List (Int × Int)} (hB : Bs.Perm As) (f : Int → Int) (p : Int) : ((upsOf Bs p).map f).count (f p) = gfN As f p := by
  unfold upsOf gfN
  rw [List.map_map, List.count, List.countP_map, List.countP_filter, ← hB.countP_eq]
  refine List.countP_congr fun a _ => ?_
  simp [and_comm]
theorem FitsC.fits {P : List Int} {As Bs : List (Int × Int)} {f : Int → Int} (h : FitsC P As f) (hB : Bs.Perm As) : Fits P Bs f where
  back b hb := by
    unfold backB
    rw [upsOf_up hB]
    rcases h.back b (hB.mem_iff.mp hb) with h | ⟨h, e⟩
    · rw [decide_eq_false (by omega), decide_eq_false (by omega)]
      rfl
    · rw [decide_eq_false (by omega), e]
      simp
  gift p hp := by
    unfold giftB
    rw [upsOf_up hB, cnt_ups hB]
    by_cases e : upN As p = 2
    · rw [h.gift p hp e, e]
      rfl
    · rw [beq_eq_false_iff_ne.mpr e]
      rfl
  late p hp := by
    unfold lateB
    rcases h.late p hp with h | ⟨a, ha, e, h2⟩
    · have : downsOf Bs p = [] := List.length_eq_zero_iff.mp ((downsOf_dn hB p).trans h)
      rw [this]
      rfl
    · rw [Bool.and_eq_false_iff]
      refine .inr (List.all_eq_false.mpr ⟨a.2, mem_downs.mpr (hB.mem_iff.mpr (by rw [← e]; exact ha)), ?_⟩)
      rw [decide_eq_true_iff]
      omega
theorem FitsC.renamed {P P' : List Int} {As As' : List (Int × Int)} {f f' g : Int → Int} (h : FitsC P As f) (he : ∀ a ∈ As, a.1 ∈ P ∧ a.2 ∈ P) (inj : ∀ p ∈ P, ∀ q ∈ P, g p = g q → p = q) (hf : ∀ p ∈ P, f' (g p) = f p)
    (hp : As'.Perm (As.map fun a => (g a.1, g a.2))) (hP : ∀ k, k ∈ P' ↔ ∃ p ∈ P, g p = k) : FitsC P' As' f' := by
  have hm : ∀ a, a ∈ As' ↔ ∃ b ∈ As, (g b.1, g b.2) = a := fun a => by rw [hp.mem_iff, List.mem_map]
  have up : ∀ p ∈ P, upN As' (g p) = upN As p := fun p hpP => by
    unfold upN
    rw [hp.countP_eq, List.countP_map]
    refine List.countP_congr fun a ha => ?_
    show (g a.2 == g p) = true ↔ (a.2 == p) = true
    rw [beq_iff_eq, beq_iff_eq]
    exact ⟨fun e => inj _ (he a ha).2 _ hpP e, fun e => by rw [e]⟩
  have dn : ∀ p ∈ P, dnN As' (g p) = dnN As p := fun p hpP => by
    unfold dnN
    rw [hp.countP_eq, List.countP_map]
    refine List.countP_congr fun a ha => ?_
    show (g a.1 == g p) = true ↔ (a.1 == p) = true
    rw [beq_iff_eq, beq_iff_eq]
    exact ⟨fun e => inj _ (he a ha).1 _ hpP e, fun e => by rw [e]⟩
  have gf : ∀ p ∈ P, gfN As' f' (g p) = gfN As f p := fun p hpP => by
    unfold gfN
    rw [hp.countP_eq, List.countP_map]
    refine List.countP_congr fun a ha => ?_
    show (g a.2 == g p && f' (g a.1) == f' (g p)) = true ↔ (a.2 == p && f a.1 == f p) = true
    rw [hf _ (he a ha).1, hf p hpP, Bool.and_eq_true, Bool.and_eq_true, beq_iff_eq (a := g a.2), beq_iff_eq (a := a.2)]
    exact and_congr_left fun _ => ⟨fun e => inj _ (he a ha).2 _ hpP e, fun e => by rw [e]⟩
  refine ⟨fun a ha => ?_, fun q hq e => ?_, fun q hq => ?_⟩
  · obtain ⟨b, hb, rfl⟩ := (hm a).mp ha
    show f' (g b.1) < f' (g b.2) ∨ (f' (g b.1) = f' (g b.2) ∧ upN As' (g b.2) = 2)
    rw [hf _ (he b hb).1, hf _ (he b hb).2, up _ (he b hb).2]
    exact h.back b hb
  · obtain ⟨p, hpP, rfl⟩ := (hP q).mp hq
    rw [up p hpP] at e
    rw [gf p hpP]
    exact h.gift p hpP e
  · obtain ⟨p, hpP, rfl⟩ := (hP q).mp hq
    rcases h.late p hpP with e | ⟨a, ha, e, e2⟩
    · exact .inl (by rw [dn p hpP]; exact e)
    · refine .inr ⟨(g a.1, g a.2), (hm _).mpr ⟨a, ha, rfl⟩, by show g a.1 = g p; rw [e], ?_⟩
      show f' (g p) < f' (g a.2)
      rw [hf p hpP, hf _ (he a ha).2]
      exact e2
/-- the indices that pass -/
theorem lc_rngF {tA : TA} {n ip : Nat} {tt : TT} {vs : List Nat} {σ : L2.St} {H : Hp} {Q : VK} (hta : ∀ R : List V → Hp → Prop, R [.int (n : Int)] H → tA σ H R) (p : Int → Bool) (hn : n < sizeLine)
    (hw : ∀ v, wipe ((wipe σ vs).set ip (some v)) vs = wipe σ vs) (hv : ∀ v, ((wipe σ vs).set ip (some v))[ip]? = some (some v))
    (hs : ∀ i : Nat, i < n → ∀ (H1 : Hp) (k : Bool → Hp → Prop), Same H H1 → (∀ H4, Same H1 H4 → k (p i) H4) → tt ((wipe σ vs).set ip (some (.int (i : Int)))) H1 k)
    (hd : ∀ R H', H R = none → Same H H' → H' R = some (.lst (((rgI n).filter p).map V.int)) → Q (.ref R) H') : tLc (iRng1 tA) (gName ip) tt (tVar ip) vs σ H Q := by
  have h62 := line62 hn
  refine hta _ ⟨(n : Int), rfl, h62.1, h62.2, ?_⟩
  refine lc_fltL (walk_range (lo := 0) (n := (n : Int).toNat)) (rgI n) (by rw [rgI_len]; omega) p V.int (by omega) (fun _ _ => trivial) ?_ hd
  rintro i z x H1 H2 N A hz sm ⟨rfl, hx⟩ hN hA
  dsimp only at hx
  rw [Int.zero_add] at hx
  subst hx
  have hi : i < n := by
    have := (List.getElem?_eq_some_iff.mp hz).1
    rw [rgI_len] at this
    exact this
  rw [rgI_at hi] at hz
  cases hz
  refine ⟨hw _, hs i hi _ _ sm fun H4 s4 => ?_⟩
  cases h : p i with
  | false => exact ite2 (fun e => absurd e (by decide)) fun _ => hN _ s4 h
  | true => exact ite2 (fun _ => ⟨_, hv _, hA _ s4 h⟩) fun e => absurd rfl e
theorem put_end {H : Hp} {D : Addr} {N : Nat} {f : Int → Int} {v : Int} : upd H D (.dK (putK ((rgI N).map fun q => ((.inl q : Key), V.int (f q))) (.inl (N : Int)) (.int v))) D = some (dIs (rgI (N + 1)) fun q => if q = (N : Int) then v else f q) := by
  have e := put_next (H := H) (D := D) (L := rgI (N + 1)) (f := f) (i := N) (p := (N : Int)) (v := v) (rgI_nd _) (rgI_at (Nat.lt_succ_self N))
  rw [show (rgI (N + 1)).take N = rgI N by rw [rgI_succ, List.take_left' (rgI_len N)]] at e
  rw [e, show (rgI (N + 1)).take (N + 1) = rgI (N + 1) from List.take_of_length_le (Nat.le_of_eq (rgI_len _))]
theorem pd_ne {S : Av} {H : Hp} {l : Addr} {o : HO} (hl : ∀ xs, H l ≠ some (.tup xs)) : ∀ {ys : List V} {As : List (Int × Int)}, DaAll S H ys (As.map pd) → DaAll S (upd H l o) ys (As.map pd)
  | [], [], _ => .nil
  | _ :: _, _ :: _, .cons h r => by
    refine .cons ?_ (pd_ne hl r)
    obtain ⟨t, rfl, nt, et⟩ := Da.pd h
    exact da_ofpd nt (by rw [upd_ne (fun z => hl _ (z ▸ et))]; exact et)
theorem ld_ne {S : Av} {H : Hp} {l : Addr} {o : HO} (hl : ∀ xs, H l ≠ some (.tup xs)) : ∀ {ys : List V} {As : List (Int × Str)}, DaAll S H ys (As.map ld) → DaAll S (upd H l o) ys (As.map ld)
  | [], [], _ => .nil
  | _ :: _, _ :: _, .cons h r => by
    refine .cons ?_ (ld_ne hl r)
    obtain ⟨t, rfl, nt, et⟩ := Da.ld h
    exact da_ofld nt (by rw [upd_ne (fun z => hl _ (z ▸ et))]; exact et)
theorem app_ld {S : Av} {s AR T : Addr} {H H7 : Hp} {ys : List V} {As : List (Int × Str)} (p : Int × Str) (hS : SS S s H) (k : Keep s H H7) (so : SO S s H7) (nA : H AR = none) (eA : H7 AR = some (.lst ys)) (hys : DaAll S H7 ys (As.map ld)) (nT : H7 T = none) :
    ∃ H8, upd (upd H7 T (.tup [.int p.1, .str p.2])) AR (.lst (ys ++ [.ref T])) = H8 ∧ Keep s H H8 ∧ SO S s H8 ∧ H8 AR = some (.lst (ys ++ [.ref T])) ∧ DaAll S H8 (ys ++ [.ref T]) ((As ++ [p]).map ld) ∧ ∀ b o, b ≠ AR → H7 b = some o → H8 b = some o := by
  have nTs : T ≠ s := so.ne nT
  have nTA : T ≠ AR := fun e => by rw [e, eA] at nT; cases nT
  have S7 := hS.keep k so
  have fT : ¬ S T := S7.free nT
  have fA : ¬ S AR := hS.free nA
  have nT0 : H T = none := k.free nTs nT
  refine ⟨_, rfl, (k.new nT0).new nA, (so.put fT).put fA, upd_same, ?_, fun b o hb e => ?_⟩
  · rw [List.map_append]
    have h1 : DaAll S (upd H7 T (.tup [.int p.1, .str p.2])) ys (As.map ld) := hys.new nT
    have e1 : upd H7 T (.tup [.int p.1, .str p.2]) AR = some (.lst ys) := by rw [upd_ne nTA.symm]; exact eA
    exact (ld_ne (fun xs z => by rw [e1] at z; cases z) h1).app (.one (da_ofld fT (by rw [upd_ne nTA]; exact upd_same)))
  · rw [upd_ne hb, upd_ne (fun z => by rw [z, nT] at e; cases e)]
    exact e
theorem FitsC.perm {P : List Int} {As Bs : List (Int × Int)} {f : Int → Int} (h : FitsC P As f) (hB : Bs.Perm As) : FitsC P Bs f where
  back a ha := by
    have := h.back a (hB.mem_iff.mp ha)
    unfold upN at this ⊢
    rw [hB.countP_eq]
    exact this
  gift p hp e := by
    have := h.gift p hp (by unfold upN at e ⊢; rw [← hB.countP_eq]; exact e)
    unfold gfN at this ⊢
    rw [hB.countP_eq]
    exact this
  late p hp := by
    rcases h.late p hp with e | ⟨a, ha, e⟩
    · exact .inl (by unfold dnN at e ⊢; rw [hB.countP_eq]; exact e)
    · exact .inr ⟨a, hB.mem_iff.mpr ha, e⟩
theorem Grow.start2 {f : Int → Int} : Grow (fun p => ([0, 0] : List Int).count p) [] [] 1 f 0 := by
  have e : (fun p : Int => ([0, 0] : List Int).count p) = fun p => 2 * ind 0 p := funext fun p => by
    rw [cnt_cons, cnt_cons, List.count_nil]
    omega
  rw [e]
  exact Grow.start
end Lg

/-! Papers of moments of any form. -/
namespace Lg
open PySem PySem.Spec PyProof.Rows L2
theorem timed_one {d : PyData} (h : timedD d = true) : ∃ p : Int × Int, d = pd p := by
  unfold timedD at h
  split at h
  · rename_i a b
    rw [Bool.and_eq_true] at h
    have h1 : ∃ i, a = .int i := by cases a <;> first | exact ⟨_, rfl⟩ | exact absurd h.1 Bool.false_ne_true
    have h2 : ∃ i, b = .int i := by cases b <;> first | exact ⟨_, rfl⟩ | exact absurd h.2 Bool.false_ne_true
    obtain ⟨i, rfl⟩ := h1
    obtain ⟨j, rfl⟩ := h2
    exact ⟨(i, j), rfl⟩
  · cases h
theorem timed_pd (p : Int × Int) : timedD (pd p) = true := rfl
theorem timed_all : ∀ {ds : List PyData}, ds.all timedD = true → ∃ As : List (Int × Int), ds = As.map pd
  | [], _ => ⟨[], rfl⟩
  | d :: ds, h => by
    rw [List.all_cons, Bool.and_eq_true] at h
    obtain ⟨p, rfl⟩ := timed_one h.1
    obtain ⟨As, rfl⟩ := timed_all h.2
    exact ⟨p :: As, rfl⟩
theorem all_timed (As : List (Int × Int)) : (As.map pd).all timedD = true := by
  rw [List.all_eq_true]
  intro d hd
  obtain ⟨p, _, rfl⟩ := List.mem_map.mp hd
  rfl
/-- whether a value is a paper of moments of the places -/
def hfB (P : List Int) : PyData → Bool
  | .list ds => ds.all timedD && decide ((asOf ds).map (·.1) = P)
  | _ => false
theorem hf_pap {P : List Int} {f : Int → Int} : hfB P (pdL (papD P f)) = true := by
  show (((papD P f).map pd).all timedD && decide ((asOf ((papD P f).map pd)).map (·.1) = P)) = true
  rw [all_timed, asOf_pd, papD_fst, decide_eq_true rfl]
  rfl
theorem hf_some {P : List Int} {d : PyData} (nd : P.Nodup) (h : hfB P d = true) : ∃ f, d = pdL (papD P f) := by
  cases d with
  | list ds =>
    have h : (ds.all timedD && decide ((asOf ds).map (·.1) = P)) = true := h
    rw [Bool.and_eq_true] at h
    obtain ⟨As, rfl⟩ := timed_all h.1
    have e := of_decide_eq_true h.2
    rw [asOf_pd] at e
    obtain ⟨f, hf⟩ := fun_exists (P := P) (L := As.map (·.2)) nd (by rw [← e, List.length_map, List.length_map])
    refine ⟨f, ?_⟩
    show PyData.list (As.map pd) = .list ((P.map fun p => (p, f p)).map pd)
    congr 2
    rw [← e, List.map_map]
    refine ((List.map_id As).symm.trans (List.map_congr_left fun a ha => ?_))
    obtain ⟨i, hi⟩ := List.mem_iff_getElem?.mp ha
    have := hf i a.1 a.2 (by rw [← e, List.getElem?_map, hi]; rfl) (by rw [List.getElem?_map, hi]; rfl)
    show a = (a.1, f a.1)
    rw [this]
  | _ => cases h
abbrev formD : PyData := .tuple [.str "form", .none]
theorem log_ok {w : Int} (h1 : -10000000000000000000000000000000000000000000000000000 ≤ w) (h2 : w ≤ 10000000000000000000000000000000000000000000000000000) : w.natAbs.log2 < 1920 := by
  by_cases h : w.natAbs = 0
  · rw [h]
    decide
  · exact (Nat.log2_lt h).mpr (Nat.lt_of_le_of_lt (show w.natAbs ≤ 10000000000000000000000000000000000000000000000000000 by omega) (by decide +kernel))
theorem str_small {w : Int} (h1 : -10000000000000000000000000000000000000000000000000000 ≤ w) (h2 : w ≤ 10000000000000000000000000000000000000000000000000000) : (Str.ofString (toString w)).length ≤ 5000 := by
  have e := PySem.int_text_length_le (k := 1920) (by decide) (log_ok h1 h2)
  rw [PySem.ofString_length]
  omega
theorem cut_da {S : Av} {H : Hp} {xs : List V} {ds : List PyData} (h : DaAll S H xs ds) (lo hi : Option Int) : ∃ ds', DaAll S H (cutV xs lo hi) ds' ∧ (∀ d ∈ ds', d ∈ ds) ∧ ds'.length ≤ ds.length := by
  unfold cutV
  refine ⟨_, (h.drop _).take _, fun d hd => List.mem_of_mem_drop (List.mem_of_mem_take hd), ?_⟩
  rw [List.length_take, List.length_drop]
  omega
/-- a list with one more item, or another one, in its midst -/
theorem splice {K : PySem.W.Frag} {S : Av} {s a : Addr} {j : Nat} {i1 i2 : Int} {xs : List V} {ds : List PyData} {tp1 tp2 : TO} {tz : TE} {σ : L2.St} {H : Hp} {Q : VK} (Pz : PyData → Prop) (hσ : σ[j]? = some (some (.ref a))) (hS : SS S s H) (nas : a ≠ s) (ea : H a = some (.lst xs)) (hA : DaAll S H xs ds) (hl : ds.length ≤ 70)
    (h1 : ∀ H' (R : Option Int → Hp → Prop), R (some i1) H' → tp1 σ H' R) (h2 : ∀ H' (R : Option Int → Hp → Prop), R (some i2) H' → tp2 σ H' R)
    (hz : ∀ H1 (R : V → Hp → Prop), Keep s H H1 → SO S s H1 → (∀ H2 v d, Keep s H1 H2 → SO S s H2 → Da S H2 v d → Pz d → R v H2) → tz σ H1 R)
    (q : ∀ H' p ys es, Keep s H H' → SS S s H' → p ≠ s → ¬ S p → H' p = some (.lst ys) → DaAll S H' ys es → (∀ e ∈ es, e ∈ ds ∨ Pz e) → es.length ≤ 141 → Q (.ref p) H') :
    tOp rCat (tOp rCat (tSl (rSlL K) (tVar j) tNoPart tp1) (tLst (tCons tz tNil))) (tSl (rSlL K) (tVar j) tp2 tNoPart) σ H Q := by
  have sz : 1000 < sizeLine := by decide
  have lx := hA.length
  have l1 := cutV_length xs none (some i1)
  have l2 := cutV_length xs (some i2) none
  refine op_h (op_h ?_)
  refine ⟨_, hσ, h1 _ _ ⟨a, xs, rfl, .of ea, fun p1 n1 => ?_⟩⟩
  obtain ⟨H1, e1, S1, k1, s1, c1, f1, n1s⟩ := fresh (.lst (cutV xs none (some i1))) hS (Keep.refl s H) n1
  rw [e1]
  refine hz H1 _ k1 S1.so fun H2 v d k2 so2 hd hD => ?_
  refine ⟨(by show 1 ≤ sizeLine; decide), fun p2 n2 => ?_⟩
  obtain ⟨H3, e3, S3, k3, s3, c3, f3, _⟩ := fresh (.lst [v]) (hS.keep (k1.trans k2) so2) (k1.trans k2) n2
  rw [e3]
  have c1' := s3 _ _ (k2 _ _ n1s c1)
  refine ⟨p1, p2, _, _, rfl, rfl, c1', c3, by simp only [List.length_cons, List.length_nil]; omega, fun p3 n3 => ?_⟩
  obtain ⟨H4, e4, S4, k4, s4, c4, f4, _⟩ := fresh (.lst (cutV xs none (some i1) ++ [v])) S3 k3 n3
  rw [e4]
  refine ⟨_, hσ, h2 _ _ ⟨a, xs, rfl, .of (k4 _ _ nas ea), fun p4 n4 => ?_⟩⟩
  obtain ⟨H5, e5, S5, k5, s5, c5, f5, _⟩ := fresh (.lst (cutV xs (some i2) none)) S4 k4 n4
  rw [e5]
  refine ⟨p3, p4, _, _, rfl, rfl, s5 _ _ c4, c5, by simp only [List.length_append, List.length_cons, List.length_nil]; omega, fun p5 n5 => ?_⟩
  obtain ⟨H6, e6, S6, k6, s6, c6, f6, n6s⟩ := fresh (.lst ((cutV xs none (some i1) ++ [v]) ++ cutV xs (some i2) none)) S5 k5 n5
  rw [e6]
  obtain ⟨d1, a1, m1, ll1⟩ := cut_da hA none (some i1)
  obtain ⟨d2, a2, m2, ll2⟩ := cut_da hA (some i2) none
  refine q H6 p5 _ ((d1 ++ [d]) ++ d2) k6 S6 n6s f6 c6 (((a1.keep k6 hS.at_).app (.one ((((hd.same s3).same s4).same s5).same s6))).app (a2.keep k6 hS.at_)) (fun e he => ?_) (by simp only [List.length_append, List.length_cons, List.length_nil]; omega)
  rcases List.mem_append.mp he with he | he
  · rcases List.mem_append.mp he with he | he
    · exact .inl (m1 e he)
    · rw [List.mem_singleton.mp he]
      exact .inr hD
  · exact .inl (m2 e he)
theorem dd_pdX (p : Int × Int) : Dd 5000 60 (pd p) := .tup (by show 2 ≤ 5000; decide) fun d hd => by
  simp only [List.mem_cons, List.not_mem_nil, or_false] at hd
  rcases hd with rfl | rfl
  · exact .int _ _
  · exact .int _ _
theorem all_pd_of {es : List PyData} (h : ∀ e ∈ es, timedD e = true) : ∃ As : List (Int × Int), es = As.map pd := timed_all (List.all_eq_true.mpr h)
end Lg

/-! Own errors with fields: made, raised, caught, looked at, passed on. -/
namespace Lg
open PySem PySem.Spec PyProof.Rows L2

/-! ### the class -/
theorem oexB_ok {K : PySem.W.Frag} {C : Addr} (q : oexB K C = true) : (∃ nm q N bs bm sn sub ab col dd k0 k1 k2 k3 k5, K.lookup C = some (excClassObj nm q C N bs bm true sn sub ab col dd k0 k1 k2 k3 k5 "ValueError.__new__") ∧ PySem.HandSPX.refsVE bm = true) := by
  unfold oexB at q
  split at q
  · rename_i dd cd sl ho
    split at q
    · rename_i C' bm k0 k1 k2 k3 n k5 hm hs
      simp only [Bool.and_eq_true, beq_iff_eq, Bool.not_eq_true'] at q
      obtain ⟨⟨⟨rfl, rfl⟩, hdel⟩, hd, ht⟩ := q
      obtain ⟨nm, bs, mro, ns, qn, hd', sn, sub, ab, col, del⟩ := cd
      dsimp only at hm hdel hd
      subst hm hdel hd
      have hsl : sl = #[k0, k1, k2, k3, some (.builtin "ValueError.__new__"), k5] := by
        obtain ⟨l⟩ := sl
        simp only at hs
        rw [hs]
      subst hsl
      exact ⟨nm, qn, ns, bs, bm, sn, sub, ab, col, dd, k0, k1, k2, k3, k5, ho, ht⟩
    · cases q
  · cases q
/-- what the head says of an own error's class -/
structure ExF (K : PySem.W.Frag) (C : Addr) (fs : List Str) : Prop where
  oex : OexC K C
  xf : XfC K C
  cl : (PySem.W.clsIn K C).isSome = true
  ha : PySem.W.findIn K (.ref C) "__class__" = some (some (.builtin "object.__class__"))
  hn : PySem.W.specialIn K (.builtin "object.__class__") "__get__" = some (some (.builtin "getset_descriptor.__get__"))
  ht : PySem.W.takesIn K (.builtin "object.__class__") = some true
  hm : PySem.W.mroIn K C (.type "object") = some true
  ini : PySem.W.findIn K (.ref C) "__init__" = some (some (.ref (He.ma K C "__init__")))
  tyI : PySem.W.typeIn K (.ref (He.ma K C "__init__")) = some (.type "function")
  no : ∀ f ∈ fs, PySem.W.findIn K (.ref C) f = some none
theorem excB_ok {K : PySem.W.Frag} {C : Addr} {fs : List Str} (h : excB K C fs = true) : ExF K C fs := by
  unfold excB at h
  simp only [Bool.and_eq_true, decide_eq_true_eq, List.all_eq_true] at h
  obtain ⟨h1, h2, h3, h4, h5, h6, h7, h8, h9, h10, h11, h12⟩ := h
  have x := xfB_ok h5
  obtain ⟨nm, q, N, bs, bm, sn, sub, ab, col, dd, k0, k1, k2, k3, k5, hC, hbm⟩ := oexB_ok h1
  exact ⟨⟨⟨nm, q, N, bs, bm, sn, sub, ab, col, dd, k0, k1, k2, k3, k5, hC, hbm⟩, He.eqO_ok h2, x.exC, h3, h4⟩, x, by unfold PySem.W.clsIn; rw [hC] <;> rfl, He.eqO_ok h6, He.eqO_ok h7, h8, h9, He.eqO_ok h10, h11, fun f hf => He.eqO_ok (h12 f hf)⟩

/-! ### a caught error, tracked -/
abbrev exE (a : Addr) (cls : Value) (d : Option Addr) : HO := .ext fun h => ∃ oe, h.get? a = some oe ∧ Zc cls d oe ∧ ∃ vs, oe.data = .fields vs
theorem exE_at {P : Program} {w : World} {H : Hp} {h : Heap} {a : Addr} {cls : Value} {d : Option Addr} (hok : HOk P w H h) (e : H a = some (exE a cls d)) : ∃ oe, h.get? a = some oe ∧ Zc cls d oe ∧ ∃ vs, oe.data = .fields vs := by
  have x : ObjOk P w H h a (.ext fun h => ∃ oe, h.get? a = some oe ∧ Zc cls d oe ∧ ∃ vs, oe.data = .fields vs) := hok a _ e
  exact x.1
theorem exE_ok {P : Program} {w : World} {H : Hp} {h : Heap} {a : Addr} {oe : Obj} {cls : Value} {d : Option Addr} (he : h.get? a = some oe) (hz : Zc cls d oe) (hf : ∃ vs, oe.data = .fields vs) : ObjOk P w H h a (exE a cls d) :=
  ⟨⟨oe, he, hz, hf⟩, ⟨_, he⟩, fun h1 h2 z k => by
    obtain ⟨o, e, r⟩ := z
    exact ⟨o, k _ e, r⟩⟩
section
variable {X : Cx} {pins : List (Addr × Obj)} {σ : L2.St} {H : Hp} {s : Shared}
theorem inst_exc {a D dd : Addr} {fs : List (Str × V)} (I : Inv X pins σ H s) (e : H a = some (exE a (.ref D) (some dd))) (ed : H dd = some (.xd fs)) : ∃ (oe od : Obj) (mA : Str → Option Value), PySem.W.InstAt s.heap a oe D (some od) ∧ (∀ f, RelO (fs.lookup f) (mA f)) ∧ ∀ n, PySem.W.lookIn n od = some (mA n) := by
  obtain ⟨oe, ha, hz, vs, hd⟩ := exE_at I.hok e
  have hx : ObjOk X.prog X.w H s.heap dd (.xd fs) := I.hok dd _ ed
  obtain ⟨mA, hns, hr⟩ := hx
  obtain ⟨od, ho, hl⟩ := lookIn_ns hns
  exact ⟨oe, od, mA, ⟨ha, hz.1, by unfold PySem.W.notCls; rw [hd] <;> rfl, by rw [hz.2]; exact ho⟩, hr, hl⟩
/-- tracked from now on -/
theorem Inv.track {a : Addr} {oe : Obj} {vs : Array Value} {o : HO} (I : Inv X pins σ H s) (na : H a = none) (he : s.heap.get? a = some oe) (hd : oe.data = .fields vs) (nL : a ≠ X.env.locals) (n0 : X.s_0.heap.get? a = none) (np : ∀ p ∈ X.pn ++ pins, p.1 ≠ a) (new : ObjOk X.prog X.w (upd H a o) s.heap a o) : Inv X pins σ (upd H a o) s := by
  have neC : ∀ x c, X.env.cells.lookup x = some c → c ≠ a := fun x c e z => by
    obtain ⟨v, o', ho', hd'⟩ := I.cell x c e
    rw [z, he] at ho'
    cases ho'
    rw [hd] at hd'
    cases hd'
  refine ⟨I.ok, I.os, I.bare, ⟨I.base.keep, I.base.slot, fun b u e n hx => ?_, I.base.there, fun b xs e => ?_, fun b u v e => ?_, fun b ps e => ?_⟩, I.loc, I.cell, ?_, fun x c e => ?_, fun p hp => ?_, fun b u e => ?_, I.len⟩
  · rw [upd_ne (fun z => by rw [z, n0] at e; cases e)]
    exact I.base.free b u e n hx
  · have q := I.base.tups b xs e
    rw [upd_ne (ne_of_none q na)]
    exact q
  · have q := I.base.frzs b u v e
    rw [upd_ne (ne_of_none q na)]
    exact q
  · obtain ⟨m, q⟩ := I.base.tbls b ps e
    exact ⟨m, by rw [upd_ne (ne_of_none q na)]; exact q⟩
  · rw [upd_ne nL.symm]
    exact I.free
  · rw [upd_ne (neC x c e)]
    exact I.freeC x c e
  · obtain ⟨e, n, r⟩ := I.pin p hp
    exact ⟨e, by rw [upd_ne (np p hp)]; exact n, r⟩
  · by_cases hb : b = a
    · subst hb
      rw [upd_same] at e
      cases e
      exact new
    · rw [upd_ne hb] at e
      exact (I.hok b u e).stay (fun c v _ q => q) (fun c q => by rw [upd_ne (ne_of_none q na)]; exact q) fun c xs q => by rw [upd_ne (ne_of_none q na)]; exact q
end
/-- e.f, e an own error that was caught -/
def tXfT (K : PySem.W.Frag) (f : Str) (te : TE) : TE := fun σ H Q => te σ H fun x H1 => ∃ (a C dd : Addr) (fs : List (Str × V)) (v : V) (ns : List Str), x = .ref a ∧ H1 a = some (exE a (.ref C) (some dd)) ∧ H1 dd = some (.xd fs) ∧ ExF K C ns ∧ f ∈ ns ∧ fs.lookup f = some v ∧ Q v H1
theorem pe_xfT {X : Cx} (K : PySem.W.Frag) (hK : X.K = K) {e : Expr} {te : TE} {pos : Pos} {n : Str} (he : PE X e te) (hb : attributeBase e n X.env (eval e X.env) = eval e X.env) : PE X (.Attribute e n pos) (tXfT K n te) := by
  subst hK
  refine ⟨fun pins s σ H Q I h => ?_⟩
  refine attr_of hb (thn (he.run pins s σ H _ I h) fun u s1 hh => ?_)
  obtain ⟨x, H1, I1, rx, a, C, dd, fs, v, ns, ex, ea, ed, T, hn, l, q⟩ := hh
  subst ex
  obtain rfl : u = Value.ref a := rx
  obtain ⟨oe, od, mA, J, hr, hl⟩ := inst_exc I1 ea ed
  obtain ⟨u, hu, ru⟩ := RelO.some_of (v := v) (o := mA n) (by rw [← l]; exact hr n)
  exact HandSPX.exc_get I1.kIn J T.xf.ga T.xf.gg T.xf.exC (PySem.W.findObj_own T.xf.hdC (T.no n hn) rfl (by rw [hl, hu])) (handed_of ru) ⟨v, H1, I1.tok _, ru, q⟩
/-- isinstance(e, c), isinstance(e, (c, ..)), e an own error that was caught -/
def rIsX (K : PySem.W.Frag) : List V → Hp → VK → Prop := fun xs H Q => ∃ (a D dd : Addr) (fs : List (Str × V)) (ns : List Str) (c : V) (b : Bool), xs = [.ref a, c] ∧ H a = some (exE a (.ref D) (some dd)) ∧ H dd = some (.xd fs) ∧ ExF K D ns ∧
  ((∃ cv, ClsV c cv ∧ PySem.W.kitOne K (.ref D) cv = some b) ∨ ∃ tp cs us, c = .ref tp ∧ H tp = some (.tup cs) ∧ Paired ClsV cs us ∧ PySem.W.kitAny K (.ref D) us = some b) ∧ Q (.bl b) H
theorem call_isE {X : Cx} (K : PySem.W.Frag) (hK : X.K = K) : CallR X (.builtin "isinstance") (rIsX K) := by
  subst hK
  intro pins s σ H xs us Q I r h
  obtain ⟨a, D, dd, fs, ns, c, b, rfl, ea, ed, T, hc, q⟩ := h
  obtain ⟨u1, u2, rfl, r1, r2⟩ := vals2 r
  cases (show u1 = Value.ref a from r1)
  obtain ⟨oe, od, mA, J, _, _⟩ := inst_exc I ea ed
  have Z := PySem.W.kitx_exc (x := a) (ox := oe) (od := some od) T.cl T.xf.ga T.xf.gg T.xf.exC T.ha T.hn T.ht T.hm
  rcases hc with ⟨cv, hcv, e⟩ | ⟨tp, cs, us, rfl, hT, k, e⟩
  · have e2 := hcv.eq r2
    subst e2
    exact PySem.W.kia_one Z I.kIn J e (fun z => nomatch z) fun tk => ⟨.bl b, H, I.tok tk, rfl, q⟩
  · cases (show u2 = Value.ref tp from r2)
    obtain ⟨_, its, rv, o, h1, h2, n, h3⟩ := (show ObjOk X.prog X.w H s.heap tp (.tup cs) from I.hok tp _ hT)
    have e3 := ClsV.all k rv
    subst e3
    obtain ⟨oc, od2, dt, sl⟩ := o
    simp only at h2 h3
    subst h2 h3
    exact PySem.W.kia_tup Z I.kIn J h1 e (fun z => nomatch z) fun tk => ⟨.bl b, H, I.tok tk, rfl, q⟩

/-! ### an own error made -/
def spExc (K : PySem.W.Frag) (fs : List Str) : Sp := fun vs H Q _ => ∃ (a C : Addr) (us : List V), vs = .ref a :: us ∧ us.length = fs.length ∧ OexC K C ∧ (∀ f ∈ fs, PySem.W.findIn K (.ref C) f = some none) ∧ H a = some (exo a C none) ∧
  ∀ (d : Addr) (H' : Hp), H d = none → d ≠ a → (∀ b, b ≠ a → b ≠ d → H' b = H b) → H' a = some (exo a C (some d)) → H' d = some (exd d (fs.zip us).reverse) → Q .non H'
structure OwnE (P : Program) (w : World) (K : PySem.W.Frag) (mg : Str → Option Value) (base : Heap) (k : Nat) (x : Str) (C : Addr) (ps fs : List Str) : Prop where
  ex : ∃ i fd, i + 1 ≤ k ∧ FnOk P w K mg base CX0 i (He.ma K C "__init__") fd ps (spExc K fs) ∧ mg x = some (.ref C) ∧ ExF K C fs ∧ Binds K fd ps []
theorem OwnE.up {P : Program} {w : World} {K : PySem.W.Frag} {mg : Str → Option Value} {base : Heap} {x : Str} {C : Addr} {ps fs : List Str} {j k : Nat} (O : OwnE P w K mg base k x C ps fs) (h : k ≤ j) : OwnE P w K mg base j x C ps fs := by
  obtain ⟨i, fd, l, r⟩ := O.ex
  exact ⟨i, fd, Nat.le_trans l h, r⟩
section
variable {X : Cx} {k : Nat} {C : Addr} {x : Str} {ps fs : List Str} {e : Expr} {es : List Expr} {t : TA} {p pos pos' : Pos} {W : WX}
theorem pmk_ownE (O : OwnE X.prog X.w X.K X.mg X.base k x C ps fs) (hr : Room k X.A) (hg : Gl X x) (ha : PA X (e :: es) t) (hdb : (x == ("__debug__" : Str)) = false := by decide)
    (he : starEach (e :: es) X.env = (false, eval e X.env) :: starEach es X.env := by rfl) (hpl : (backTo pos (starEach es X.env)).any (·.1) = false := by rfl) :
    PMk X (.Call (.Name x p) (e :: es) [] pos) (tMkO C (spExc X.K fs) [] t) := by
  obtain ⟨i, fd, l, F, hm, T, hb⟩ := O.ex
  exact pmk_oex T.oex T.ini T.tyI F (hr.mono l) hb .nil pass0 hg hm ha hdb he hpl
/-- raise C(..) -/
def tRaise (C : Addr) (K : PySem.W.Frag) (fs : List Str) (W : WX) (t : TA) : TS := fun _ σ H => tMkO C (spExc K fs) [] t σ H fun cls d H' => W cls d σ H'
theorem ps_raiseE (hc : X.calm = true) (tk : Takes X W) (O : OwnE X.prog X.w X.K X.mg X.base k x C ps fs) (hr : Room k X.A) (hg : Gl X x) (ha : PA X (e :: es) t) (hdb : (x == ("__debug__" : Str)) = false := by decide)
    (he : starEach (e :: es) X.env = (false, eval e X.env) :: starEach es X.env := by rfl) (hpl : (backTo pos (starEach es X.env)).any (·.1) = false := by rfl) :
    PS X (.Raise (some (.Call (.Name x p) (e :: es) [] pos)) none pos') (tRaise C X.K fs W t) := ps_raise hc tk (pmk_ownE O hr hg ha hdb he hpl)
end
/-- the end of a raise -/
theorem made_exc {K : PySem.W.Frag} {C : Addr} {fs : List Str} {vs : List V} {H1 : Hp} {Q : XK} (T : ExF K C fs) (hn : vs.length = fs.length) (hf : fs.length ≤ 900) (q : ∀ d, H1 d = none → Q (.ref C) (some d) (upd H1 d (.xd (fs.zip vs).reverse))) :
    vs.length ≤ 1000 ∧ ∀ a, H1 a = none → spExc K fs (.ref a :: (vs ++ [])) (upd H1 a (exo a C none))
      (fun v H2 => v = .non ∧ ∃ (d : Addr) (fs : List (Str × V)), H2 a = some (exo a C (some d)) ∧ H2 d = some (exd d fs) ∧ H1 d = none ∧ Q (.ref C) (some d) (upd (del H2 a) d (.xd fs))) (fun _ _ _ => False) := by
  refine ⟨by omega, fun a na => ⟨a, C, vs, by rw [List.append_nil], hn, T.oex, T.no, upd_same, fun d H' nd hda fr ea ed => ?_⟩⟩
  rw [upd_ne hda] at nd
  refine ⟨rfl, d, _, ea, ed, nd, ?_⟩
  have e : upd (del H' a) d (.xd (fs.zip vs).reverse) = upd H1 d (.xd (fs.zip vs).reverse) := by
    funext b
    by_cases h1 : b = d
    · rw [h1, upd_same, upd_same]
    · rw [upd_ne h1, upd_ne h1]
      by_cases h2 : b = a
      · rw [h2, del_same, na]
      · rw [del_ne h2, fr b h2 h1, upd_ne h2]
  rw [e]
  exact q d nd

/-! ### defs that may raise -/
/-- as one that raises nothing: nothing that it raises is let out -/
abbrev noE (sp : Sp) : Sp := fun vs H Q _ => sp vs H Q E0
theorem fnok_calm {P : Program} {w : World} {K : PySem.W.Frag} {mg : Str → Option Value} {base : Heap} {k : Nat} {f : Addr} {fd : FuncData} {ps : List Str} {sp : Sp} (F : FnOk P w K mg base (L2.CX P w) k f fd ps sp) : FnOk P w K mg base CX0 k f fd ps (noE sp) := by
  refine ⟨fun vs H Q E h => F.len vs H Q E0 h, fun A outer s H args us vs Q E hr e0 hb hv hs => codeAny_mono (F.run A outer s H args us vs Q E0 hr e0 hb hv hs) fun r s' hq => ?_⟩
  cases r with
  | error e =>
    obtain ⟨_, _, _, _, _, _, _, _, _, _, _, _, z⟩ := hq
    exact z.elim
  | ok fl => cases fl <;> exact hq
structure OwnX (P : Program) (w : World) (K : PySem.W.Frag) (mg : Str → Option Value) (base : Heap) (k : Nat) (x : Str) (ps : List Str) (sp : Sp) : Prop where
  ex : ∃ f fd, FnOk P w K mg base (L2.CX P w) k f fd ps sp ∧ mg x = some (.ref f) ∧ PySem.W.keepIn K (.ref f) = true ∧ Binds K fd ps [] ∧ KBn K fd ps 0 ps (fun _ ws => ws) (fun _ zs => zs)
section
variable {P : Program} {w : World} {K : PySem.W.Frag} {mg : Str → Option Value} {base : Heap} {k j : Nat} {x qual : Str} {st : Stmt} {f : Addr} {fd : FuncData} {ps : List Str} {sp : Sp}
theorem OwnX.up (O : OwnX P w K mg base k x ps sp) (h : k ≤ j) : OwnX P w K mg base j x ps sp := by
  obtain ⟨f, fd, F, r⟩ := O.ex
  exact ⟨f, fd, F.mono h, r⟩
theorem OwnX.calm (O : OwnX P w K mg base k x ps sp) : Own P w K mg base k x ps (noE sp) := by
  obtain ⟨f, fd, F, r⟩ := O.ex
  exact ⟨f, fd, fnok_calm F, r⟩
theorem OwnX.mk' (F : Fun K x qual st f fd) (ok : FnOk P w K mg base (L2.CX P w) k f fd ps sp) (g : mg x = some (.ref f)) (b : Binds K fd ps []) (kb : KBn K fd ps 0 ps (fun _ ws => ws) (fun _ zs => zs)) : OwnX P w K mg base k x ps sp := ⟨f, fd, ok, g, F.kp, b, kb⟩
end
section
variable {X : Cx} {k : Nat} {x : Str} {ps : List Str} {sp : Sp} {e : Expr} {es : List Expr} {t : TA} {p pos : Pos} {W : WX}
theorem pe_ownS (O : OwnX X.prog X.w X.K X.mg X.base k x ps sp) (hr : Room k X.A) (hg : Gl X x) (tk : Takes X W) (ha : PA X (e :: es) t) (hdb : (x == ("__debug__" : Str)) = false := by decide)
    (he : starEach (e :: es) X.env = (false, eval e X.env) :: starEach es X.env := by rfl) (hpl : (backTo pos (starEach es X.env)).any (·.1) = false := by rfl) :
    PE X (.Call (.Name x p) (e :: es) [] pos) (tCallS sp (WE W) t) := by
  obtain ⟨f, fd, F, gm, kp, hb, _⟩ := O.ex
  exact pe_callS F hr hg gm kp hb (fun σ => passAt tk σ) ha hdb he hpl
end

/-! ### try: .. except C: .. except D as n: .. -/
def endI (i : Nat) (D : Ends) : Ends := { nx := fun σ' H' => D.nx (σ'.set i none) H', rt := D.rt, bk := fun σ' H' => D.bk (σ'.set i none) H', ct := fun σ' H' => D.ct (σ'.set i none) H' }
def wMix (K : PySem.W.Frag) (Wout : WX) (D : Ends) : List (Value × Option Nat × TS) → WX
  | [] => Wout
  | (c, none, ts) :: r => fun cls d σ H => ∃ b, PySem.W.exmOne K cls c = some b ∧ (b = true → ∀ a, H a = none → ts D σ (upd H a (exE a cls d))) ∧ (b = false → wMix K Wout D r cls d σ H)
  | (c, some i, ts) :: r => fun cls d σ H => ∃ b, PySem.W.exmOne K cls c = some b ∧ (b = true → ∀ a, H a = none → ts (endI i D) (σ.set i (some (.ref a))) (upd H a (exE a cls d))) ∧ (b = false → wMix K Wout D r cls d σ H)
inductive HdsM (X : Cx) : List ExceptHandler → List (Value × Option Nat × TS) → Prop
  | nil : HdsM X [] []
  | one {x : Str} {c : Value} {ts : TS} {b₀ : Stmt} {suite : List Stmt} {np pos' : Pos} {hds : List ExceptHandler} {l : List (Value × Option Nat × TS)} (hc : Names X x c) (hsu : ∀ (a : Addr) (pn : List (Addr × Obj)), PSs (X.suite a pn) (b₀ :: suite) ts) (r : HdsM X hds l) :
      HdsM X (.ExceptHandler (some (.Name x np)) none (b₀ :: suite) pos' :: hds) ((c, none, ts) :: l)
  | as_ {x n : Str} {c : Value} {i : Nat} {ts : TS} {b₀ : Stmt} {suite : List Stmt} {np pos' : Pos} {hds : List ExceptHandler} {l : List (Value × Option Nat × TS)} (hi : X.N[i]? = some n) (hln : X.env.kindOf n = some .local) (hc : Names X x c) (hsu : ∀ (a : Addr) (pn : List (Addr × Obj)), PSs (X.suite a pn) (b₀ :: suite) ts) (r : HdsM X hds l) :
      HdsM X (.ExceptHandler (some (.Name x np)) (some n) (b₀ :: suite) pos' :: hds) ((c, some i, ts) :: l)
section
variable {X : Cx} {body : List Stmt} {h₀ : ExceptHandler} {hds : List ExceptHandler} {l : List (Value × Option Nat × TS)} {pos : Pos} {tb : WX → TS} {Wout : WX}
theorem Inv.unsuiteT {pins : List (Addr × Obj)} {σ : L2.St} {H : Hp} {s : Shared} {a : Addr} (I : Inv (X.suite a (X.pn ++ pins)) [] σ H s) (ok : X.Ok) : Inv X pins σ H s :=
  ⟨ok, I.os, I.bare, I.base, I.loc, I.cell, I.free, I.freeC, fun p hp => I.pin p (List.mem_append_left _ hp), I.hok, I.len⟩
theorem ps_tryM (hs : X.stack = X.env :: X.outer) (hf : X.env.frame = some X.env.locals) (hex : X.ex = []) (hN : X.N.Nodup) (tk : Takes X Wout)
    (hb : ∀ (W : WX) (pn : List (Addr × Obj)) (xe : Value → Shared → Prop), Takes (X.tr pn xe) W → PassesOwn (model X.prog X.w) X.A X.env xe → PSs (X.tr pn xe) body (tb W))
    (hh : HdsM X (h₀ :: hds) l) : PS X (.Try body (h₀ :: hds) [] [] pos) (fun D σ H => tb (wMix X.K Wout D l) D σ H) := by
  refine ⟨fun pins s σ H D I h => ?_⟩
  have ok := I.ok
  have hfr : X.A.frames = some (X.env :: X.outer) := by rw [ok.frames, hs]
  refine wpAny_Try_except ?_
  refine wpAny_mono ((hb (wMix X.K Wout D l) (X.pn ++ pins) (fun e s₁ => wpAny (model X.prog X.w) X.A (noteFrame e X.env) (fun _ s₂ => wpAny (model X.prog X.w) X.A (setFlight e none) (fun _ s₃ =>
    wpAny (model X.prog X.w) X.A (handleBy e X.env (h₀ :: hds)) (SP X pins D) X.xe s₃) X.xe s₂) X.xe s₁) (fun u s' xx => ?_) PassesOwn.looking).run [] s σ H D (I.toTry _) h) (fun f s1 hsp => ?_) (fun e s1 he => he)
  · obtain ⟨a, B, sI, pins', σ', H', cls, d, rfl, J', nb, up, sky, na, os, ag, w⟩ := xx
    have J : Inv X pins σ' H' sI := J'.ofTry ok
    have sky' : Sky B (X.env :: X.outer) a (Zc cls d) X.env.locals s'.heap := by rw [← hs]; exact sky
    show wpAny (model X.prog X.w) X.A (noteFrame (.ref a) X.env) _ _ _
    refine Sky.land Zc.steady hfr hf sky' fun h3 fl3 up3 => ?_
    have J3 : Inv X pins σ' H' { s' with heap := h3 } := J.landed nb fl3.1 (up.trans up3) os ag
    obtain ⟨oe3, vs3, he3, hz3, hd3⟩ := fl3.there
    have notFr : ∀ {h : Heap} {o : Obj} {vs : Array Value}, h.FunFrames B (X.env :: X.outer) → h.get? a = some o → o.data = .fields vs → a ∉ frs (X.env :: X.outer) := fun {h o vs} ff e dd hm => by
      obtain ⟨_, o', e', hnf⟩ := ff.mem hm
      rw [e] at e'; cases e'
      exact hnf _ dd
    have nfr := notFr fl3.2.2.1 he3 hd3
    have nL : a ≠ X.env.locals := fun z => nfr (List.mem_filterMap.mpr ⟨X.env, List.mem_cons_self, by rw [hf, z]⟩)
    have nF : a ∉ X.fs := fun hm => by
      obtain ⟨e, he, q⟩ := List.mem_filterMap.mp hm
      exact nfr (List.mem_filterMap.mpr ⟨e, List.mem_cons_of_mem _ he, q⟩)
    have nfr' : a ∉ frs X.stack := by rw [hs]; exact nfr
    have noI : ∀ o, sI.heap.get? a ≠ some o := fun o e => by
      have z := nb a o e nfr'
      rw [fl3.2.1] at z
      cases z
    have n0 : X.s_0.heap.get? a = none := by
      cases e : X.s_0.heap.get? a with
      | none => rfl
      | some o =>
        obtain ⟨o', e'⟩ := J.base.there a o e (by rw [hex]; simp)
        exact absurd e' (noI o')
    have np : ∀ p ∈ X.pn ++ pins, p.1 ≠ a := fun p hp z => by
      have q := (J.pin p hp).1
      rw [z] at q
      exact noI _ q
    have S3 : Inv (X.suite a (X.pn ++ pins)) [] σ' H' { s' with heap := h3 } :=
      ⟨ok.suite _ _, J3.os, J3.bare, J3.base, J3.loc, J3.cell, J3.free, J3.freeC, fun p hp => J3.pin p (by rw [List.append_nil] at hp; exact hp), J3.hok, J3.len⟩
    have go : ∀ {hds' : List ExceptHandler} {l' : List (Value × Option Nat × TS)}, HdsM X hds' l' → wMix X.K Wout D l' cls d σ' H' →
        wpAny (model X.prog X.w) X.A (handleBy (.ref a) X.env hds') (SP X pins D) X.xe { s' with heap := h3 } := by
      intro hds' l' hk
      have LT : PySem.W.Looks (model X.prog X.w) h3 (typeOf (.ref a)) cls := fun A Q E s k q => wpAny_typeOf_ref (k _ _ he3) (by rw [hz3.1]; exact q)
      have test : ∀ {x : Str} {c : Value} {np : Pos} {Q : Value → Shared → Prop} {E : Value → Shared → Prop}, Names X x c → Q c { s' with heap := h3 } → wpAny (model X.prog X.w) (X.A.mark (some (.ref a))) (eval (.Name x np) X.env) Q E { s' with heap := h3 } := fun {x c np Q E} hc q => by
        obtain ⟨hg, hdbg, hm | ⟨hm, hv, hnn⟩⟩ := hc
        · exact ld_glob (X := X.suite a (X.pn ++ pins)) S3 hg hm q hdbg
        · exact ld_blt (X := X.suite a (X.pn ++ pins)) S3 hg hm hv q hnn hdbg
      have tr : ∀ {h4 : Heap}, HandSPX.FlyingZ B (X.env :: X.outer) a (Zc cls d) h4 → h3.UpToSlots h4 → Inv (X.suite a (X.pn ++ pins)) [] σ' (upd H' a (exE a cls d)) { s' with heap := h4 } := fun {h4} fl4 up4 => by
        have J4 : Inv X pins σ' H' { s' with heap := h4 } := J.landed nb fl4.1 ((up.trans up3).trans up4) os ag
        obtain ⟨oe4, vs4, he4, hz4, hd4⟩ := fl4.there
        have S4 : Inv (X.suite a (X.pn ++ pins)) [] σ' H' { s' with heap := h4 } :=
          ⟨ok.suite _ _, J4.os, J4.bare, J4.base, J4.loc, J4.cell, J4.free, J4.freeC, fun p hp => J4.pin p (by rw [List.append_nil] at hp; exact hp), J4.hok, J4.len⟩
        exact Inv.track S4 na he4 hd4 nL n0 (fun p hp => np p (by rw [List.append_nil] at hp; exact hp)) (exE_ok he4 hz4 ⟨_, hd4⟩)
      induction hk with
      | nil =>
        intro w
        refine wpAny_handleBy_nil ?_
        obtain ⟨k1, k2, k3, oe, vs, T, oT, ts', he, hz, hd, h1, hr⟩ := id fl3
        unfold PySem.passOn
        refine wpAny_bind (wpAny_field he hd h1 ?_)
        rw [if_neg (show ¬ ((Value.ref T == Value.none) = true) from by simp)]
        have fin : wpAny (model X.prog X.w) X.A (setFlight (.ref a) X.env.frame) (fun _ s4 => wpAny (model X.prog X.w) X.A (throw (.ref a) : Sem Flow) (SP X pins D) X.xe s4) X.xe { s' with heap := h3 } := by
          rw [hf]
          refine HandSPX.setFlight_upZ fl3 fun h4 hh4 up4 => wpAny_throw (tk _ _ ?_)
          exact ⟨a, B, sI, pins, σ', H', cls, d, rfl, J, nb, (up.trans up3).trans up4, .inr (.inr (by rw [hs]; exact hh4)), na, os, ag, w⟩
        first
          | exact wpAny_bind (wpAny_pure (wpAny_bind fin))
          | exact wpAny_bind fin
      | @one x c ts b₀ suite np' pos' hds2 l2 hc hsu r ih =>
        intro w
        obtain ⟨b, hb1, hyes, hno⟩ := w
        refine wpAny_handleBy_cons (codeAny_handlers_test ?_) (by intro q; cases q)
        have LM := PySem.W.exm_one (M := model X.prog X.w) (J3.kIn) LT hb1
        refine test hc (LM.here ?_)
        cases b with
        | true =>
          refine codeAny_handlers_suite ?_
          refine HandSPX.lands_againZ fl3 fun h4 fl4 up4 => ?_
          refine wpAny_mono ((hsu a (X.pn ++ pins)).run [] _ _ _ _ (tr fl4 up4) (hyes rfl a na)) (fun f s6 hsp => ?_) (fun _ _ z => False.elim z)
          cases f with
          | next =>
            obtain ⟨σ6, H6, S6, q6⟩ := hsp
            exact ⟨_, _, Inv.unsuiteT S6 ok, q6⟩
          | brk =>
            obtain ⟨σ6, H6, S6, q6⟩ := hsp
            exact ⟨_, _, Inv.unsuiteT S6 ok, q6⟩
          | cont =>
            obtain ⟨σ6, H6, S6, q6⟩ := hsp
            exact ⟨_, _, Inv.unsuiteT S6 ok, q6⟩
          | ret u =>
            obtain ⟨v6, σ6, H6, S6, r6, q6⟩ := hsp
            exact ⟨_, _, _, Inv.unsuiteT S6 ok, r6, q6⟩
        | false =>
          show wpAny _ X.A (handleBy (.ref a) X.env hds2) _ _ _
          exact ih (hno rfl)
      | @as_ x n c i ts b₀ suite np' pos' hds2 l2 hi hln hc hsu r ih =>
        intro w
        obtain ⟨b, hb1, hyes, hno⟩ := w
        have hloc : Loc X.env.scope n := .inl hln
        refine wpAny_handleBy_cons (codeAny_handlers_test ?_) (by intro q; cases q)
        have LM := PySem.W.exm_one (M := model X.prog X.w) (J3.kIn) LT hb1
        refine test hc (LM.here ?_)
        cases b with
        | true =>
          refine codeAny_handlers_suite_as ?_
          refine HandSPX.lands_againZ fl3 fun h4 fl4 up4 => ?_
          refine store_ok (X := X.suite a (X.pn ++ pins)) (v := .ref a) (tr fl4 up4) hN hi hloc rfl (fun s5 S5 => ?_) (.inr hln)
          refine wpAny_mono ((hsu a (X.pn ++ pins)).run [] s5 _ _ _ S5 (hyes rfl a na)) (fun f s6 hsp => ?_) (fun _ _ z => False.elim z)
          have end_ : ∀ {σ6 : L2.St} {H6 : Hp} {Q : Shared → Prop}, Inv (X.suite a (X.pn ++ pins)) [] σ6 H6 s6 → (∀ s7, Inv X pins (σ6.set i none) H6 s7 → Q s7) →
              wpAny (model X.prog X.w) X.A (do bindName X.env n .none; unbindBehindTheSuite X.env n pos') (fun _ s7 => Q s7) X.xe s6 := fun {σ6 H6 Q} S6 hq => gone_ok (Inv.unsuiteT S6 ok) hN hi hln hq
          cases f with
          | next =>
            obtain ⟨σ6, H6, S6, q6⟩ := hsp
            exact end_ S6 fun s7 J7 => ⟨_, _, J7, q6⟩
          | brk =>
            obtain ⟨σ6, H6, S6, q6⟩ := hsp
            exact end_ S6 fun s7 J7 => ⟨_, _, J7, q6⟩
          | cont =>
            obtain ⟨σ6, H6, S6, q6⟩ := hsp
            exact end_ S6 fun s7 J7 => ⟨_, _, J7, q6⟩
          | ret u =>
            obtain ⟨v6, σ6, H6, S6, r6, q6⟩ := hsp
            exact end_ S6 fun s7 J7 => ⟨_, _, _, J7, r6, q6⟩
        | false =>
          show wpAny _ X.A (handleBy (.ref a) X.env hds2) _ _ _
          exact ih (hno rfl)
    exact go hh w
  · cases f with
    | next =>
      obtain ⟨σ', H', J', q⟩ := hsp
      exact wpAny_execs_nil ⟨σ', H', J'.ofTry ok, q⟩
    | brk =>
      obtain ⟨σ', H', J', q⟩ := hsp
      exact ⟨σ', H', J'.ofTry ok, q⟩
    | cont =>
      obtain ⟨σ', H', J', q⟩ := hsp
      exact ⟨σ', H', J'.ofTry ok, q⟩
    | ret u =>
      obtain ⟨v, σ', H', J', r, q⟩ := hsp
      exact ⟨v, σ', H', J'.ofTry ok, r, q⟩
/-- the body a call alone -/
def tTryC (K : PySem.W.Frag) (sp : Sp) (Wout : WX) (l : List (Value × Option Nat × TS)) (t : TA) : TS := fun D σ H => t σ H fun vs H1 => sp vs H1 (fun _ H2 => D.nx σ H2) fun cls d H2 => wMix K Wout D l cls d σ H2
theorem ps_tryC {k : Nat} {x : Str} {ps : List Str} {sp : Sp} {e : Expr} {es : List Expr} {t : TA} {p pos1 pos2 : Pos} (hs : X.stack = X.env :: X.outer) (hf : X.env.frame = some X.env.locals) (hex : X.ex = []) (hN : X.N.Nodup) (tk : Takes X Wout)
    (O : OwnX X.prog X.w X.K X.mg X.base k x ps sp) (hr : Room k X.A) (hg : Gl X x) (ha : ∀ (pn : List (Addr × Obj)) (xe : Value → Shared → Prop), PA (X.tr pn xe) (e :: es) t) (hh : HdsM X (h₀ :: hds) l) (hdb : (x == ("__debug__" : Str)) = false := by decide)
    (he : starEach (e :: es) X.env = (false, eval e X.env) :: starEach es X.env := by rfl) (hpl : (backTo pos1 (starEach es X.env)).any (·.1) = false := by rfl) (hsw : swapsWith (.Call (.Name x p) (e :: es) [] pos1) none pos2.line X.env = pure false := by rfl) :
    PS X (.Try [.Expr (.Call (.Name x p) (e :: es) [] pos1) pos2] (h₀ :: hds) [] [] pos) (tTryC X.K sp Wout l t) :=
  ps_tryM (tb := fun W => tDrop (tCallS sp (WE W) t)) hs hf hex hN tk (fun W pn xe tk _ => pss_one (ps_expr (pe_ownS (X := X.tr pn xe) O hr hg tk (ha pn xe) hdb he hpl) hsw)) hh
/-- the body a returned call alone -/
def tTryR (K : PySem.W.Frag) (sp : Sp) (Wout : WX) (l : List (Value × Option Nat × TS)) (t : TA) : TS := fun D σ H => t σ H fun vs H1 => sp vs H1 D.rt fun cls d H2 => wMix K Wout D l cls d σ H2
theorem ps_tryR {k : Nat} {x : Str} {ps : List Str} {sp : Sp} {e : Expr} {es : List Expr} {t : TA} {p pos1 pos2 : Pos} (hs : X.stack = X.env :: X.outer) (hf : X.env.frame = some X.env.locals) (hex : X.ex = []) (hN : X.N.Nodup) (tk : Takes X Wout)
    (O : OwnX X.prog X.w X.K X.mg X.base k x ps sp) (hr : Room k X.A) (hg : Gl X x) (ha : ∀ (pn : List (Addr × Obj)) (xe : Value → Shared → Prop), PA (X.tr pn xe) (e :: es) t) (hh : HdsM X (h₀ :: hds) l) (hdb : (x == ("__debug__" : Str)) = false := by decide)
    (he : starEach (e :: es) X.env = (false, eval e X.env) :: starEach es X.env := by rfl) (hpl : (backTo pos1 (starEach es X.env)).any (·.1) = false := by rfl) :
    PS X (.Try [.Return (some (.Call (.Name x p) (e :: es) [] pos1)) pos2] (h₀ :: hds) [] [] pos) (tTryR X.K sp Wout l t) :=
  ps_tryM (tb := fun W => tRet (tCallS sp (WE W) t)) hs hf hex hN tk (fun W pn xe tk _ => pss_one (ps_ret (pe_ownS (X := X.tr pn xe) O hr hg tk (ha pn xe) hdb he hpl))) hh
end
end Lg

/-! sorted of triples of ints; ranks; what a walk over a dict's keys lists. -/
namespace Lg
open PySem PySem.Spec PyProof.Rows L2
abbrev I3 := Int × Int × Int
def lexT (p q : I3) : Bool := if p.1 = q.1 then (if p.2.1 = q.2.1 then decide (p.2.2 < q.2.2) else decide (p.2.1 < q.2.1)) else decide (p.1 < q.1)
theorem lexT_iff {p q : I3} : lexT p q = true ↔ p.1 < q.1 ∨ (p.1 = q.1 ∧ (p.2.1 < q.2.1 ∨ (p.2.1 = q.2.1 ∧ p.2.2 < q.2.2))) := by
  unfold lexT
  by_cases e : p.1 = q.1
  · rw [if_pos e]
    by_cases e2 : p.2.1 = q.2.1
    · rw [if_pos e2, decide_eq_true_eq]
      omega
    · rw [if_neg e2, decide_eq_true_eq]
      omega
  · rw [if_neg e, decide_eq_true_eq]
    omega
theorem lexT_no {p q : I3} : lexT p q = false ↔ ¬ (p.1 < q.1 ∨ (p.1 = q.1 ∧ (p.2.1 < q.2.1 ∨ (p.2.1 = q.2.1 ∧ p.2.2 < q.2.2)))) := by
  rw [← lexT_iff]
  cases lexT p q <;> simp
theorem swoT {α : Type} (k : α → I3) : SrtO.Swo fun v u => lexT (k v) (k u) := by
  refine ⟨fun x y h => ?_, fun x y z h1 h2 => ?_⟩
  · refine lexT_no.mpr fun h' => ?_
    have h := lexT_iff.mp h
    omega
  · have a := lexT_no.mp h1
    have b := lexT_no.mp h2
    refine lexT_no.mpr fun h' => ?_
    omega
/-- v is a triple of ints -/
def IsT3 (h : Heap) (v : Value) (x : I3) : Prop := ∃ a o t u r n, v = .ref a ∧ h.get? a = some o ∧ o.cls = .type "tuple" ∧ o.data = .seq #[.int x.1 t, .int x.2.1 u, .int x.2.2 r] n
theorem IsT3.keeps {h h' : Heap} {v : Value} {x : I3} (p : IsT3 h v x) (k : ∀ b o, h.get? b = some o → o.cls = .type "tuple" → h'.get? b = some o) : IsT3 h' v x :=
  let ⟨a, o, t, u, r, n, e, ho, hc, hd⟩ := p
  ⟨a, o, t, u, r, n, e, k _ _ ho hc, hc, hd⟩
theorem firstsT3 {h : Heap} : ∀ {vs : List Value}, (∀ v ∈ vs, ∃ x, IsT3 h v x) → ∃ fs : List Value, PySem.W.KatTups h vs fs ∧ fs.length = vs.length ∧ ∀ f ∈ fs, ∃ x t, f = Value.int x t
  | [], _ => ⟨[], PySem.W.KatTups.nil, rfl, fun _ hm => by simp at hm⟩
  | v :: vs, hp => by
    obtain ⟨fs, h1, h2, h3⟩ := firstsT3 (vs := vs) fun v' hm => hp v' (List.mem_cons_of_mem _ hm)
    obtain ⟨x, a, o, t, u, r, n, rfl, ho, hc, hd⟩ := hp v List.mem_cons_self
    refine ⟨.int x.1 t :: fs, ?_, congrArg (· + 1) h2, fun f hm => ?_⟩
    · exact PySem.W.KatTups.cons ho hc hd rfl h1
    · rcases List.mem_cons.mp hm with rfl | hm
      · exact ⟨x.1, t, rfl⟩
      · exact h3 f hm
section
variable {prog : Program} {w : World} {A : Around} {s : Shared}
theorem cmpT3 {vs : List Value} {k : Value → I3} (hp : ∀ v ∈ vs, IsT3 s.heap v (k v)) :
    SrtO.Cmp prog w A s (tuples' true) (fun p => p.1 ∈ vs) (SrtO.lt2 fun v u => lexT (k v) (k u)) := by
  intro p q hm hm'
  have h1 := hp _ hm
  have h2 := hp _ hm'
  show wpAny (model prog w) A (keyLt' (tuples' true) p.1 q.1) (fun r s' => s' = s ∧ r = lexT (k p.1) (k q.1)) (fun _ _ => False) s
  generalize k p.1 = kp at h1 ⊢
  generalize k q.1 = kq at h2 ⊢
  obtain ⟨x, y, z⟩ := kp
  obtain ⟨x', y', z'⟩ := kq
  obtain ⟨a, o, t, u, r, n, e, ho, hc, hd⟩ := h1
  obtain ⟨a', o', t', u', r', n', e', ho', hc', hd'⟩ := h2
  rw [e, e']
  refine PySem.W.kat_lt ho hd ho' hd' ?_
  show PySem.W.KatLex prog w A true (decide (3 < 3)) _ [(.int x t, .int x' t'), (.int y u, .int y' u'), (.int z r, .int z' r')] 0 s
  refine PySem.W.kat_cons (wpAny_eqBool_int ?_)
  refine PySem.W.kat_go (fun e1 => ?_) (fun e1 => ?_)
  · have ex : x = x' := by simpa using e1
    subst ex
    refine PySem.W.kat_yes (PySem.W.kat_cons (wpAny_eqBool_int ?_))
    refine PySem.W.kat_go (fun e2 => ?_) (fun e2 => ?_)
    · have ey : y = y' := by simpa using e2
      subst ey
      refine PySem.W.kat_yes (PySem.W.kat_cons (wpAny_eqBool_int ?_))
      refine PySem.W.kat_go (fun e3 => ?_) (fun e3 => ?_)
      · have ez : z = z' := by simpa using e3
        subst ez
        refine PySem.W.kat_yes (PySem.W.kat_nil ⟨rfl, (lexT_no.mpr fun h => ?_).symm⟩)
        dsimp only at h
        omega
      · have ez : ¬ z = z' := by simpa using e3
        refine PySem.W.kat_no (PyProof.Rows.oneLt_any_int ⟨rfl, ?_⟩)
        simp [lexT]
    · have ey : ¬ y = y' := by simpa using e2
      refine PySem.W.kat_no (PyProof.Rows.oneLt_any_int ⟨rfl, ?_⟩)
      simp [lexT, ey]
  · have ex : ¬ x = x' := by simpa using e1
    refine PySem.W.kat_no (PyProof.Rows.oneLt_any_int ⟨rfl, ?_⟩)
    simp [lexT, ex]
theorem sortableT3 {a : Addr} {vs : List Value} {k : Value → I3} (h0 : 0 < vs.length) (hp : ∀ v ∈ vs, IsT3 s.heap v (k v))
    (ha : ∀ o, s.heap.get? a = some o → o.cls ≠ .type "tuple") : SrtO.SortableO prog w A s a vs fun v u => lexT (k v) (k u) := by
  intro h' keep
  have hp' : ∀ v ∈ vs, IsT3 h' v (k v) := fun v hm => (hp v hm).keeps fun b o e c => keep b o (fun z => by subst z; exact ha o e c) e
  obtain ⟨fs, h1, h2, h3⟩ := firstsT3 fun v hm => ⟨_, hp' v hm⟩
  refine ⟨tuples' true, fun Q E hq => ?_, cmpT3 hp'⟩
  refine PySem.W.kat_kind (T := .type "int") h1 (by omega) (fun f hm => ?_) (by rfl) ?_
  · obtain ⟨x, t, rfl⟩ := h3 f hm
    exact PySem.W.Looks.now
  · rw [show (Value.type "int" != Value.type "tuple") = true from by first | decide +kernel | rfl]
    exact hq
end
section
variable {X : Cx}
abbrev ltT (k : V → I3) (x y : V) : Bool := lexT (k x) (k y)
/-- sorted(xs) of triples of ints: a new list, sorted -/
def rSortedT3 (K : PySem.W.Frag) : List V → Hp → VK → Prop := fun vs H Q => ∃ (a : Addr) (xs : List V) (k : V → I3), vs = [V.ref a] ∧ SqL K H a xs ∧
  (∀ x ∈ xs, ∃ t, x = V.ref t ∧ H t = some (.tup [.int (k x).1, .int (k x).2.1, .int (k x).2.2])) ∧
  ∀ ys p, SrtO.Srtd (ltT k) ys → ys.Perm xs → H p = none → Q (.ref p) (upd H p (.lst ys))
theorem cr_sortedT3 : CallR X (.builtin "sorted") (rSortedT3 X.K) := by
  intro pins s σ H vs us Q I r h
  obtain ⟨a, xs, k, rfl, hs, hx, q⟩ := h
  obtain ⟨its, rv, hl, hz⟩ := I.list hs
  obtain ⟨u, rfl, ru⟩ := vals1 r
  obtain rfl : u = Value.ref a := ru
  obtain ⟨e1, e2⟩ := refs_back rv fun x m => let ⟨t, e, _⟩ := hx x m; ⟨t, e⟩
  have hp : ∀ v ∈ its, IsT3 s.heap v (k (backV v)) := fun v hv => by
    obtain ⟨t, rfl⟩ := e2 v hv
    have hm : V.ref t ∈ xs := by rw [e1]; exact List.mem_map.mpr ⟨_, hv, rfl⟩
    obtain ⟨t', e, ht⟩ := hx _ hm
    cases e
    obtain ⟨_, its2, r2, o, ho, hc, n, hd⟩ := I.hok _ _ ht
    cases r2 with
    | cons ri r2 =>
    cases r2 with
    | cons rj r2 =>
    cases r2 with
    | cons rk r2 =>
    cases r2
    obtain ⟨t1, rfl⟩ := ri
    obtain ⟨t2, rfl⟩ := rj
    obtain ⟨t3, rfl⟩ := rk
    exact ⟨t, o, t1, t2, t3, n, rfl, ho, hc, hd⟩
  refine SrtO.sorted_ord (swoT fun v => k (backV v)) hl.isList (by rw [← rv.length]; exact hz) (fun h2 h₁ b hb kk => ?_) fun out h1 h2 => ?_
  · refine sortableT3 (s := { s with heap := h₁ }) (by omega) (fun v hm => (hp v hm).keeps fun c o e _ => (kk c o e).2) fun o e => ?_
    cases (show some o = some (seqObj "list" its.toArray 0) from e.symm.trans hb)
    exact fun c => absurd (Value.type.inj c) (by decide)
  · have h3 : ∀ u ∈ out, ∃ a, u = Value.ref a := fun u hu => e2 u (h2.perm.mem_iff.mp hu)
    have hb : SrtO.Stb (ltT k) (out.map backV) xs := by
      rw [e1]
      exact SrtO.Stb.map (swoT k) backV h2
    obtain ⟨n, hn⟩ := sortedAll_at s.heap its out.toArray
    refine ⟨.ref _, upd H _ (.lst (out.map backV)), I.laid (t' := s.toks) (fun b o e => sortedAll_old e) (Nat.le_succ _) ⟨?_, out, n, vals_back h3, hn⟩, rfl, q _ _ (SrtO.srtd_map h1) hb.perm (I.hok.fresh (Nat.le_succ _))⟩
    rw [hb.len]
    exact hz
end

/-! ### ranks -/
/-- the places, the last one of each value -/
def ddf (f : Int → Int) : List Int → List Int
  | [] => []
  | a :: l => if l.any (fun b => f b == f a) = true then ddf f l else a :: ddf f l
theorem ddf_sub {f : Int → Int} : ∀ {l : List Int} {q : Int}, q ∈ ddf f l → q ∈ l
  | a :: l, q, h => by
    unfold ddf at h
    split at h
    · exact List.mem_cons_of_mem _ (ddf_sub h)
    · rcases List.mem_cons.mp h with rfl | h
      · exact List.mem_cons_self
      · exact List.mem_cons_of_mem _ (ddf_sub h)
theorem ddf_mem {f : Int → Int} : ∀ {l : List Int} {q : Int}, q ∈ l → ∃ b ∈ ddf f l, f b = f q
  | a :: l, q, h => by
    unfold ddf
    by_cases c : l.any (fun b => f b == f a) = true
    · rw [if_pos c]
      rcases List.mem_cons.mp h with rfl | h
      · obtain ⟨b, hb, e⟩ := List.any_eq_true.mp c
        obtain ⟨d, hd, e2⟩ := ddf_mem (f := f) hb
        exact ⟨d, hd, e2.trans (by simpa using e)⟩
      · exact ddf_mem h
    · rw [if_neg c]
      rcases List.mem_cons.mp h with rfl | h
      · exact ⟨_, List.mem_cons_self, rfl⟩
      · obtain ⟨d, hd, e⟩ := ddf_mem (f := f) h
        exact ⟨d, List.mem_cons_of_mem _ hd, e⟩
theorem ddf_nd {f : Int → Int} : ∀ {l : List Int}, ((ddf f l).map f).Nodup
  | [] => List.nodup_nil
  | a :: l => by
    unfold ddf
    by_cases c : l.any (fun b => f b == f a) = true
    · rw [if_pos c]
      exact ddf_nd
    · rw [if_neg c, List.map_cons]
      refine List.nodup_cons.mpr ⟨fun h => c ?_, ddf_nd⟩
      obtain ⟨b, hb, e⟩ := List.mem_map.mp h
      exact List.any_eq_true.mpr ⟨b, ddf_sub hb, by simpa using e⟩
/-- how many unlike values stand below that of p -/
def rnk (P : List Int) (f : Int → Int) (p : Int) : Nat := ((ddf f P).filter fun q => decide (f q < f p)).length
theorem rnk_eq {P : List Int} {f : Int → Int} {p : Int} {L : List Int} (nd : L.Nodup) (h : ∀ v, v ∈ L ↔ v < f p ∧ ∃ q ∈ P, f q = v) : L.length = rnk P f p := by
  have nd2 : (((ddf f P).filter fun q => decide (f q < f p)).map f).Nodup := (ddf_nd (f := f) (l := P)).sublist ((List.filter_sublist ..).map f)
  have e := ((List.perm_ext_iff_of_nodup nd nd2).mpr fun v => ?_).length_eq
  · rw [e, List.length_map]
    rfl
  · rw [h, List.mem_map]
    constructor
    · rintro ⟨h1, q, hq, rfl⟩
      obtain ⟨b, hb, e⟩ := ddf_mem (f := f) hq
      exact ⟨b, List.mem_filter.mpr ⟨hb, by rw [decide_eq_true_iff, e]; exact h1⟩, e⟩
    · rintro ⟨b, hb, rfl⟩
      obtain ⟨h1, h2⟩ := List.mem_filter.mp hb
      exact ⟨of_decide_eq_true h2, b, ddf_sub h1, rfl⟩
theorem rnk_le (P : List Int) (f : Int → Int) (p : Int) : rnk P f p ≤ P.length := by
  refine Nat.le_trans (List.length_filter_le _ _) ?_
  have : ∀ l : List Int, (ddf f l).length ≤ l.length := fun l => by
    induction l with
    | nil => exact Nat.le_refl _
    | cons a l ih =>
      unfold ddf
      split
      · rw [List.length_cons]
        omega
      · rw [List.length_cons, List.length_cons]
        omega
  exact this P
theorem rnk_lt {P : List Int} {f : Int → Int} {p q : Int} (hp : p ∈ P) (h : f p < f q) : rnk P f p < rnk P f q := by
  obtain ⟨b, hb, e⟩ := ddf_mem (f := f) hp
  have nd : (ddf f P).Nodup := (List.pairwise_map.mp ddf_nd).imp fun h e => h (congrArg f e)
  have := nodup_le (L := b :: (ddf f P).filter fun z => decide (f z < f p)) (M := (ddf f P).filter fun z => decide (f z < f q)) (List.nodup_cons.mpr ⟨fun hm => by
    have h2 := of_decide_eq_true (List.mem_filter.mp hm).2
    omega, nd.filter _⟩) fun k hk => by
    rcases List.mem_cons.mp hk with rfl | hk
    · exact List.mem_filter.mpr ⟨hb, decide_eq_true (by omega)⟩
    · obtain ⟨h1, h2⟩ := List.mem_filter.mp hk
      have h2 := of_decide_eq_true h2
      exact List.mem_filter.mpr ⟨h1, decide_eq_true (by omega)⟩
  rw [List.length_cons] at this
  exact this
/-- two numberings of one order -/
def Pat (P : List Int) (f g : Int → Int) : Prop := ∀ p ∈ P, ∀ q ∈ P, f p < f q ↔ g p < g q
theorem Pat.eq {P : List Int} {f g : Int → Int} (h : Pat P f g) {p q : Int} (hp : p ∈ P) (hq : q ∈ P) : f p = f q ↔ g p = g q := by
  have h1 := h p hp q hq
  have h2 := h q hq p hp
  omega
theorem Pat.symm {P : List Int} {f g : Int → Int} (h : Pat P f g) : Pat P g f := fun p hp q hq => (h p hp q hq).symm
theorem Pat.rank {P : List Int} {f : Int → Int} : Pat P f fun p => (rnk P f p : Int) := fun p hp q hq => by
  constructor
  · intro h
    have := rnk_lt hp h
    show (rnk P f p : Int) < (rnk P f q : Int)
    omega
  · intro h
    have h : (rnk P f p : Int) < (rnk P f q : Int) := h
    rcases Int.lt_trichotomy (f p) (f q) with c | c | c
    · exact c
    · exfalso
      unfold rnk at h
      rw [c] at h
      omega
    · have := rnk_lt hq c
      omega
theorem ddf_congr {f g : Int → Int} : ∀ {l : List Int}, (∀ p ∈ l, ∀ q ∈ l, f p = f q ↔ g p = g q) → ddf f l = ddf g l
  | [], _ => rfl
  | a :: l, h => by
    have ih := ddf_congr (l := l) fun p hp q hq => h p (List.mem_cons_of_mem _ hp) q (List.mem_cons_of_mem _ hq)
    have e : l.any (fun b => f b == f a) = l.any fun b => g b == g a := by
      rw [Bool.eq_iff_iff, List.any_eq_true, List.any_eq_true]
      refine ⟨fun ⟨b, hb, e⟩ => ⟨b, hb, ?_⟩, fun ⟨b, hb, e⟩ => ⟨b, hb, ?_⟩⟩
      · rw [beq_iff_eq] at e ⊢
        exact (h b (List.mem_cons_of_mem _ hb) a List.mem_cons_self).mp e
      · rw [beq_iff_eq] at e ⊢
        exact (h b (List.mem_cons_of_mem _ hb) a List.mem_cons_self).mpr e
    unfold ddf
    rw [e, ih]
theorem rnk_congr {P : List Int} {f g : Int → Int} (h : Pat P f g) {p : Int} (hp : p ∈ P) : rnk P f p = rnk P g p := by
  unfold rnk
  rw [ddf_congr fun a ha b hb => h.eq ha hb]
  congr 1
  refine List.filter_congr fun q hq => ?_
  rw [Bool.eq_iff_iff, decide_eq_true_iff, decide_eq_true_iff]
  exact h q (ddf_sub hq) p hp
theorem Pat.shift {P : List Int} {f : Int → Int} {c : Int} : Pat P f fun p => f p + c := fun p _ q _ => by
  show f p < f q ↔ f p + c < f q + c
  omega
theorem mem_upsP {P : List Int} {Bs : List (Int × Int)} (he : ∀ b ∈ Bs, b.1 ∈ P ∧ b.2 ∈ P) {p u : Int} (h : u ∈ upsOf Bs p) : u ∈ P := (he (u, p) (mem_ups.mp h)).1
theorem mem_downsP {P : List Int} {Bs : List (Int × Int)} (he : ∀ b ∈ Bs, b.1 ∈ P ∧ b.2 ∈ P) {p u : Int} (h : u ∈ downsOf Bs p) : u ∈ P := (he (p, u) (mem_downs.mp h)).2
theorem mfD_pat {P : List Int} {Bs : List (Int × Int)} {f g : Int → Int} (h : Pat P f g) (he : ∀ b ∈ Bs, b.1 ∈ P ∧ b.2 ∈ P) : mfD P Bs f = mfD P Bs g := by
  have e1 : Bs.filter (backB Bs f) = Bs.filter (backB Bs g) := List.filter_congr fun b hb => by
    obtain ⟨h1, h2⟩ := he b hb
    unfold backB
    congr 1
    · rw [Bool.eq_iff_iff, decide_eq_true_iff, decide_eq_true_iff]
      exact h _ h2 _ h1
    · congr 1
      rw [Bool.eq_iff_iff, decide_eq_true_iff, decide_eq_true_iff]
      exact h.eq h1 h2
  have e2 : P.filter (giftB Bs f) = P.filter (giftB Bs g) := List.filter_congr fun p hp => by
    unfold giftB
    rw [count_map, count_map]
    congr 4
    refine List.filter_congr fun u hu => ?_
    rw [Bool.eq_iff_iff, beq_iff_eq, beq_iff_eq]
    exact h.eq (mem_upsP he hu) hp
  have e3 : P.filter (lateB Bs f) = P.filter (lateB Bs g) := List.filter_congr fun p hp => by
    unfold lateB
    congr 1
    rw [Bool.eq_iff_iff, List.all_eq_true, List.all_eq_true]
    refine forall_congr' fun c => ⟨fun k hc => ?_, fun k hc => ?_⟩ <;> have := k hc <;> rw [decide_eq_true_iff] at this ⊢ <;> have := h p hp c (mem_downsP he hc) <;> omega
  unfold mfD mfinds
  rw [e1, e2, e3]

/-! ### [.. for p in d], {.. for i, m in enumerate(l)} -/
theorem lc_keysM {td te : TE} {ip : Nat} {D : Addr} {P : List Int} {kvs : List (Key × V)} {vs : List Nat} {σ : L2.St} {H : Hp} {Q : VK} (hD : H D = some (.dK kvs)) (hk : kvs.map (·.1) = P.map (Sum.inl : Int → Key)) (val : Int → Int) (hn : P.length < sizeLine)
    (htd : ∀ (od : Obj) (R : V → Hp → Prop), R (.ref D) (upd H D (.frz od (.dK kvs))) → td σ (upd H D (.frz od (.dK kvs))) R)
    (hw : ∀ v, wipe ((wipe σ vs).set ip (some v)) vs = wipe σ vs)
    (hs : ∀ p ∈ P, ∀ (od : Obj) (H1 : Hp) (A : VK), Same (upd H D (.frz od (.dK kvs))) H1 → (∀ H4, Same H1 H4 → A (.int (val p)) H4) → te ((wipe σ vs).set ip (some (.int p))) H1 A)
    (hd : ∀ R H', H R = none → Same H H' → H' R = some (.lst ((P.map val).map V.int)) → Q (.ref R) H') : tLockE (tLc (iKeys td) (gName ip) tYes te vs) σ H Q := by
  have hl : kvs.length = P.length := by
    have := congrArg List.length hk
    rwa [List.length_map, List.length_map] at this
  refine ⟨D, _, hD, trivial, fun od => htd od _ ⟨D, od, rfl, .inl ⟨_, upd_same, ?_⟩⟩⟩
  show tLc (fun _ H R => R (Itk D od kvs) H) (gName ip) tYes te vs σ (upd H D (.frz od (.dK kvs))) (fun v H' => H' D = some (.frz od (.dK kvs)) ∧ Q v (upd H' D (.dK kvs)))
  refine lc_map (walk_keys (d := D) (o := od) (kvs := kvs)) ((P.map val).map V.int) (by rw [List.length_map, List.length_map, hl]) (by rw [hl]; exact hn) (fun H' sm => sm _ _ upd_same) ?_ ?_
  · rintro i x H1 H2 N A z hz sm ⟨rfl, k, v, hkv, rfl⟩ hA
    obtain ⟨p, hp, rfl⟩ : ∃ p, P[i]? = some p ∧ (.inl p : Key) = k := by
      have := congrArg (fun l => l[i]?) hk
      simp only [List.getElem?_map, hkv, Option.map_some] at this
      obtain ⟨p, h1, h2⟩ := Option.map_eq_some_iff.mp this.symm
      exact ⟨p, h1, h2⟩
    rw [List.getElem?_map, List.getElem?_map, hp] at hz
    cases hz
    exact ⟨hw _, hs p (List.mem_of_getElem? hp) od _ _ sm hA⟩
  · intro R H' nR sm e
    have nRD : R ≠ D := fun z => by rw [z, upd_same] at nR; cases nR
    refine ⟨sm _ _ upd_same, hd R _ (by rw [upd_ne nRD] at nR; exact nR) (fun b o eb => ?_) (by rw [upd_ne nRD]; exact e)⟩
    by_cases hb : b = D
    · subst hb
      rw [hD] at eb
      rw [upd_same]
      exact eb
    · rw [upd_ne hb]
      exact sm _ _ (by rw [upd_ne hb]; exact eb)
/-- {m: i for i, m in enumerate(l)} -/
theorem dc_enum {K : PySem.W.Frag} {ta : TA} {tk tv : TE} {ii im : Nat} {a : Addr} {M : List Int} {vs : List Nat} {σ : L2.St} {H : Hp} {Q : VK} (hta : ∀ R : List V → Hp → Prop, R [.ref a] H → ta σ H R) (ea : H a = some (.lst (M.map V.int))) (nd : M.Nodup) (hn : M.length < sizeLine)
    (hw : ∀ u v, wipe ((((wipe σ vs).set ii (some u)).set im (some v))) vs = wipe σ vs)
    (hs : ∀ (i : Nat) (m : Int) (H1 : Hp) (B : V → V → Hp → Prop), B (.int m) (.int (i : Int)) H1 → tk (((wipe σ vs).set ii (some (.int (i : Int)))).set im (some (.int m))) H1 fun y H2 => tv (((wipe σ vs).set ii (some (.int (i : Int)))).set im (some (.int m))) H2 fun v H3 => B y v H3)
    (hd : ∀ D H', H D = none → Same H H' → H' D = some (dIs M fun m => (M.idxOf m : Int)) → Q (.ref D) H') : tDc (iEnum K ta) (gTup K 2 (gCons (gName ii) (gCons (gName im) gNil))) tYes tk tv vs σ H Q := by
  refine hta _ ⟨a, _, rfl, .of ea, ?_⟩
  show tDc (fun _ H R => R (Ite K a) H) (gTup K 2 (gCons (gName ii) (gCons (gName im) gNil))) tYes tk tv vs σ H Q
  refine dc_map (walk_enum (xs := M.map V.int)) (M.map fun m => ((.inl m : Key), V.int (M.idxOf m : Int))) (by rw [List.length_map, List.length_map]) ?_ (by rw [List.length_map]; exact hn) (fun H' sm => .of (sm _ _ ea)) ?_ hd
  · rw [List.map_map]
    exact List.pairwise_map.mpr (nd.imp fun h e => h (Sum.inl.inj e))
  · rintro i x H1 H2 N B z hz sm ⟨T, u, v, rfl, nT, rfl, h1, h2⟩ hB
    cases h1
    dsimp only at h2
    rw [List.getElem?_map] at h2
    obtain ⟨m, hm, rfl⟩ := Option.map_eq_some_iff.mp h2
    rw [List.getElem?_map, hm] at hz
    cases hz
    have ei : M.idxOf m = i := by
      obtain ⟨h3, h4⟩ := List.getElem?_eq_some_iff.mp hm
      rw [← h4]
      exact nd.idxOf_getElem i h3
    dsimp only at hB
    rw [ei] at hB
    exact ⟨T, _, rfl, .of upd_same, rfl, _, _, rfl, _, _, rfl, rfl, hw _ _, hs i m _ _ (hB _ (same_new (Same.refl H1) nT))⟩
/-- the index of a value among the ascending ones is its rank -/
theorem idx_rnk {P M : List Int} {f : Int → Int} {p : Int} (hM : M.Pairwise (· < ·)) (hm : ∀ v, v ∈ M ↔ ∃ q ∈ P, f q = v) (hp : p ∈ P) : M.idxOf (f p) = rnk P f p := by
  have hin : f p ∈ M := (hm _).mpr ⟨p, hp, rfl⟩
  have hi : M.idxOf (f p) < M.length := List.idxOf_lt_length_of_mem hin
  have e : M[M.idxOf (f p)]'hi = f p := List.getElem_idxOf hi
  have key : (M.take (M.idxOf (f p))).length = rnk P f p := by
    refine rnk_eq ((hM.imp Int.ne_of_lt).sublist (List.take_sublist ..)) fun v => ?_
    constructor
    · intro hv
      refine ⟨?_, (hm v).mp (List.mem_of_mem_take hv)⟩
      obtain ⟨j, hj⟩ := List.mem_iff_getElem?.mp hv
      rw [List.getElem?_take] at hj
      split at hj
      · next c =>
        obtain ⟨h1, h2⟩ := List.getElem?_eq_some_iff.mp hj
        have := List.pairwise_iff_getElem.mp hM j _ h1 hi c
        rw [h2, e] at this
        exact this
      · cases hj
    · rintro ⟨h1, h2⟩
      obtain ⟨j, hj, ej⟩ := List.mem_iff_getElem.mp ((hm v).mpr h2)
      have c : j < M.idxOf (f p) := by
        rcases Nat.lt_or_ge j (M.idxOf (f p)) with c | c
        · exact c
        · exfalso
          rcases Nat.lt_or_eq_of_le c with c | c
          · have := List.pairwise_iff_getElem.mp hM _ j hi hj c
            rw [e, ej] at this
            omega
          · have : M[j]'hj = f p := by
              rw [← e]
              congr 1
              exact c.symm
            rw [ej] at this
            omega
      refine List.mem_iff_getElem?.mpr ⟨j, ?_⟩
      rw [List.getElem?_take, if_pos c, List.getElem?_eq_getElem hj, ej]
  rw [List.length_take] at key
  omega

/-! ### by time, then by mothers, then by place -/
theorem FitsC.lex {P : List Int} {As Bs : List (Int × Int)} {Ls : List (Int × Str)} {f : Int → Int} (h : FitsC P As f) (g : Good As Ls P) (hB : SrtA As Bs) {u p : Int} (hu : u ∈ upsOf Bs p) : f u < f p ∨ (f u = f p ∧ (upsOf Bs u).length < (upsOf Bs p).length) := by
  have ha := hB.1.mem_iff.mp (mem_ups.mp hu)
  rcases h.back _ ha with c | ⟨c, c2⟩
  · exact .inl c
  refine .inr ⟨c, ?_⟩
  rw [upsOf_up hB.1, upsOf_up hB.1, c2]
  have hup := (g.ends _ ha).1
  rcases g.deg u hup with ⟨_, _, d⟩ | ⟨_, ⟨d1, d2⟩ | ⟨_, d⟩⟩
  · omega
  · exfalso
    rcases h.late u hup with c3 | ⟨a, ha2, e, c4⟩
    · omega
    · have : a = (u, p) := by
        have h1 : (As.filter fun b => b.1 == u).length = 1 := by rw [← List.countP_eq_length_filter]; exact d1
        obtain ⟨z, hz⟩ := List.length_eq_one_iff.mp h1
        have k1 : a ∈ [z] := hz ▸ List.mem_filter.mpr ⟨ha2, by simpa using e⟩
        have k2 : (u, p) ∈ [z] := hz ▸ List.mem_filter.mpr ⟨ha, by simp⟩
        rw [List.mem_singleton.mp k1, List.mem_singleton.mp k2]
      rw [this] at c4
      have c : f u = f p := c
      have c4 : f u < f p := c4
      omega
  · omega
/-- what comes before in a sorted list -/
theorem srtd_before {α : Type} {lt : α → α → Bool} {l : List α} (irr : ∀ x, lt x x = false) (h : SrtO.Srtd lt l) {i : Nat} {x y : α} (hx : l[i]? = some x) (hy : y ∈ l) (c : lt y x = true) : y ∈ l.take i := by
  obtain ⟨j, hj, ej⟩ := List.mem_iff_getElem.mp hy
  obtain ⟨hi, ei⟩ := List.getElem?_eq_some_iff.mp hx
  have k : j < i := by
    rcases Nat.lt_or_ge j i with k | k
    · exact k
    · exfalso
      rcases Nat.lt_or_eq_of_le k with k | k
      · have := List.pairwise_iff_getElem.mp h i j hi hj k
        rw [ei, ej] at this
        rw [this] at c
        cases c
      · subst k
        rw [ei] at ej
        subst ej
        rw [irr] at c
        cases c
  refine List.mem_iff_getElem?.mpr ⟨j, ?_⟩
  rw [List.getElem?_take, if_pos k, List.getElem?_eq_getElem hj, ej]
end Lg

/-! New data of a dict's keys; triples in order; papers near good ones. -/
namespace Lg
open PySem PySem.Spec PyProof.Rows L2
mutual
/-- what is neither a list nor a tuple may change -/
theorem Da.ne {S : Av} {H : Hp} {l : Addr} {o : HO} (h1 : ∀ xs, H l ≠ some (.lst xs)) (h2 : ∀ xs, H l ≠ some (.tup xs)) : ∀ {v : V} {d : PyData}, Da S H v d → Da S (upd H l o) v d
  | _, _, .non => .non
  | _, _, .bl b => .bl b
  | _, _, .int i => .int i
  | _, _, .str x => .str x
  | _, _, .lst n e r => .lst n (by rw [upd_ne (fun z => by rw [z] at e; exact h1 _ e)]; exact e) (DaAll.ne h1 h2 r)
  | _, _, .tup n e r => .tup n (by rw [upd_ne (fun z => by rw [z] at e; exact h2 _ e)]; exact e) (DaAll.ne h1 h2 r)
theorem DaAll.ne {S : Av} {H : Hp} {l : Addr} {o : HO} (h1 : ∀ xs, H l ≠ some (.lst xs)) (h2 : ∀ xs, H l ≠ some (.tup xs)) : ∀ {vs : List V} {ds : List PyData}, DaAll S H vs ds → DaAll S (upd H l o) vs ds
  | _, _, .nil => .nil
  | _, _, .cons a r => .cons (Da.ne h1 h2 a) (DaAll.ne h1 h2 r)
end
theorem lc_keysD {td te : TE} {ip : Nat} {D : Addr} {P : List Int} {kvs : List (Key × V)} {S : Av} {vs : List Nat} {σ : L2.St} {H : Hp} {Q : VK} (hD : H D = some (.dK kvs)) (hk : kvs.map (·.1) = P.map (Sum.inl : Int → Key)) (al : Al S H) (dat : Int → PyData) (hn : P.length < sizeLine)
    (htd : ∀ (od : Obj) (R : V → Hp → Prop), R (.ref D) (upd H D (.frz od (.dK kvs))) → td σ (upd H D (.frz od (.dK kvs))) R)
    (hw : ∀ v, wipe ((wipe σ vs).set ip (some v)) vs = wipe σ vs)
    (hs : ∀ p ∈ P, ∀ (od : Obj) (H1 : Hp) (A : VK), Same (upd H D (.frz od (.dK kvs))) H1 → Al S H1 → (∀ v H5, Same H1 H5 → Da S H5 v (dat p) → (∀ D2, H1 D2 ≠ none → upd H D (.frz od (.dK kvs)) D2 = none → Da (addA S D2) H5 v (dat p)) → A v H5) → te ((wipe σ vs).set ip (some (.int p))) H1 A)
    (hd : ∀ R ys H', H R = none → Same H H' → ¬ S R → H' R = some (.lst ys) → DaAll S H' ys (P.map dat) → Q (.ref R) H') : tLockE (tLc (iKeys td) (gName ip) tYes te vs) σ H Q := by
  have hl : kvs.length = P.length := by
    have := congrArg List.length hk
    rwa [List.length_map, List.length_map] at this
  refine ⟨D, _, hD, trivial, fun od => htd od _ ⟨D, od, rfl, .inl ⟨_, upd_same, ?_⟩⟩⟩
  show tLc (fun _ H R => R (Itk D od kvs) H) (gName ip) tYes te vs σ (upd H D (.frz od (.dK kvs))) (fun v H' => H' D = some (.frz od (.dK kvs)) ∧ Q v (upd H' D (.dK kvs)))
  refine lc_itD (walk_keys (d := D) (o := od) (kvs := kvs)) (S := S) al.upd (P.map dat) (by rw [List.length_map, hl]) (by rw [hl]; exact hn) (fun H' sm => sm _ _ upd_same) ?_ ?_
  · rintro i x H1 H2 N A d hdi sm al1 ⟨rfl, k, v, hkv, rfl⟩ hA
    obtain ⟨p, hp, rfl⟩ : ∃ p, P[i]? = some p ∧ (.inl p : Key) = k := by
      have := congrArg (fun l => l[i]?) hk
      simp only [List.getElem?_map, hkv, Option.map_some] at this
      obtain ⟨p, h1, h2⟩ := Option.map_eq_some_iff.mp this.symm
      exact ⟨p, h1, h2⟩
    rw [List.getElem?_map, hp] at hdi
    cases hdi
    exact ⟨hw _, hs p (List.mem_of_getElem? hp) od _ _ sm al1 hA⟩
  · intro R ys H' nR sm fR e hys
    have nRD : R ≠ D := fun z => by rw [z, upd_same] at nR; cases nR
    have eD := sm _ _ upd_same
    refine ⟨eD, hd R ys _ (by rw [upd_ne nRD] at nR; exact nR) (fun b o eb => ?_) fR (by rw [upd_ne nRD]; exact e) (hys.ne (fun xs z => by rw [eD] at z; cases z) fun xs z => by rw [eD] at z; cases z)⟩
    by_cases hb : b = D
    · subst hb
      rw [hD] at eb
      rw [upd_same]
      exact eb
    · rw [upd_ne hb]
      exact sm _ _ (by rw [upd_ne hb]; exact eb)
/-! ### triples as data -/
abbrev td3 (t : I3) : PyData := .tuple [.int t.1, .int t.2.1, .int t.2.2]
def tripAt (H : Hp) : V → I3
  | .ref t => match H t with
    | some (.tup [.int a, .int b, .int c]) => (a, b, c)
    | _ => (0, 0, 0)
  | _ => (0, 0, 0)
theorem tripAt_eq {H : Hp} {t : Addr} {p : I3} (e : H t = some (.tup [.int p.1, .int p.2.1, .int p.2.2])) : tripAt H (.ref t) = p := by
  show (match H t with
    | some (HO.tup [V.int a, V.int b, V.int c]) => (a, b, c)
    | _ => (0, 0, 0)) = p
  rw [e]
theorem Da.td3 {S : Av} {H : Hp} {v : V} {p : I3} (h : Da S H v (td3 p)) : ∃ t, v = .ref t ∧ ¬ S t ∧ H t = some (.tup [.int p.1, .int p.2.1, .int p.2.2]) := by
  cases h with
  | tup n e r =>
    cases r with
    | cons h1 r =>
    cases r with
    | cons h2 r =>
    cases r with
    | cons h3 r =>
    cases r
    rw [h1.intV, h2.intV, h3.intV] at e
    exact ⟨_, rfl, n, e⟩
theorem da_td3 {S : Av} {H1 H5 : Hp} {t : Addr} {p : I3} (hS : Al S H1) (s : Same H1 H5) (n : H5 t = none) : Da S (upd H5 t (.tup [.int p.1, .int p.2.1, .int p.2.2])) (.ref t) (td3 p) ∧ ∀ D, H1 D ≠ none → Da (addA S D) (upd H5 t (.tup [.int p.1, .int p.2.1, .int p.2.2])) (.ref t) (td3 p) :=
  ⟨.tup ((hS.same s).free n) upd_same (.cons (.int _) (.cons (.int _) (.one (.int _)))), fun D hD => .tup (fun z => z.elim ((hS.same s).free n) fun e => hD (by rw [← e]; exact s.free n)) upd_same (.cons (.int _) (.cons (.int _) (.one (.int _))))⟩
/-- what sorted gives of a list of triples -/
theorem sorted_td3 {S : Av} {H : Hp} {xs ys : List V} {L : List I3} (h : DaAll S H xs (L.map td3)) (h1 : SrtO.Srtd (ltT (tripAt H)) ys) (h2 : ys.Perm xs) : ∃ M : List I3, M.Perm L ∧ SrtO.Srtd lexT M ∧ DaAll S H ys (M.map td3) := by
  have hx : xs.map (tripAt H) = L := by
    clear h1 h2
    induction L generalizing xs with
    | nil => cases h; rfl
    | cons p L ih =>
      cases h with
      | cons a r =>
        obtain ⟨t, rfl, _, e⟩ := a.td3
        rw [List.map_cons, ih r, tripAt_eq e]
  refine ⟨ys.map (tripAt H), hx ▸ h2.map _, ?_, ?_⟩
  · exact List.pairwise_map.mpr h1
  · refine daAll_of (tripAt H) td3 fun y hy => ?_
    obtain ⟨i, hi⟩ := List.mem_iff_getElem?.mp (h2.mem_iff.mp hy)
    obtain ⟨d, hd, hdy⟩ := h.get hi
    rw [List.getElem?_map] at hd
    obtain ⟨p, _, rfl⟩ := Option.map_eq_some_iff.mp hd
    obtain ⟨t, rfl, _, e⟩ := hdy.td3
    rw [tripAt_eq e]
    exact hdy
theorem DaAll.td3 {S : Av} {H : Hp} {ys : List V} {M : List I3} (h : DaAll S H ys (M.map Lg.td3)) {i : Nat} {v : V} (e : ys[i]? = some v) : ∃ p t, M[i]? = some p ∧ v = .ref t ∧ ¬ S t ∧ H t = some (.tup [.int p.1, .int p.2.1, .int p.2.2]) := by
  obtain ⟨d, hd, hdy⟩ := h.get e
  rw [List.getElem?_map] at hd
  obtain ⟨p, hp, rfl⟩ := Option.map_eq_some_iff.mp hd
  obtain ⟨t, e1, e2, e3⟩ := hdy.td3
  exact ⟨p, t, hp, e1, e2, e3⟩
theorem lexT_irr (x : I3) : lexT x x = false := lexT_no.mpr (by omega)
/-! ### a for over what an expression gives -/
theorem for_l_h {K : PySem.W.Frag} {te : TE} {g : TG} {ts : TS} {D : Ends} {σ : L2.St} {H : Hp} (h : te σ H fun x H1 => ∃ a, x = .ref a ∧ (∃ xs, SqL K H1 a xs) ∧ tFor (fun _ H R => R (Itl K a) H) g ts D σ H1) : tFor (iList K te) g ts D σ H := h
theorem seq_for_l {K : PySem.W.Frag} {te : TE} {g : TG} {ts u : TS} {D : Ends} {σ : L2.St} {H : Hp} (h : te σ H fun x H1 => ∃ a, x = .ref a ∧ (∃ xs, SqL K H1 a xs) ∧ tFor (fun _ H R => R (Itl K a) H) g ts { D with nx := u D } σ H1) : tSeq (tFor (iList K te) g ts) u D σ H := h
theorem lst_h {t : TA} {σ : L2.St} {H : Hp} {Q : VK} (h : t σ H fun xs H1 => xs.length ≤ sizeLine ∧ ∀ p, H1 p = none → Q (.ref p) (upd H1 p (.lst xs))) : tLst t σ H Q := h
theorem dd_pdN {n : Nat} (p : Int × Int) : Dd 5000 (n + 1) (pd p) := .tup (by show 2 ≤ 5000; decide) fun d hd => by
  simp only [List.mem_cons, List.not_mem_nil, or_false] at hd
  rcases hd with rfl | rfl
  · exact .int _ _
  · exact .int _ _
/-- one list of data: bounded depth -/
theorem dd_lstN {n : Nat} {ds : List PyData} (h : ds.length ≤ 5000) (hd : ∀ d ∈ ds, Dd 5000 n d) : Dd 5000 (n + 1) (.list ds) := .lst h hd
end Lg

/-! Tree arrows: those whose ends have unlike moments; the one above each place; what they reach. -/
namespace Lg
open PySem PySem.Spec PyProof.Rows L2
section
variable {P : List Int} {As Bs : List (Int × Int)} {Ls Ms : List (Int × Str)} {f : Int → Int}
theorem mfD_fits (h : mfD P Bs f = .none) : Fits P Bs f := by
  have e1 : Bs.filter (backB Bs f) = [] := by
    cases h1 : Bs.filter (backB Bs f) with
    | nil => rfl
    | cons b r =>
      have : mfD P Bs f = .tuple [.str "back", pd b] := by unfold mfD mfinds; rw [h1]; rfl
      rw [this] at h
      cases h
  have e2 : P.filter (giftB Bs f) = [] := by
    cases h1 : P.filter (giftB Bs f) with
    | nil => rfl
    | cons b r =>
      have : mfD P Bs f = .tuple [.str "gift", .int b] := by unfold mfD mfinds; rw [e1, h1]; rfl
      rw [this] at h
      cases h
  have e3 : P.filter (lateB Bs f) = [] := by
    cases h1 : P.filter (lateB Bs f) with
    | nil => rfl
    | cons b r =>
      have : mfD P Bs f = .tuple [.str "late", .int b] := by unfold mfD mfinds; rw [e1, e2, h1]; rfl
      rw [this] at h
      cases h
  exact ⟨fun b hb => by have := List.filter_eq_nil_iff.mp e1 b hb; simpa using this, fun b hb => by have := List.filter_eq_nil_iff.mp e2 b hb; simpa using this, fun b hb => by have := List.filter_eq_nil_iff.mp e3 b hb; simpa using this⟩
/-- the tree arrows -/
def TA (Bs : List (Int × Int)) (f : Int → Int) : List (Int × Int) := Bs.filter fun b => !decide (f b.1 = f b.2)
/-- the mother by the tree arrow -/
def tp (Bs : List (Int × Int)) (f : Int → Int) (p : Int) : Int := ((upsOf Bs p).filter fun u => !decide (f u = f p)).headD 0
/-- the first of the least -/
def bst (f : Int → Int) (l : List Int) : Option Int := l.foldl (fun o m => some (match o with | none => m | some b => if f m < f b then m else b)) none
theorem bst_snoc (l : List Int) (m : Int) : bst f (l ++ [m]) = some (match bst f l with | none => m | some b => if f m < f b then m else b) := by
  unfold bst
  rw [List.foldl_append]
  rfl
structure Tops (P : List Int) (Bs : List (Int × Int)) (f : Int → Int) : Prop where
  one : ∀ p ∈ P, upsOf Bs p ≠ [] → (upsOf Bs p).filter (fun u => !decide (f u = f p)) = [tp Bs f p]
  lt : ∀ p ∈ P, upsOf Bs p ≠ [] → f (tp Bs f p) < f p
  bst : ∀ p ∈ P, upsOf Bs p ≠ [] → bst f (upsOf Bs p) = some (tp Bs f p)
  mem : ∀ p ∈ P, upsOf Bs p ≠ [] → tp Bs f p ∈ upsOf Bs p
theorem Good.tops (g : Good As Ls P) (hB : SrtA As Bs) (F : Fits P Bs f) : Tops P Bs f := by
  have key : ∀ p ∈ P, upsOf Bs p ≠ [] → ∃ t, (upsOf Bs p).filter (fun u => !decide (f u = f p)) = [t] ∧ f t < f p ∧ Lg.bst f (upsOf Bs p) = some t ∧ t ∈ upsOf Bs p := by
    intro p hp hne
    have bk : ∀ u ∈ upsOf Bs p, f u ≤ f p ∧ ((upsOf Bs p).length ≠ 2 → f u ≠ f p) := fun u hu => by
      have h := F.back (u, p) (mem_ups.mp hu)
      unfold backB at h
      rw [Bool.or_eq_false_iff, Bool.and_eq_false_iff] at h
      obtain ⟨h1, h2⟩ := h
      have h1 : ¬ f p < f u := of_decide_eq_false h1
      refine ⟨by omega, fun h3 e => ?_⟩
      rcases h2 with h2 | h2
      · exact of_decide_eq_false h2 e
      · rw [Bool.not_eq_false', beq_iff_eq] at h2
        exact h3 h2
    have gf : (upsOf Bs p).length = 2 → ((upsOf Bs p).map f).count (f p) = 1 := fun h2 => by
      have h := F.gift p hp
      unfold giftB at h
      rw [h2] at h
      simpa using h
    have hl : (upsOf Bs p).length ≤ 2 := by
      rw [upsOf_up hB.1]
      rcases g.deg p hp with ⟨_, _, h⟩ | ⟨_, ⟨_, h⟩ | ⟨_, h⟩⟩ <;> omega
    match h : upsOf Bs p, hne, hl with
    | [u], _, _ =>
      rw [h] at bk
      obtain ⟨h1, h2⟩ := bk u List.mem_cons_self
      have h2 := h2 (by simp)
      exact ⟨u, by simp [h2], by omega, rfl, List.mem_cons_self⟩
    | [u, w], _, _ =>
      rw [h] at bk gf
      obtain ⟨h1, _⟩ := bk u List.mem_cons_self
      obtain ⟨h2, _⟩ := bk w (List.mem_cons_of_mem _ List.mem_cons_self)
      have h3 := gf rfl
      by_cases c1 : f u = f p <;> by_cases c2 : f w = f p
      · simp [c1, c2] at h3
      · refine ⟨w, by simp [c1, c2], by omega, ?_, by simp⟩
        show some (if f w < f u then w else u) = some w
        rw [if_pos (by omega)]
      · refine ⟨u, by simp [c1, c2], by omega, ?_, by simp⟩
        show some (if f w < f u then w else u) = some u
        rw [if_neg (by omega)]
      · simp [List.count_cons, c1, c2] at h3
    | [], h0, _ => exact absurd rfl h0
    | _ :: _ :: _ :: _, _, h9 => simp at h9
  have tpe : ∀ {p t}, (upsOf Bs p).filter (fun u => !decide (f u = f p)) = [t] → tp Bs f p = t := fun e => by
    unfold tp
    rw [e]
    rfl
  refine ⟨fun p hp hne => ?_, fun p hp hne => ?_, fun p hp hne => ?_, fun p hp hne => ?_⟩ <;> obtain ⟨t, h1, h2, h3, h4⟩ := key p hp hne <;> rw [tpe h1]
  · exact h1
  · exact h2
  · exact h3
  · exact h4
theorem mem_TA {b : Int × Int} : b ∈ TA Bs f ↔ b ∈ Bs ∧ f b.1 ≠ f b.2 := by
  unfold TA
  rw [List.mem_filter]
  simp
theorem Tops.arrow (T : Tops P Bs f) {u p : Int} (hp : p ∈ P) : (u, p) ∈ TA Bs f ↔ upsOf Bs p ≠ [] ∧ u = tp Bs f p := by
  rw [mem_TA, ← mem_ups]
  constructor
  · rintro ⟨h1, h2⟩
    have hne : upsOf Bs p ≠ [] := fun e => by rw [e] at h1; cases h1
    refine ⟨hne, ?_⟩
    have : u ∈ (upsOf Bs p).filter (fun u => !decide (f u = f p)) := List.mem_filter.mpr ⟨h1, by simpa using h2⟩
    rw [T.one p hp hne] at this
    exact List.mem_singleton.mp this
  · rintro ⟨hne, rfl⟩
    have : tp Bs f p ∈ (upsOf Bs p).filter (fun u => !decide (f u = f p)) := by rw [T.one p hp hne]; exact List.mem_singleton.mpr rfl
    obtain ⟨h1, h2⟩ := List.mem_filter.mp this
    exact ⟨h1, by simpa using h2⟩
/-- the places below another one -/
abbrev lowP (P : List Int) (Bs : List (Int × Int)) : List Int := P.filter fun p => !(upsOf Bs p).isEmpty
theorem mem_low {p : Int} : p ∈ lowP P Bs ↔ p ∈ P ∧ upsOf Bs p ≠ [] := by
  rw [List.mem_filter]
  cases h : upsOf Bs p <;> simp
theorem srtA_sub {Cs : List (Int × Int)} (hB : SrtA As Bs) (p : Int × Int → Bool) (e : (Bs.filter p).Perm Cs) : SrtA Cs (Bs.filter p) := ⟨e, hB.2.sublist (List.filter_sublist ..)⟩
theorem Tops.srt (T : Tops P Bs f) (g : Good As Ls P) (hB : SrtA As Bs) : SrtA ((lowP P Bs).map fun p => (tp Bs f p, p)) (TA Bs f) := by
  refine srtA_sub hB _ ?_
  have nB : Bs.Nodup := hB.1.nodup_iff.mpr g.nd
  have nd2 : ((lowP P Bs).map fun p => (tp Bs f p, p)).Nodup := List.pairwise_map.mpr ((g.asc.nodup.filter _).imp fun h e => h (congrArg (·.2) e))
  refine (List.perm_ext_iff_of_nodup (nB.filter _) nd2).mpr fun b => ?_
  rw [List.mem_map]
  constructor
  · intro hb
    have hP := (g.ends b (hB.1.mem_iff.mp (List.mem_filter.mp hb).1)).2
    obtain ⟨h1, h2⟩ := (T.arrow (u := b.1) (p := b.2) hP).mp hb
    exact ⟨b.2, mem_low.mpr ⟨hP, h1⟩, by rw [← h2]⟩
  · rintro ⟨p, hp, rfl⟩
    obtain ⟨h1, h2⟩ := mem_low.mp hp
    exact (T.arrow h1).mpr ⟨h2, rfl⟩
/-! ### upwards -/
def cur (Bs : List (Int × Int)) (f : Int → Int) : Nat → Int → Int
  | 0, q => q
  | n + 1, q => tp Bs f (cur Bs f n q)
theorem cur_succ : ∀ (n : Nat) (q : Int), cur Bs f (n + 1) q = cur Bs f n (tp Bs f q)
  | 0, _ => rfl
  | n + 1, q => by
    show tp Bs f (cur Bs f (n + 1) q) = tp Bs f (cur Bs f n (tp Bs f q))
    rw [cur_succ n q]
def upc (Bs : List (Int × Int)) (f : Int → Int) : Nat → Int → List Int
  | 0, _ => []
  | n + 1, q => q :: if (upsOf Bs q).isEmpty = true then [] else upc Bs f n (tp Bs f q)
/-- no root among the first n -/
abbrev Live (Bs : List (Int × Int)) (f : Int → Int) (n : Nat) (q : Int) : Prop := ∀ j, j < n → upsOf Bs (cur Bs f j q) ≠ []
theorem upc_snoc : ∀ {n : Nat} {q : Int}, Live Bs f n q → upc Bs f (n + 1) q = upc Bs f n q ++ [cur Bs f n q]
  | 0, q, _ => by
    show (q :: if (upsOf Bs q).isEmpty = true then [] else []) = [q]
    split <;> rfl
  | n + 1, q, h => by
    have h0 : ¬ (upsOf Bs q).isEmpty = true := fun e => h 0 (Nat.succ_pos _) (List.isEmpty_iff.mp e)
    have ih := upc_snoc (n := n) (q := tp Bs f q) fun j hj => by
      rw [← cur_succ]
      exact h (j + 1) (by omega)
    show (q :: if (upsOf Bs q).isEmpty = true then [] else upc Bs f (n + 1) (tp Bs f q)) = (q :: if (upsOf Bs q).isEmpty = true then [] else upc Bs f n (tp Bs f q)) ++ [cur Bs f (n + 1) q]
    rw [if_neg h0, if_neg h0, ih, cur_succ]
    rfl
theorem upc_stop : ∀ {n m : Nat} {q : Int}, Live Bs f n q → upsOf Bs (cur Bs f n q) = [] → n + 1 ≤ m → upc Bs f m q = upc Bs f (n + 1) q
  | 0, m + 1, q, _, h2, _ => by
    have : (upsOf Bs q).isEmpty = true := List.isEmpty_iff.mpr h2
    show (q :: if (upsOf Bs q).isEmpty = true then [] else upc Bs f m (tp Bs f q)) = (q :: if (upsOf Bs q).isEmpty = true then [] else upc Bs f 0 (tp Bs f q))
    rw [if_pos this, if_pos this]
  | n + 1, m + 1, q, h, h2, hm => by
    have h0 : ¬ (upsOf Bs q).isEmpty = true := fun e => h 0 (Nat.succ_pos _) (List.isEmpty_iff.mp e)
    have ih := upc_stop (n := n) (m := m) (q := tp Bs f q) (fun j hj => by
      rw [← cur_succ]
      exact h (j + 1) (by omega)) (by rw [← cur_succ]; exact h2) (by omega)
    show (q :: if (upsOf Bs q).isEmpty = true then [] else upc Bs f m (tp Bs f q)) = (q :: if (upsOf Bs q).isEmpty = true then [] else upc Bs f (n + 1) (tp Bs f q))
    rw [if_neg h0, if_neg h0, ih]
  | _, 0, _, _, _, hm => absurd hm (Nat.not_succ_le_zero _)
theorem Tops.inP (T : Tops P Bs f) (he : ∀ b ∈ Bs, b.1 ∈ P ∧ b.2 ∈ P) {p : Int} (hp : p ∈ P) (hne : upsOf Bs p ≠ []) : tp Bs f p ∈ P := (he (tp Bs f p, p) (mem_ups.mp (T.mem p hp hne))).1
theorem Tops.curP (T : Tops P Bs f) (he : ∀ b ∈ Bs, b.1 ∈ P ∧ b.2 ∈ P) {q : Int} (hq : q ∈ P) : ∀ {n : Nat}, Live Bs f n q → cur Bs f n q ∈ P
  | 0, _ => hq
  | n + 1, h => T.inP he (T.curP he hq fun j hj => h j (by omega)) (h n (Nat.lt_succ_self n))
theorem Tops.fresh (T : Tops P Bs f) (he : ∀ b ∈ Bs, b.1 ∈ P ∧ b.2 ∈ P) {q : Int} (hq : q ∈ P) : ∀ {n : Nat}, Live Bs f n q → ∀ x ∈ upc Bs f n q, f (cur Bs f n q) < f x
  | 0, _, x, hx => by cases hx
  | n + 1, h, x, hx => by
    have hn : Live Bs f n q := fun j hj => h j (by omega)
    have h1 : f (cur Bs f (n + 1) q) < f (cur Bs f n q) := T.lt _ (T.curP he hq hn) (h n (Nat.lt_succ_self n))
    rw [upc_snoc hn] at hx
    rcases List.mem_append.mp hx with hx | hx
    · have := T.fresh he hq hn x hx
      omega
    · rw [List.mem_singleton.mp hx]
      exact h1
theorem rnk_ltP {p : Int} (hp : p ∈ P) : rnk P f p < P.length := by
  obtain ⟨b, hb, e⟩ := ddf_mem (f := f) hp
  have nd : (ddf f P).Nodup := (List.pairwise_map.mp ddf_nd).imp fun h e => h (congrArg f e)
  have := nodup_le (L := b :: (ddf f P).filter fun z => decide (f z < f p)) (M := P) (List.nodup_cons.mpr ⟨fun hm => by
    have h2 := of_decide_eq_true (List.mem_filter.mp hm).2
    omega, nd.filter _⟩) fun k hk => by
    rcases List.mem_cons.mp hk with rfl | hk
    · exact ddf_sub hb
    · exact ddf_sub (List.mem_filter.mp hk).1
  rw [List.length_cons] at this
  exact this
theorem Tops.und (T : Tops P Bs f) (he : ∀ b ∈ Bs, b.1 ∈ P ∧ b.2 ∈ P) {p q : Int} (hq : q ∈ P) : Und (downsOf (TA Bs f)) p q ↔ upsOf Bs q ≠ [] ∧ (p = tp Bs f q ∨ Und (downsOf (TA Bs f)) p (tp Bs f q)) := by
  constructor
  · intro h
    cases h with
    | base h =>
      obtain ⟨h1, h2⟩ := (T.arrow hq).mp (mem_downs.mp h)
      exact ⟨h1, .inl h2⟩
    | step h1 h =>
      obtain ⟨h2, h3⟩ := (T.arrow hq).mp (mem_downs.mp h)
      exact ⟨h2, .inr (h3 ▸ h1)⟩
  · rintro ⟨h1, h | h⟩
    · exact .base (mem_downs.mpr ((T.arrow hq).mpr ⟨h1, h⟩))
    · exact .step h (mem_downs.mpr ((T.arrow hq).mpr ⟨h1, rfl⟩))
theorem Tops.mem_upc (T : Tops P Bs f) (he : ∀ b ∈ Bs, b.1 ∈ P ∧ b.2 ∈ P) {p : Int} : ∀ {n : Nat} {q : Int}, q ∈ P → rnk P f q < n → (p ∈ upc Bs f n q ↔ p = q ∨ Und (downsOf (TA Bs f)) p q)
  | 0, q, _, h => absurd h (Nat.not_lt_zero _)
  | n + 1, q, hq, h => by
    show p ∈ (q :: if (upsOf Bs q).isEmpty = true then [] else upc Bs f n (tp Bs f q)) ↔ _
    rw [List.mem_cons, T.und he hq]
    refine or_congr Iff.rfl ?_
    by_cases c : upsOf Bs q = []
    · rw [if_pos (List.isEmpty_iff.mpr c)]
      simp [c]
    · rw [if_neg fun e => c (List.isEmpty_iff.mp e)]
      have hr : rnk P f (tp Bs f q) < rnk P f q := rnk_lt (T.inP he hq c) (T.lt q hq c)
      rw [T.mem_upc he (T.inP he hq c) (by omega)]
      simp [c]
theorem und_lt (h : Fits P Bs f) {p q : Int} (hu : Und (downsOf (TA Bs f)) p q) : f p < f q := by
  have key : ∀ {u v : Int}, v ∈ downsOf (TA Bs f) u → f u < f v := fun {u v} hv => by
    obtain ⟨h1, h2⟩ := mem_TA.mp (mem_downs.mp hv)
    have h3 := h.back _ h1
    unfold backB at h3
    rw [Bool.or_eq_false_iff] at h3
    have h4 : ¬ f v < f u := of_decide_eq_false h3.1
    have h2 : f u ≠ f v := h2
    omega
  induction hu with
  | base h => exact key h
  | step _ hq ih =>
    have := key hq
    omega
theorem TA_lt (h : Fits P Bs f) {b : Int × Int} (hb : b ∈ TA Bs f) : f b.1 < f b.2 := und_lt h (.base (mem_downs.mpr hb))
theorem TA_ends (he : ∀ b ∈ Bs, b.1 ∈ P ∧ b.2 ∈ P) : ∀ b ∈ TA Bs f, b.1 ∈ P ∧ b.2 ∈ P := fun b hb => he b (mem_TA.mp hb).1
theorem und_P (he : ∀ b ∈ Bs, b.1 ∈ P ∧ b.2 ∈ P) {p q : Int} (hu : Und (downsOf (TA Bs f)) p q) : q ∈ P := by
  cases hu with
  | base h => exact mem_downsP (TA_ends he) h
  | step _ h => exact mem_downsP (TA_ends he) h
/-- an inner place has a tree arrow out -/
theorem inner_TA (h : Fits P Bs f) {p : Int} (hp : p ∈ P) (hd : downsOf Bs p ≠ []) : ∃ c, (p, c) ∈ TA Bs f := by
  have := h.late p hp
  unfold lateB at this
  rw [Bool.and_eq_false_iff] at this
  rcases this with e | e
  · exfalso
    cases c : downsOf Bs p with
    | nil => exact hd c
    | cons a l => rw [c] at e; cases e
  · obtain ⟨c, hc, hlt⟩ := List.all_eq_false.mp e
    have hlt : ¬ f c ≤ f p := fun z => hlt (decide_eq_true z)
    exact ⟨c, mem_TA.mpr ⟨mem_downs.mp hc, by show f p ≠ f c; omega⟩⟩
/-! ### the names below a place -/
theorem nodup_map_inj {α β : Type} {f : α → β} : ∀ {L : List α}, (L.map f).Nodup → ∀ {l m : α}, l ∈ L → m ∈ L → f l = f m → l = m
  | [], _, _, _, h, _, _ => (by cases h)
  | a :: L, nd, l, m, hl, hm, e => by
    obtain ⟨n1, n2⟩ := List.nodup_cons.mp nd
    rcases List.mem_cons.mp hl with h1 | h1 <;> rcases List.mem_cons.mp hm with h2 | h2
    · rw [h1, h2]
    · exact absurd (List.mem_map.mpr ⟨m, h2, by rw [← e, h1]⟩) n1
    · exact absurd (List.mem_map.mpr ⟨l, h1, by rw [e, h2]⟩) n1
    · exact nodup_map_inj n2 h1 h2 e
/-- the names of the leaves whose way up comes by p -/
def nmU (P : List Int) (Bs : List (Int × Int)) (f : Int → Int) (Ms : List (Int × Str)) (p : Int) : List Str := (Ms.filter fun l => decide (p ∈ upc Bs f P.length l.1)).map (·.2)
theorem Tops.names (T : Tops P Bs f) (F : Fits P Bs f) (g : Good As Ls P) (hB : SrtA As Bs) (hM : Ms.Perm Ls) {p : Int} (hp : p ∈ P) {R : List Int} (hR : R.Pairwise (· < ·)) (hm : ∀ q, q ∈ R ↔ Und (downsOf (TA Bs f)) p q) (nm : Int → Str) (hn : ∀ l ∈ Ls, nm l.1 = l.2) :
    (((p :: R).filter fun q => (downsOf Bs q).isEmpty).map nm).Perm (nmU P Bs f Ms p) := by
  have he : ∀ b ∈ Bs, b.1 ∈ P ∧ b.2 ∈ P := fun b hb => g.ends b (hB.1.mem_iff.mp hb)
  have hin : ∀ q ∈ p :: R, q ∈ P := fun q hq => by
    rcases List.mem_cons.mp hq with rfl | hq
    · exact hp
    · exact und_P he ((hm q).mp hq)
  have leaf : ∀ q ∈ p :: R, (downsOf Bs q).isEmpty = true → ∃ l ∈ Ls, l.1 = q := fun q hq e => by
    obtain ⟨l, hl, e⟩ := List.mem_map.mp ((Good.leafy g hB (hin q hq)).mpr (List.isEmpty_iff.mp e))
    exact ⟨l, hl, e⟩
  have ndn : (Ms.map (·.2)).Nodup := (hM.map _).nodup_iff.mpr g.ln
  have uniq : ∀ l ∈ Ls, ∀ m ∈ Ls, l.2 = m.2 → l = m := fun l hl m hm e => by
    exact nodup_map_inj g.ln hl hm e
  have nd1 : (((p :: R).filter fun q => (downsOf Bs q).isEmpty).map nm).Nodup := by
    have n0 : (p :: R).Nodup := List.nodup_cons.mpr ⟨fun h => by
      have := und_lt F ((hm p).mp h)
      omega, hR.imp Int.ne_of_lt⟩
    refine List.pairwise_map.mpr ((n0.filter _).imp_of_mem fun {a b} ha hb hab e => hab ?_)
    obtain ⟨a1, a2⟩ := List.mem_filter.mp ha
    obtain ⟨b1, b2⟩ := List.mem_filter.mp hb
    obtain ⟨l, hl, rfl⟩ := leaf a a1 a2
    obtain ⟨m, hm2, rfl⟩ := leaf b b1 b2
    rw [hn l hl, hn m hm2] at e
    rw [uniq l hl m hm2 e]
  refine (List.perm_ext_iff_of_nodup nd1 (ndn.sublist ((List.filter_sublist ..).map _))).mpr fun z => ?_
  rw [List.mem_map, List.mem_map]
  have key : ∀ l ∈ Ls, p ∈ upc Bs f P.length l.1 ↔ l.1 ∈ p :: R := fun l hl => by
    have hlP := g.lab l hl
    rw [T.mem_upc he hlP (rnk_ltP hlP), List.mem_cons, hm]
    exact or_congr eq_comm Iff.rfl
  constructor
  · rintro ⟨q, hq, rfl⟩
    obtain ⟨q1, q2⟩ := List.mem_filter.mp hq
    obtain ⟨l, hl, rfl⟩ := leaf q q1 q2
    exact ⟨l, List.mem_filter.mpr ⟨hM.mem_iff.mpr hl, decide_eq_true ((key l hl).mpr q1)⟩, (hn l hl).symm⟩
  · rintro ⟨l, hl, rfl⟩
    obtain ⟨l1, l2⟩ := List.mem_filter.mp hl
    have hl1 := hM.mem_iff.mp l1
    refine ⟨l.1, List.mem_filter.mpr ⟨(key l hl1).mp (of_decide_eq_true l2), ?_⟩, hn l hl1⟩
    exact List.isEmpty_iff.mpr ((Good.leafy g hB (g.lab l hl1)).mp (List.mem_map_of_mem hl1))
end
/-! ### a dict of the places with a list of its own for each -/
structure DiV (H0 H : Hp) (D : Addr) (P : List Int) (adr : Int → Addr) (val : Int → List V) : Prop where
  nd : H0 D = none
  na : ∀ p ∈ P, H0 (adr p) = none
  inj : ∀ p ∈ P, ∀ q ∈ P, adr p = adr q → p = q
  at_ : H D = some (dKs P adr)
  val : ∀ p ∈ P, H (adr p) = some (.lst (val p))
section
variable {H0 H H' : Hp} {D : Addr} {P : List Int} {adr : Int → Addr} {val : Int → List V}
theorem DiV.get (h : DiV H0 H D P adr val) {p : Int} (hp : p ∈ P) : DGet H D (.int p) (some (.ref (adr p))) := .inl ⟨_, .inl p, .inl h.at_, rfl, (valV_dKs hp).symm⟩
theorem DiV.same (h : DiV H0 H D P adr val) (s : Same H H') : DiV H0 H' D P adr val := ⟨h.nd, h.na, h.inj, s _ _ h.at_, fun p hp => s _ _ (h.val p hp)⟩
theorem DiV.other (h : DiV H0 H D P adr val) {b : Addr} {o : HO} (h1 : b ≠ D) (h2 : ∀ p ∈ P, b ≠ adr p) : DiV H0 (upd H b o) D P adr val :=
  ⟨h.nd, h.na, h.inj, by rw [upd_ne h1.symm]; exact h.at_, fun p hp => by rw [upd_ne (h2 p hp).symm]; exact h.val p hp⟩
theorem DiV.new (h : DiV H0 H D P adr val) {b : Addr} {o : HO} (n : H b = none) : DiV H0 (upd H b o) D P adr val :=
  h.other (fun e => by rw [e, h.at_] at n; cases n) (fun p hp e => by rw [e, h.val p hp] at n; cases n)
theorem DiV.congr (h : DiV H0 H D P adr val) {val' : Int → List V} (e : ∀ p ∈ P, val p = val' p) : DiV H0 H D P adr val' := ⟨h.nd, h.na, h.inj, h.at_, fun p hp => e p hp ▸ h.val p hp⟩
theorem DiV.app (h : DiV H0 H D P adr val) {p : Int} {x : V} (hp : p ∈ P) : DiV H0 (upd H (adr p) (.lst (val p ++ [x]))) D P adr (fun q => if q = p then val q ++ [x] else val q) := by
  have nD : D ≠ adr p := fun e => by
    have := h.val p hp
    rw [← e, h.at_] at this
    cases this
  refine ⟨h.nd, h.na, h.inj, by rw [upd_ne nD]; exact h.at_, fun q hq => ?_⟩
  by_cases e : q = p
  · subst e
    rw [upd_same, if_pos rfl]
  · rw [upd_ne (fun z => e (h.inj q hq p hp z)), if_neg e]
    exact h.val q hq
theorem DiV.start (n0 : H0 D = none) (e : H D = some (.dK [])) : DiV H0 H D [] adr val := ⟨n0, fun _ h => (by cases h), fun _ h => (by cases h), e, fun _ h => (by cases h)⟩
theorem DiV.grow (h : DiV H0 H D P adr fun _ => []) {q : Int} {a : Addr} (hq : q ∉ P) (na : H a = none) (s : H0 a = none) :
    DiV H0 (upd (upd H a (.lst [])) D (.dK (putK (P.map fun p => ((.inl p : Key), V.ref (adr p))) (.inl q) (.ref a)))) D (P ++ [q]) (fun p => if p = q then a else adr p) fun _ => [] := by
  have hne : ∀ p ∈ P, p ≠ q := fun p hp e => hq (e ▸ hp)
  have naD : a ≠ D := fun e => by rw [e, h.at_] at na; cases na
  have nap : ∀ p ∈ P, adr p ≠ a := fun p hp e => by
    have := h.val p hp
    rw [e, na] at this
    cases this
  have npD : ∀ p ∈ P, adr p ≠ D := fun p hp e => by
    have := h.val p hp
    rw [e, h.at_] at this
    cases this
  refine ⟨h.nd, fun p hp => ?_, fun p hp p' hp' e => ?_, ?_, fun p hp => ?_⟩
  · rcases List.mem_append.mp hp with hp | hp
    · rw [if_neg (hne p hp)]
      exact h.na p hp
    · rw [if_pos (List.mem_singleton.mp hp)]
      exact s
  · rcases List.mem_append.mp hp with hp | hp <;> rcases List.mem_append.mp hp' with hp' | hp'
    · rw [if_neg (hne p hp), if_neg (hne p' hp')] at e
      exact h.inj p hp p' hp' e
    · rw [if_neg (hne p hp), if_pos (List.mem_singleton.mp hp')] at e
      exact absurd e (nap p hp)
    · rw [if_pos (List.mem_singleton.mp hp), if_neg (hne p' hp')] at e
      exact absurd e.symm (nap p' hp')
    · rw [List.mem_singleton.mp hp, List.mem_singleton.mp hp']
  · rw [upd_same, putK_new hq]
    show some (HO.dK _) = some (HO.dK ((P ++ [q]).map _))
    rw [List.map_append, List.map_singleton]
    dsimp only
    rw [if_pos rfl]
    congr 3
    exact List.map_congr_left fun p hp => by rw [if_neg (hne p hp)]
  · rcases List.mem_append.mp hp with hp | hp
    · rw [if_neg (hne p hp), upd_ne (npD p hp), upd_ne (nap p hp)]
      exact h.val p hp
    · rw [if_pos (List.mem_singleton.mp hp), upd_ne naD, upd_same]
end
end Lg

/-! The head of a law with tables: a hook that also asks a test of one's own. -/
namespace Lg
open PySem PySem.Spec PyProof.Rows L2 He
section
variable {fa : List Fa} {fn : List DefD} {ts : List Tab} {ps : List DefP} {ck : PySem.W.Frag → Bool} {w : World} {K : PySem.W.Frag}
theorem SaysX.t (c : SaysX fa fn ts ps ck w K) : SaysT fa fn ts w K := congrArg (fun z : AlX => z.1) c
theorem SaysX.test (c : SaysX fa fn ts ps ck w K) : ck K = true := (Bool.and_eq_true_iff.mp (show ((ps.all fun d => d.ok K) && ck K) = true from congrArg (fun z : AlX => z.2.2) c)).2
theorem DefP.prop_ {d : DefP} (e : fnWA K (gAd K d.cls d.prop) = d.val) (c : d.ok K = true) : (∃ fd, FunD K d.name d.qual d.params d.body d.scope [] [] (gAd K d.cls d.prop) fd) ∧ PropOf K (ga K d.cls) d.prop (ma K (ga K d.cls) d.prop) (gAd K d.cls d.prop) := by
  obtain ⟨c1, c⟩ := ba c
  obtain ⟨c2, c⟩ := ba c
  obtain ⟨c3, c⟩ := ba c
  obtain ⟨c4, c⟩ := ba c
  obtain ⟨kp, c2'⟩ := ba c
  refine ⟨?_, eqO_ok c1, eqO_ok c2, of_decide_eq_true c3, ?_⟩
  · clear c1 c2 c3 c4
    generalize gAd K d.cls d.prop = G at e kp c2'
    unfold fnWA at e
    cases q : K.lookup G with
    | none =>
      rw [q] at c2'
      cases c2'
    | some o =>
      obtain ⟨oc, od, dt, osl⟩ := o
      rw [q] at c2' e
      cases dt with
      | func fd =>
        obtain ⟨n1, n2, n3, n4, n5, n6, n7, n8, n9, n10, n11, n12, n13, n14, n15⟩ := fd
        have e2 : (some (n1, n2, n3, n4, n5, n6, n7, n15) : FnW) = some (d.name, d.qual, d.params, .stmts d.body, d.scope, mainGlobals, [], builtinsNs) := e
        simp only [Option.some.injEq, Prod.mk.injEq] at e2
        obtain ⟨h1, h2, h3, h4, h5, h6, h7, h8⟩ := e2
        subst h1 h2 h3 h4 h5 h6 h7 h8
        have c3 : (PySem.W.codeIn K n13 d.qual && (dflB K n8 [] && kwdB K n9 [])) = true := c2'
        obtain ⟨k1, k2⟩ := ba c3
        obtain ⟨k3, k4⟩ := ba k2
        exact ⟨_, ⟨oc, od, n8, n9, n10, n11, n12, n13, n14, osl, rfl, q, k1, dflB_ok k3, kwdB_ok k4⟩, kp⟩
      | _ => cases c2'
  · unfold gAd
    cases q : PySem.W.recIn K (ma K (ga K d.cls) d.prop) "property" with
    | none => rw [q] at c4; cases c4
    | some l =>
      rw [q] at c4
      cases l with
      | nil => cases c4
      | cons v r =>
        cases v with
        | ref g => exact ⟨r, rfl⟩
        | _ => cases c4
theorem SaysX.prop (c : SaysX fa fn ts ps ck w K) (i : Nat) {d : DefP} (h : ps[i]? = some d := by rfl) : (∃ fd, FunD K d.name d.qual d.params d.body d.scope [] [] (gAd K d.cls d.prop) fd) ∧ PropOf K (ga K d.cls) d.prop (ma K (ga K d.cls) d.prop) (gAd K d.cls d.prop) := by
  have e : ps.map (fun d => fnWA K (gAd K d.cls d.prop)) = ps.map DefP.val := congrArg (fun z : AlX => z.2.1) c
  have e2 : (ps.map fun d => fnWA K (gAd K d.cls d.prop))[i]? = (ps.map DefP.val)[i]? := by rw [e]
  rw [List.getElem?_map, List.getElem?_map, h] at e2
  have c2 := (Bool.and_eq_true_iff.mp (show ((ps.all fun d => d.ok K) && ck K) = true from congrArg (fun z : AlX => z.2.2) c)).1
  exact DefP.prop_ (Option.some.inj e2) (List.all_eq_true.mp c2 d (List.mem_of_getElem? h))
/-- a table's keys -/
theorem SaysX.keys (c : SaysX fa fn ts ps ck w K) (i : Nat) {t : Tab} (h : ts[i]? = some t := by rfl) : dicW K (t.1 K) = some (keysIn w.params t.2) := by
  have e : ts.map (fun t => dicW K (t.1 K)) = ts.map fun t => some (keysIn w.params t.2) := congrArg (fun z : AlT => z.2) (congrArg (fun z : AlX => z.1) c)
  have e2 : (ts.map fun t => dicW K (t.1 K))[i]? = (ts.map fun t => some (keysIn w.params t.2))[i]? := by rw [e]
  rw [List.getElem?_map, List.getElem?_map, h] at e2
  exact Option.some.inj e2
end
theorem dicW_keys {K : PySem.W.Frag} {w : World} {a : Addr} {ks : List Str} (h : dicW K a = some (keysIn w.params ks)) : ∃ es n, K.lookup a = some ⟨.type "dict", none, .dict es n, #[]⟩ ∧ es.toList.map He.keyOf = keysIn w.params ks ∧ (a == sysModules) = false := by
  unfold dicW at h
  cases q : K.lookup a with
  | none => rw [q] at h; cases h
  | some o =>
    obtain ⟨oc, od, dt, osl⟩ := o
    rw [q] at h
    cases oc with
    | type c =>
      cases od with
      | none =>
        cases dt with
        | dict es n =>
          have h1 : (match decide (c = "dict") && (osl.isEmpty && !(a == sysModules)) with
            | true => some (es.toList.map keyOf)
            | false => none) = some (keysIn w.params ks) := h
          cases z : decide (c = "dict") && (osl.isEmpty && !(a == sysModules)) with
          | false => rw [z] at h1; cases h1
          | true =>
            rw [z] at h1
            obtain ⟨z1, z2⟩ := Bool.and_eq_true_iff.mp z
            obtain ⟨z3, z4⟩ := Bool.and_eq_true_iff.mp z2
            obtain rfl : c = "dict" := of_decide_eq_true z1
            obtain rfl : osl = #[] := Array.isEmpty_iff.mp z3
            exact ⟨es, n, rfl, Option.some.inj h1, by simpa using z4⟩
        | _ => cases h
      | some b => cases dt <;> cases h
    | _ => cases od <;> cases dt <;> cases h
theorem ktab_of {K : PySem.W.Frag} {w : World} {a : Addr} {ks : List Str} (h : dicW K a = some (keysIn w.params ks)) (nd : ks.Nodup) : KTab K w a ks :=
  let ⟨es, n, h1, h2, h3⟩ := dicW_keys h
  ⟨⟨es, n, h1, h2⟩, h3, nd⟩
theorem kdct_of {K : PySem.W.Frag} {w : World} {a : Addr} {ks : List Str} (h : dicW K a = some (keysIn w.params ks)) {kvs : List (Str × Dv)} (hv : valsB K a kvs = true) {q : Str × Dv} (hq : q ∈ kvs) : KDct K w a q.1 (q.2.v K) := by
  obtain ⟨es, n, h1, h2, _⟩ := dicW_keys h
  obtain ⟨u, hu, r⟩ := valsB_ok hv hq
  exact ⟨es, n, u, h1, keysLit_of h2, hu, r⟩
end Lg

namespace Pf
open PySem PySem.Spec PyProof.Rows L2
open Lg
local macro_rules | `(tactic| walk_at "gs") => `(tactic| first | rfl | assumption | (apply And.intro) | (apply Exists.intro) | (exact upd_same) | (exact SqL.of (by assumption)) | (exact SqL.of upd_same) | (exact (show (0 : Int) < _ from by decide)) | (exact Or.inr ⟨by decide, by decide⟩) | (exact Or.inl ⟨by decide, by decide⟩) | decide | (exact line_le (Nat.le_of_ble_eq_true rfl)) | (refine Or.inl ?_))
local macro_rules | `(tactic| walk_at "go") => `(tactic| repeat' (walk_at "gs"))
theorem sc_is_name : FnScope ["value", "sign"] ["value"] (defScope s_is_name) := ⟨rfl, rfl, rfl, by decide +kernel, rfl, by decide +kernel, by decide +kernel⟩
theorem sc_is_whole : FnScope ["value"] ["value"] (defScope s_is_whole) := ⟨rfl, rfl, rfl, by decide +kernel, rfl, by decide +kernel, by decide +kernel⟩
theorem sc_is_place : FnScope ["value"] ["value"] (defScope s_is_place) := ⟨rfl, rfl, rfl, by decide +kernel, rfl, by decide +kernel, by decide +kernel⟩
theorem sc_is_whole_pair : FnScope ["value"] ["value"] (defScope s_is_whole_pair) := ⟨rfl, rfl, rfl, by decide +kernel, rfl, by decide +kernel, by decide +kernel⟩
theorem sc_is_place_pair : FnScope ["value"] ["value"] (defScope s_is_place_pair) := ⟨rfl, rfl, rfl, by decide +kernel, rfl, by decide +kernel, by decide +kernel⟩
theorem sc_is_labelled_place : FnScope ["value"] ["value"] (defScope s_is_labelled_place) := ⟨rfl, rfl, rfl, by decide +kernel, rfl, by decide +kernel, by decide +kernel⟩
theorem sc_all_places : FnScope ["arrows", "leaves", "ends", "arrow", "end", "leaf"] ["arrows", "leaves"] (defScope s_all_places) := ⟨rfl, rfl, rfl, by decide +kernel, rfl, by decide +kernel, by decide +kernel⟩
theorem sc_relatives : FnScope ["arrows", "leaves", "places", "mothers", "children", "mother", "child", "place"] ["arrows", "leaves"] (defScope s_relatives) := ⟨rfl, rfl, rfl, by decide +kernel, rfl, by decide +kernel, by decide +kernel⟩
theorem sc_places_below : FnScope ["place", "children", "found", "waiting", "lower"] ["place", "children"] (defScope s_places_below) := ⟨rfl, rfl, rfl, by decide +kernel, rfl, by decide +kernel, by decide +kernel⟩
theorem sc_long_lists : FnScope ["arrows", "leaves", "lengths", "at", "length", "most"] ["arrows", "leaves"] (defScope s_long_lists) := ⟨rfl, rfl, rfl, by decide +kernel, rfl, by decide +kernel, by decide +kernel⟩
theorem sc_bad_arrows : FnScope ["arrows", "leaves", "at", "arrow"] ["arrows", "leaves"] (defScope s_bad_arrows) := ⟨rfl, rfl, rfl, by decide +kernel, rfl, by decide +kernel, by decide +kernel⟩
theorem sc_bad_leaves : FnScope ["arrows", "leaves", "at", "leaf"] ["arrows", "leaves"] (defScope s_bad_leaves) := ⟨rfl, rfl, rfl, by decide +kernel, rfl, by decide +kernel, by decide +kernel⟩
theorem sc_bad_names : FnScope ["arrows", "leaves", "at", "leaf"] ["arrows", "leaves"] (defScope s_bad_names) := ⟨rfl, rfl, rfl, by decide +kernel, rfl, by decide +kernel, by decide +kernel⟩
theorem sc_leaves_again : FnScope ["arrows", "leaves", "places", "names", "leaf", "at"] ["arrows", "leaves"] (defScope s_leaves_again) := ⟨rfl, rfl, rfl, by decide +kernel, rfl, by decide +kernel, by decide +kernel⟩
theorem sc_arrows_again : FnScope ["arrows", "leaves", "at", "arrow"] ["arrows", "leaves"] (defScope s_arrows_again) := ⟨rfl, rfl, rfl, by decide +kernel, rfl, by decide +kernel, by decide +kernel⟩
theorem sc_no_leaves : FnScope ["arrows", "leaves"] ["arrows", "leaves"] (defScope s_no_leaves) := ⟨rfl, rfl, rfl, by decide +kernel, rfl, by decide +kernel, by decide +kernel⟩
theorem sc_bad_degrees : FnScope ["mothers", "children", "labelled", "place"] ["mothers", "children", "labelled"] (defScope s_bad_degrees) := ⟨rfl, rfl, rfl, by decide +kernel, rfl, by decide +kernel, by decide +kernel⟩
theorem sc_bad_roots : FnScope ["mothers", "children", "labelled", "roots", "place"] ["mothers", "children", "labelled"] (defScope s_bad_roots) := ⟨rfl, rfl, rfl, by decide +kernel, rfl, by decide +kernel, by decide +kernel⟩
theorem sc_ring_places : FnScope ["mothers", "children", "labelled", "place"] ["mothers", "children", "labelled"] (defScope s_ring_places) := ⟨rfl, rfl, rfl, by decide +kernel, rfl, by decide +kernel, by decide +kernel⟩
theorem sc_bad_labels : FnScope ["mothers", "children", "labelled", "place"] ["mothers", "children", "labelled"] (defScope s_bad_labels) := ⟨rfl, rfl, rfl, by decide +kernel, rfl, by decide +kernel, by decide +kernel⟩
theorem sc_too_many_mixings : FnScope ["mothers", "children", "labelled", "many", "place"] ["mothers", "children", "labelled"] (defScope s_too_many_mixings) := ⟨rfl, rfl, rfl, by decide +kernel, rfl, by decide +kernel, by decide +kernel⟩
theorem sc_first_fault : FnScope ["finders", "given", "word", "finder", "found"] ["finders", "given"] (defScope s_first_fault) := ⟨rfl, rfl, rfl, by decide +kernel, rfl, by decide +kernel, by decide +kernel⟩
theorem sc_net_fault : FnScope ["arrows", "leaves", "fault", "mothers", "children", "leaf"] ["arrows", "leaves"] (defScope s_net_fault) := ⟨rfl, rfl, rfl, by decide +kernel, rfl, by decide +kernel, by decide +kernel⟩
theorem sc_has_form : FnScope ["net", "paper", "place", "moment", "pair"] ["net", "paper"] (defScope s_has_form) := ⟨rfl, rfl, rfl, by decide +kernel, rfl, by decide +kernel, by decide +kernel⟩
theorem sc_back_arrows : FnScope ["net", "times", "mixings", "u", "v"] ["net", "times"] (defScope s_back_arrows) := ⟨rfl, rfl, rfl, by decide +kernel, rfl, by decide +kernel, by decide +kernel⟩
theorem sc_bad_gifts : FnScope ["net", "times", "found", "mixing", "above", "mother"] ["net", "times"] (defScope s_bad_gifts) := ⟨rfl, rfl, rfl, by decide +kernel, rfl, by decide +kernel, by decide +kernel⟩
theorem sc_late_places : FnScope ["net", "times", "place", "child"] ["net", "times"] (defScope s_late_places) := ⟨rfl, rfl, rfl, by decide +kernel, rfl, by decide +kernel, by decide +kernel⟩
theorem sc_moment_fault : FnScope ["net", "paper", "place", "moment"] ["net", "paper"] (defScope s_moment_fault) := ⟨rfl, rfl, rfl, by decide +kernel, rfl, by decide +kernel, by decide +kernel⟩
theorem sc_is_moments : FnScope ["net", "paper"] ["net", "paper"] (defScope s_is_moments) := ⟨rfl, rfl, rfl, by decide +kernel, rfl, by decide +kernel, by decide +kernel⟩
theorem sc_Net___init : FnScope ["self", "arrows", "leaves", "fault", "word", "at", "mothers", "children", "place", "name"] ["self", "arrows", "leaves"] (defScope s_Net___init) := ⟨rfl, rfl, rfl, by decide +kernel, rfl, by decide +kernel, by decide +kernel⟩
theorem sc_Net_places : FnScope ["self"] ["self"] (defScope s_Net_places) := ⟨rfl, rfl, rfl, by decide +kernel, rfl, by decide +kernel, by decide +kernel⟩
theorem sc_Net_inner : FnScope ["self", "place"] ["self"] (defScope s_Net_inner) := ⟨rfl, rfl, rfl, by decide +kernel, rfl, by decide +kernel, by decide +kernel⟩
theorem sc_Net_splits : FnScope ["self", "place"] ["self"] (defScope s_Net_splits) := ⟨rfl, rfl, rfl, by decide +kernel, rfl, by decide +kernel, by decide +kernel⟩
theorem sc_Net_mixings : FnScope ["self", "place"] ["self"] (defScope s_Net_mixings) := ⟨rfl, rfl, rfl, by decide +kernel, rfl, by decide +kernel, by decide +kernel⟩
theorem sc_Net_arrows : FnScope ["self"] ["self"] (defScope s_Net_arrows) := ⟨rfl, rfl, rfl, by decide +kernel, rfl, by decide +kernel, by decide +kernel⟩
theorem sc_Net_leaves : FnScope ["self"] ["self"] (defScope s_Net_leaves) := ⟨rfl, rfl, rfl, by decide +kernel, rfl, by decide +kernel, by decide +kernel⟩
theorem sc_Net_names : FnScope ["self"] ["self"] (defScope s_Net_names) := ⟨rfl, rfl, rfl, by decide +kernel, rfl, by decide +kernel, by decide +kernel⟩
theorem sc_Net_mothers : FnScope ["self", "place"] ["self", "place"] (defScope s_Net_mothers) := ⟨rfl, rfl, rfl, by decide +kernel, rfl, by decide +kernel, by decide +kernel⟩
theorem sc_Net_children : FnScope ["self", "place"] ["self", "place"] (defScope s_Net_children) := ⟨rfl, rfl, rfl, by decide +kernel, rfl, by decide +kernel, by decide +kernel⟩
theorem sc_Net___eq : FnScope ["self", "other"] ["self", "other"] (defScope s_Net___eq) := ⟨rfl, rfl, rfl, by decide +kernel, rfl, by decide +kernel, by decide +kernel⟩
theorem sc_Net__demand : FnScope ["self", "place"] ["self", "place"] (defScope s_Net__demand) := ⟨rfl, rfl, rfl, by decide +kernel, rfl, by decide +kernel, by decide +kernel⟩
theorem sc_law_mix : FnScope ["cell", "turn", "one"] ["cell", "turn"] (defScope s_law_mix) := ⟨rfl, rfl, rfl, by decide +kernel, rfl, by decide +kernel, by decide +kernel⟩
theorem sc_law_store : FnScope ["script", "cell", "cells", "seed"] ["script"] (defScope s_law_store) := ⟨rfl, rfl, rfl, by decide +kernel, rfl, by decide +kernel, by decide +kernel⟩
theorem sc_law_take : FnScope ["store", "many", "cell", "given"] ["store", "many"] (defScope s_law_take) := ⟨rfl, rfl, rfl, by decide +kernel, rfl, by decide +kernel, by decide +kernel⟩
theorem sc_law_pick : FnScope ["store", "things"] ["store", "things"] (defScope s_law_pick) := ⟨rfl, rfl, rfl, by decide +kernel, rfl, by decide +kernel, by decide +kernel⟩
theorem sc_law_mixed : FnScope ["store", "things", "how", "left", "out", "turn"] ["store", "things"] (defScope s_law_mixed) := ⟨rfl, rfl, rfl, by decide +kernel, rfl, by decide +kernel, by decide +kernel⟩
theorem sc_law_number : FnScope ["store", "how", "number", "turn"] ["store"] (defScope s_law_number) := ⟨rfl, rfl, rfl, by decide +kernel, rfl, by decide +kernel, by decide +kernel⟩
theorem sc_law_same : FnScope ["given", "due", "k"] ["given", "due"] (defScope s_law_same) := ⟨rfl, rfl, rfl, by decide +kernel, rfl, by decide +kernel, by decide +kernel⟩
theorem sc_law_copy : FnScope ["value", "part"] ["value"] (defScope s_law_copy) := ⟨rfl, rfl, rfl, by decide +kernel, rfl, by decide +kernel, by decide +kernel⟩
theorem sc_law_whole : FnScope ["value"] ["value"] (defScope s_law_whole) := ⟨rfl, rfl, rfl, by decide +kernel, rfl, by decide +kernel, by decide +kernel⟩
theorem sc_law_sign : FnScope ["store", "signs"] ["store"] (defScope s_law_sign) := ⟨rfl, rfl, rfl, by decide +kernel, rfl, by decide +kernel, by decide +kernel⟩
theorem sc_law_string : FnScope ["store", "out", "turn"] ["store"] (defScope s_law_string) := ⟨rfl, rfl, rfl, by decide +kernel, rfl, by decide +kernel, by decide +kernel⟩
theorem sc_law_atom : FnScope ["store", "how"] ["store"] (defScope s_law_atom) := ⟨rfl, rfl, rfl, by decide +kernel, rfl, by decide +kernel, by decide +kernel⟩
theorem sc_law_plain : FnScope ["store", "value", "many", "turn", "parts", "step"] ["store"] (defScope s_law_plain) := ⟨rfl, rfl, rfl, by decide +kernel, rfl, by decide +kernel, by decide +kernel⟩
theorem sc_law_all : FnScope ["net", "out", "leaf", "arrow"] ["net"] (defScope s_law_all) := ⟨rfl, rfl, rfl, by decide +kernel, rfl, by decide +kernel, by decide +kernel⟩
theorem sc_law_ups : FnScope ["net", "ups", "place", "arrow"] ["net"] (defScope s_law_ups) := ⟨rfl, rfl, rfl, by decide +kernel, rfl, by decide +kernel, by decide +kernel⟩
theorem sc_law_downs : FnScope ["net", "downs", "place", "arrow"] ["net"] (defScope s_law_downs) := ⟨rfl, rfl, rfl, by decide +kernel, rfl, by decide +kernel, by decide +kernel⟩
theorem sc_law_renamed : FnScope ["net", "number", "arrows", "leaves", "arrow", "leaf"] ["net", "number"] (defScope s_law_renamed) := ⟨rfl, rfl, rfl, by decide +kernel, rfl, by decide +kernel, by decide +kernel⟩
theorem sc_law_lists : FnScope ["store", "net"] ["store", "net"] (defScope s_law_lists) := ⟨rfl, rfl, rfl, by decide +kernel, rfl, by decide +kernel, by decide +kernel⟩
theorem sc_law_is_net : FnScope ["given", "net"] ["given", "net"] (defScope s_law_is_net) := ⟨rfl, rfl, rfl, by decide +kernel, rfl, by decide +kernel, by decide +kernel⟩
theorem sc_law_paper : FnScope ["number", "place"] ["number"] (defScope s_law_paper) := ⟨rfl, rfl, rfl, by decide +kernel, rfl, by decide +kernel, by decide +kernel⟩
theorem sc_law_fits : FnScope ["net", "number", "ups", "downs", "arrow", "before", "after", "place", "mother", "kid"] ["net", "number"] (defScope s_law_fits) := ⟨rfl, rfl, rfl, by decide +kernel, rfl, by decide +kernel, by decide +kernel⟩
theorem sc_law_moment_fault : FnScope ["net", "paper", "item", "number"] ["net", "paper"] (defScope s_law_moment_fault) := ⟨rfl, rfl, rfl, by decide +kernel, rfl, by decide +kernel, by decide +kernel⟩
theorem sc_law_gap : FnScope ["store", "kind"] ["store", "kind"] (defScope s_law_gap) := ⟨rfl, rfl, rfl, by decide +kernel, rfl, by decide +kernel, by decide +kernel⟩
theorem sc_law_measures : FnScope ["store", "how"] ["store"] (defScope s_law_measures) := ⟨rfl, rfl, rfl, by decide +kernel, rfl, by decide +kernel, by decide +kernel⟩
theorem sc_law_called : FnScope ["store", "many", "letters", "shift", "stem", "k"] ["store", "many"] (defScope s_law_called) := ⟨rfl, rfl, rfl, by decide +kernel, rfl, by decide +kernel, by decide +kernel⟩
theorem sc_law_counted : FnScope ["store", "places", "gap", "order", "shift", "new", "k"] ["store", "places"] (defScope s_law_counted) := ⟨rfl, rfl, rfl, by decide +kernel, rfl, by decide +kernel, by decide +kernel⟩
theorem sc_law_timed : FnScope ["store", "names", "mixings", "kind", "moment", "number", "arrows", "lines", "turn", "gift", "k", "free", "at", "new", "other", "even", "leaves"] ["store", "names", "mixings"] (defScope s_law_timed) := ⟨rfl, rfl, rfl, by decide +kernel, rfl, by decide +kernel, by decide +kernel⟩
theorem sc_law_case : FnScope ["store", "size", "drawn", "new", "number", "place"] ["store"] (defScope s_law_case) := ⟨rfl, rfl, rfl, by decide +kernel, rfl, by decide +kernel, by decide +kernel⟩
theorem sc_law_odd_place : FnScope ["store", "paper", "at", "place", "strange", "how"] ["store", "paper"] (defScope s_law_odd_place) := ⟨rfl, rfl, rfl, by decide +kernel, rfl, by decide +kernel, by decide +kernel⟩
theorem sc_law_odd_part : FnScope ["store", "paper", "side", "at", "old", "odd", "spots", "item", "k"] ["store", "paper", "side"] (defScope s_law_odd_part) := ⟨rfl, rfl, rfl, by decide +kernel, rfl, by decide +kernel, by decide +kernel⟩
theorem sc_law_bent : FnScope ["store", "paper", "how", "at", "item", "other", "parts", "spoilt"] ["store", "paper"] (defScope s_law_bent) := ⟨rfl, rfl, rfl, by decide +kernel, rfl, by decide +kernel, by decide +kernel⟩
theorem sc_law_asked : FnScope ["made", "net", "paper", "due", "given"] ["made", "net", "paper"] (defScope s_law_asked) := ⟨rfl, rfl, rfl, by decide +kernel, rfl, by decide +kernel, by decide +kernel⟩
theorem sc_law : FnScope ["script", "store", "case", "net", "lists", "made", "paper", "turn"] ["script"] (defScope s_law) := ⟨rfl, rfl, rfl, by decide +kernel, rfl, by decide +kernel, by decide +kernel⟩
structure Txt (w : World) (K : PySem.W.Frag) (mg : Str → Option Value) : Prop where
  len : mg "len" = none
  LONGEST_NAME : ∃ t, mg "LONGEST_NAME" = some (.int 8 t)
  isinstance : mg "isinstance" = none
  str : mg "str" = none
  all : mg "all" = none
  LETTERS : ∃ t, mg "LETTERS" = some (.str "abcdefghijklmnopqrstuvwxyz" t)
  DIGITS : ∃ t, mg "DIGITS" = some (.str "0123456789" t)
  bool : mg "bool" = none
  int : mg "int" = none
  LAST_PLACE : ∃ t, mg "LAST_PLACE" = some (.int 9999 t)
  tuple : mg "tuple" = none
  sorted : mg "sorted" = none
  set : mg "set" = none
  list : mg "list" = none
  MOST_LEAVES : ∃ t, mg "MOST_LEAVES" = some (.int 12 t)
  MOST_ARROWS : ∃ t, mg "MOST_ARROWS" = some (.int 46 t)
  enumerate : mg "enumerate" = none
  range : mg "range" = none
  DEGREES : mg "DEGREES" = some (.ref (He.ga K "DEGREES")) ∧ TupD K (He.ga K "DEGREES") [[0, 0], [0, 2], [1, 2], [2, 1], [1, 0]]
  MOST_MIXINGS : ∃ t, mg "MOST_MIXINGS" = some (.int 8 t)
  LIST_FAULTS : mg "LIST_FAULTS" = some (.ref (He.ga K "LIST_FAULTS")) ∧ KTab K w (He.ga K "LIST_FAULTS") ["long", "arrow", "leaf", "name", "again", "double", "none"] ∧ KVals K (He.ga K "LIST_FAULTS") [He.ga K "_long_lists", He.ga K "_bad_arrows", He.ga K "_bad_leaves", He.ga K "_bad_names", He.ga K "_leaves_again", He.ga K "_arrows_again", He.ga K "_no_leaves"] ∧ KDct K w (He.ga K "LIST_FAULTS") "long" (.ref (He.ga K "_long_lists")) ∧ mg "_long_lists" = some (.ref (He.ga K "_long_lists")) ∧ KDct K w (He.ga K "LIST_FAULTS") "arrow" (.ref (He.ga K "_bad_arrows")) ∧ mg "_bad_arrows" = some (.ref (He.ga K "_bad_arrows")) ∧ KDct K w (He.ga K "LIST_FAULTS") "leaf" (.ref (He.ga K "_bad_leaves")) ∧ mg "_bad_leaves" = some (.ref (He.ga K "_bad_leaves")) ∧ KDct K w (He.ga K "LIST_FAULTS") "name" (.ref (He.ga K "_bad_names")) ∧ mg "_bad_names" = some (.ref (He.ga K "_bad_names")) ∧ KDct K w (He.ga K "LIST_FAULTS") "again" (.ref (He.ga K "_leaves_again")) ∧ mg "_leaves_again" = some (.ref (He.ga K "_leaves_again")) ∧ KDct K w (He.ga K "LIST_FAULTS") "double" (.ref (He.ga K "_arrows_again")) ∧ mg "_arrows_again" = some (.ref (He.ga K "_arrows_again")) ∧ KDct K w (He.ga K "LIST_FAULTS") "none" (.ref (He.ga K "_no_leaves")) ∧ mg "_no_leaves" = some (.ref (He.ga K "_no_leaves"))
  PLACE_FAULTS : mg "PLACE_FAULTS" = some (.ref (He.ga K "PLACE_FAULTS")) ∧ KTab K w (He.ga K "PLACE_FAULTS") ["degree", "roots", "ring", "label", "mixings"] ∧ KVals K (He.ga K "PLACE_FAULTS") [He.ga K "_bad_degrees", He.ga K "_bad_roots", He.ga K "_ring_places", He.ga K "_bad_labels", He.ga K "_too_many_mixings"] ∧ KDct K w (He.ga K "PLACE_FAULTS") "degree" (.ref (He.ga K "_bad_degrees")) ∧ mg "_bad_degrees" = some (.ref (He.ga K "_bad_degrees")) ∧ KDct K w (He.ga K "PLACE_FAULTS") "roots" (.ref (He.ga K "_bad_roots")) ∧ mg "_bad_roots" = some (.ref (He.ga K "_bad_roots")) ∧ KDct K w (He.ga K "PLACE_FAULTS") "ring" (.ref (He.ga K "_ring_places")) ∧ mg "_ring_places" = some (.ref (He.ga K "_ring_places")) ∧ KDct K w (He.ga K "PLACE_FAULTS") "label" (.ref (He.ga K "_bad_labels")) ∧ mg "_bad_labels" = some (.ref (He.ga K "_bad_labels")) ∧ KDct K w (He.ga K "PLACE_FAULTS") "mixings" (.ref (He.ga K "_too_many_mixings")) ∧ mg "_too_many_mixings" = some (.ref (He.ga K "_too_many_mixings"))
  MOMENT_FAULTS : mg "MOMENT_FAULTS" = some (.ref (He.ga K "MOMENT_FAULTS")) ∧ KTab K w (He.ga K "MOMENT_FAULTS") ["back", "gift", "late"] ∧ KVals K (He.ga K "MOMENT_FAULTS") [He.ga K "_back_arrows", He.ga K "_bad_gifts", He.ga K "_late_places"] ∧ KDct K w (He.ga K "MOMENT_FAULTS") "back" (.ref (He.ga K "_back_arrows")) ∧ mg "_back_arrows" = some (.ref (He.ga K "_back_arrows")) ∧ KDct K w (He.ga K "MOMENT_FAULTS") "gift" (.ref (He.ga K "_bad_gifts")) ∧ mg "_bad_gifts" = some (.ref (He.ga K "_bad_gifts")) ∧ KDct K w (He.ga K "MOMENT_FAULTS") "late" (.ref (He.ga K "_late_places")) ∧ mg "_late_places" = some (.ref (He.ga K "_late_places"))
  dict : mg "dict" = none
  max : mg "max" = none
  abs : mg "abs" = none
  Net_cls : Cls K (He.ga K "Net")
  Net_no : ∀ f ∈ (["_arrows", "_leaves", "_mothers", "_children", "_name_at", "_place_at", "_names", "_root"] : List Str), NoAttr K (He.ga K "Net") f
  Net_glo : mg "Net" = some (.ref (He.ga K "Net"))
  Net_ixs : InsX K (He.ga K "Net")
def sp_is_name : Sp := fun vs H Q _ => ∃ (S : Av) (x : V) (d : PyData) (L m : Nat), vs = [x] ∧ Da S H x d ∧ Dd L m d ∧ L ≤ 1000000 ∧ ∀ H', Same H H' → Q (.bl (nameD d)) H'
def wholeD : PyData → Bool
  | .int _ => true
  | _ => false
def sp_is_whole : Sp := fun vs H Q _ => ∃ (S : Av) (x : V) (d : PyData), vs = [x] ∧ Da S H x d ∧ Q (.bl (wholeD d)) H
def sp_is_place : Sp := fun vs H Q _ => ∃ (S : Av) (x : V) (d : PyData), vs = [x] ∧ Da S H x d ∧ Q (.bl (placeD d)) H
def sp_is_whole_pair : Sp := fun vs H Q _ => ∃ (S : Av) (x : V) (d : PyData), vs = [x] ∧ Da S H x d ∧ Q (.bl (timedD d)) H
def sp_is_place_pair : Sp := fun vs H Q _ => ∃ (S : Av) (x : V) (d : PyData), vs = [x] ∧ Da S H x d ∧ Q (.bl (pairD d)) H
def sp_is_labelled_place : Sp := fun vs H Q _ => ∃ (S : Av) (x : V) (d : PyData), vs = [x] ∧ Da S H x d ∧ Q (.bl (labD d)) H
def sp_all_places : Sp := fun vs H Q _ => ∃ (S : Av) (x y : V) (As : List (Int × Int)) (Ls : List (Int × Str)) (P : List Int), vs = [x, y] ∧ Da S H x (.list (As.map pd)) ∧ Da S H y (.list (Ls.map ld)) ∧ 2 * As.length + Ls.length ≤ 1000 ∧
  Asc P (endsOf As ++ Ls.map (·.1)) ∧ P.length < 64 ∧ ∀ H' D, Same H H' → H D = none → H' D = some (.lst (P.map V.int)) → Q (.ref D) H'
def sp_relatives : Sp := fun vs H Q _ => ∃ (S : Av) (x y : V) (As Bs : List (Int × Int)) (Ls : List (Int × Str)) (P : List Int), vs = [x, y] ∧ Da S H x (.list (As.map pd)) ∧ Da S H y (.list (Ls.map ld)) ∧ 2 * As.length + Ls.length ≤ 1000 ∧
  Asc P (endsOf As ++ Ls.map (·.1)) ∧ P.length < 64 ∧ SrtA As Bs ∧ ∀ H' D M C am ac, Same H H' → H D = none → H' D = some (.tup [.ref M, .ref C]) → DiN H H' M P am (upsOf Bs) → DiN H H' C P ac (downsOf Bs) → (∀ p ∈ P, ∀ q ∈ P, am p ≠ ac q) → Q (.ref D) H'
def sp_places_below : Sp := fun vs H Q _ => ∃ (C : Addr) (P : List Int) (ac : Int → Addr) (val : Int → List Int) (p0 : Int), vs = [.int p0, .ref C] ∧ DiR H C P ac val ∧ p0 ∈ P ∧ P.length < 64 ∧ (∀ p ∈ P, (val p).length ≤ 1000 ∧ ∀ q ∈ val p, q ∈ P) ∧
  ∀ H' D (R : List Int), Same H H' → H D = none → H' D = some (.lst (R.map V.int)) → R.Pairwise (· < ·) → (∀ q, q ∈ R ↔ Und val p0 q) → Q (.ref D) H'
def sp_long_lists : Sp := fun vs H Q _ => ∃ (S : Av) (x y : V) (ds es : List PyData), vs = [x, y] ∧ Da S H x (.list ds) ∧ Da S H y (.list es) ∧
  ∀ H' D, Same H H' → H D = none → H' D = some (ixs ((List.range 2).filter fun i => if i = 0 then decide (46 < ds.length) else decide (12 < es.length))) → Q (.ref D) H'
def sp_bad_arrows : Sp := fun vs H Q _ => ∃ (S : Av) (x y : V) (ds : List PyData), vs = [x, y] ∧ Da S H x (.list ds) ∧ ds.length ≤ 1000 ∧
  ∀ H' D, Same H H' → H D = none → H' D = some (.lst ((atB (fun d => !pairD d) ds).map fun i : Nat => V.int i)) → Q (.ref D) H'
def sp_bad_leaves : Sp := fun vs H Q _ => ∃ (S : Av) (y x : V) (ds : List PyData), vs = [y, x] ∧ Da S H x (.list ds) ∧ ds.length ≤ 1000 ∧
  ∀ H' D, Same H H' → H D = none → H' D = some (.lst ((atB (fun d => !labD d) ds).map fun i : Nat => V.int i)) → Q (.ref D) H'
def sp_bad_names : Sp := fun vs H Q _ => ∃ (S : Av) (y x : V) (Ls : List (Int × Str)), vs = [y, x] ∧ Da S H x (.list (Ls.map ld)) ∧ Ls.length < sizeLine ∧ (∀ p ∈ Ls, p.2.length ≤ 1000000) ∧
  ∀ H' D, Same H H' → H D = none → H' D = some (ixs (atB (fun p => !nameL p.2.cps.toList) Ls)) → Q (.ref D) H'
def sp_leaves_again : Sp := fun vs H Q _ => ∃ (S : Av) (y x : V) (Ls : List (Int × Str)), vs = [y, x] ∧ Da S H x (.list (Ls.map ld)) ∧ Ls.length < sizeLine ∧
  ∀ H' D, Same H H' → H D = none → H' D = some (ixs ((List.range Ls.length).filter fun i => (Ls[i]?).any fun p => decide (p.1 ∈ (Ls.map (·.1)).take i) || decide (p.2 ∈ (Ls.map (·.2)).take i))) → Q (.ref D) H'
def sp_arrows_again : Sp := fun vs H Q _ => ∃ (S : Av) (y x : V) (As : List (Int × Int)), vs = [x, y] ∧ Da S H x (.list (As.map pd)) ∧ As.length < sizeLine ∧
  ∀ H' D, Same H H' → H D = none → H' D = some (ixs ((List.range As.length).filter fun i => (As[i]?).any fun p => decide (p ∈ As.take i))) → Q (.ref D) H'
def sp_no_leaves : Sp := fun vs H Q _ => ∃ (S : Av) (y x : V) (ds : List PyData), vs = [y, x] ∧ Da S H x (.list ds) ∧
  ∀ H' D, Same H H' → H D = none → H' D = some (ixs (if ds = [] then [0] else [])) → Q (.ref D) H'
def sp_bad_degrees : Sp := fun vs H Q _ => ∃ (D C : Addr) (z : V) (P : List Int) (am ac : Int → Addr) (up dn : Int → List Int), vs = [.ref D, .ref C, z] ∧ DiR H D P am up ∧ DiR H C P ac dn ∧ H D = some (dKs P am) ∧ P.length < 64 ∧
  ∀ H' R, Same H H' → H R = none → H' R = some (.lst ((P.filter (badDeg up dn)).map V.int)) → Q (.ref R) H'
def sp_bad_roots : Sp := fun vs H Q _ => ∃ (y z : V) (D : Addr) (P : List Int) (am : Int → Addr) (val : Int → List Int), vs = [.ref D, y, z] ∧ DiR H D P am val ∧ H D = some (dKs P am) ∧ P.length < 64 ∧
  ∀ H' R, Same H H' → H R = none → H' R = some (.lst ((if (P.filter fun p => (val p).isEmpty) = [] then P else (P.filter fun p => (val p).isEmpty).drop 1).map V.int)) → Q (.ref R) H'
def sp_ring_places : Sp := fun vs H Q _ => ∃ (M C : V) (D : Addr) (z : V) (P : List Int) (ac : Int → Addr) (val : Int → List Int) (ring : Int → Bool), vs = [M, .ref D, z] ∧ DiR H D P ac val ∧ H D = some (dKs P ac) ∧ P.length < 64 ∧ (∀ p ∈ P, (val p).length ≤ 1000 ∧ ∀ q ∈ val p, q ∈ P) ∧ (∀ p ∈ P, ring p = true ↔ Und val p p) ∧
  ∀ H' R, Same H H' → H R = none → H' R = some (.lst ((P.filter ring).map V.int)) → Q (.ref R) H'
def sp_bad_labels : Sp := fun vs H Q _ => ∃ (M : V) (D : Addr) (lb : Addr) (P : List Int) (ac : Int → Addr) (val : Int → List Int) (Lb : List Int), vs = [M, .ref D, .ref lb] ∧ DiR H D P ac val ∧ H D = some (dKs P ac) ∧ P.length < 64 ∧ H lb = some (.lst (Lb.map V.int)) ∧
  ∀ H' R, Same H H' → H R = none → H' R = some (.lst ((P.filter fun p => (val p).isEmpty != decide (p ∈ Lb)).map V.int)) → Q (.ref R) H'
def sp_too_many_mixings : Sp := fun vs H Q _ => ∃ (y z : V) (D : Addr) (P : List Int) (am : Int → Addr) (val : Int → List Int), vs = [.ref D, y, z] ∧ DiR H D P am val ∧ H D = some (dKs P am) ∧ P.length < 64 ∧
  ∀ H' R, Same H H' → H R = none → H' R = some (.lst (if 8 < (P.filter fun p => (val p).length == 2).length then [.int (P.filter fun p => (val p).length == 2).length] else [])) → Q (.ref R) H'
def FinL (K : PySem.W.Frag) (S0 : Av) (H : Hp) (ks : List Str) (as : List Addr) (gs : List V) (ls : List (Str × List PyData)) : Prop :=
  (∃ (S : Av) (x y : V) (ds es : List PyData), gs = [x, y] ∧ ks = (["long", "arrow", "leaf", "name", "again", "double", "none"] : List Str) ∧
    as = [He.ga K "_long_lists", He.ga K "_bad_arrows", He.ga K "_bad_leaves", He.ga K "_bad_names", He.ga K "_leaves_again", He.ga K "_arrows_again", He.ga K "_no_leaves"] ∧
    Da S H x (.list ds) ∧ Da S H y (.list es) ∧ ds.length ≤ 1000 ∧ es.length ≤ 1000 ∧ (∀ p ∈ lsOf es, p.2.length ≤ 1000000) ∧ ls = (lfinds ds es).map fun p => (p.1, p.2.map fun n : Nat => PyData.int (n : Int))) ∨
  (∃ (M C lb : Addr) (P Lb : List Int) (am ac : Int → Addr) (Bs : List (Int × Int)) (ring : Int → Bool), gs = [.ref M, .ref C, .ref lb] ∧ ks = (["degree", "roots", "ring", "label", "mixings"] : List Str) ∧
    as = [He.ga K "_bad_degrees", He.ga K "_bad_roots", He.ga K "_ring_places", He.ga K "_bad_labels", He.ga K "_too_many_mixings"] ∧
    DiR H M P am (upsOf Bs) ∧ DiR H C P ac (downsOf Bs) ∧ H M = some (dKs P am) ∧ H C = some (dKs P ac) ∧ H lb = some (.lst (Lb.map V.int)) ∧ P.length < 64 ∧
    (∀ p ∈ P, (downsOf Bs p).length ≤ 1000 ∧ ∀ q ∈ downsOf Bs p, q ∈ P) ∧ (∀ p ∈ P, ring p = true ↔ Und (downsOf Bs) p p) ∧ ls = (pfinds P (upsOf Bs) (downsOf Bs) ring Lb).map fun p => (p.1, p.2.map PyData.int)) ∨
  ∃ (o D : Addr) (Bs : List (Int × Int)) (Ls Ms : List (Int × Str)) (P : List Int) (root : Int) (f : Int → Int), gs = [.ref o, .ref D] ∧ ks = (["back", "gift", "late"] : List Str) ∧
    as = [He.ga K "_back_arrows", He.ga K "_bad_gifts", He.ga K "_late_places"] ∧ NetAt S0 K H o Bs Ls Ms P root ∧ Al S0 H ∧ H D = some (dIs P f) ∧ P.length < 64 ∧ Bs.length ≤ 46 ∧ (∀ b ∈ Bs, b.1 ∈ P ∧ b.2 ∈ P) ∧ ls = mfinds P Bs f
def sp_first_fault (K : PySem.W.Frag) : Sp := fun vs H Q _ => ∃ (S0 : Av) (H0 : Hp) (D G : Addr) (ks : List Str) (as : List Addr) (gs : List V) (ls : List (Str × List PyData)), vs = [.ref D, .ref G] ∧ FinL K S0 H0 ks as gs ls ∧ Same H0 H ∧ H0 D = none ∧ H D = some (tabO ks as) ∧ H G = some (.tup gs) ∧
  (firstF ls = none → ∀ H', Same H0 H' → Q .non H') ∧ ∀ wd d, firstF ls = some (wd, d) → ∀ H' R v, Same H0 H' → H0 R = none → H' R = some (.tup [.str wd, v]) → Da S0 H' v d → Q (.ref R) H'
/-- the tables whose functions list ints -/
theorem ff_int {α : Type} {l : List (Str × List α)} {g : α → PyData} (h : firstF l = none) : firstF (l.map fun p => (p.1, p.2.map g)) = none := by
  unfold firstF at h ⊢
  rw [List.findSome?_eq_none_iff] at h ⊢
  intro x hx
  obtain ⟨y, hy, rfl⟩ := List.mem_map.mp hx
  have := h y hy
  cases hz : y.2 with
  | nil => rfl
  | cons a r => rw [hz] at this; cases this
theorem ff_none {α : Type} {g : α → PyData} {l : List (Str × List α)} (h : firstF (l.map fun p => (p.1, p.2.map g)) = none) : firstF l = none := by
  unfold firstF at h ⊢
  rw [List.findSome?_eq_none_iff] at h ⊢
  intro x hx
  have := h _ (List.mem_map_of_mem hx)
  cases hz : x.2 with
  | nil => rfl
  | cons a r => rw [hz] at this; cases this
theorem ff_ints {α : Type} {g : α → PyData} {wd : Str} {d : PyData} : ∀ {l : List (Str × List α)}, firstF (l.map fun p => (p.1, p.2.map g)) = some (wd, d) → ∃ a, firstF l = some (wd, a) ∧ d = g a
  | [], h => by cases h
  | x :: l, h => by
    unfold firstF at h ⊢
    rw [List.map_cons, List.findSome?_cons] at h
    rw [List.findSome?_cons]
    cases hz : x.2 with
    | nil =>
      rw [hz] at h
      exact ff_ints (l := l) h
    | cons a r =>
      rw [hz] at h
      cases h
      exact ⟨a, rfl, rfl⟩
def sp_net_fault (K : PySem.W.Frag) : Sp := fun vs H Q _ => ∃ (S : Av) (x y : V) (As Bs : List (Int × Int)) (Ls : List (Int × Str)) (P : List Int) (ring : Int → Bool), vs = [x, y] ∧ Da S H x (.list (As.map pd)) ∧ Da S H y (.list (Ls.map ld)) ∧ 2 * As.length + Ls.length ≤ 1000 ∧
  Asc P (endsOf As ++ Ls.map (·.1)) ∧ P.length < 64 ∧ SrtA As Bs ∧ (∀ p ∈ P, ring p = true ↔ Und (downsOf Bs) p p) ∧ (∀ p ∈ Ls, p.2.length ≤ 1000000) ∧ firstF (lfinds (As.map pd) (Ls.map ld)) = none ∧
  (firstF (pfinds P (upsOf Bs) (downsOf Bs) ring (Ls.map (·.1))) = none → ∀ H', Same H H' → Q .non H') ∧ ∀ wd i, firstF (pfinds P (upsOf Bs) (downsOf Bs) ring (Ls.map (·.1))) = some (wd, i) → ∀ H' R, Same H H' → H R = none → H' R = some (.tup [.str wd, .int i]) → Q (.ref R) H'
def sp_has_form (K : PySem.W.Frag) : Sp := fun vs H Q _ => ∃ (S : Av) (o : Addr) (x : V) (d : PyData) (Bs : List (Int × Int)) (Ls Ms : List (Int × Str)) (P : List Int) (root : Int), vs = [.ref o, x] ∧ NetAt S K H o Bs Ls Ms P root ∧ Al S H ∧ Da S H x d ∧ Dd 5000 70 d ∧ P.length < 64 ∧ ∀ H', Same H H' → Q (.bl (hfB P d)) H'
def sp_back_arrows (K : PySem.W.Frag) : Sp := fun vs H Q _ => ∃ (S : Av) (o D : Addr) (Bs : List (Int × Int)) (Ls Ms : List (Int × Str)) (P : List Int) (root : Int) (f : Int → Int), vs = [.ref o, .ref D] ∧ NetAt S K H o Bs Ls Ms P root ∧ Al S H ∧ H D = some (dIs P f) ∧ P.length < 64 ∧ Bs.length ≤ 46 ∧ (∀ b ∈ Bs, b.1 ∈ P ∧ b.2 ∈ P) ∧
  ∀ (H' : Hp) (R : Addr) (ys : List V), Same H H' → H R = none → H' R = some (.lst ys) → DaAll S H' ys ((Bs.filter (backB Bs f)).map pd) → Q (.ref R) H'
def sp_bad_gifts (K : PySem.W.Frag) : Sp := fun vs H Q _ => ∃ (S : Av) (o D : Addr) (Bs : List (Int × Int)) (Ls Ms : List (Int × Str)) (P : List Int) (root : Int) (f : Int → Int), vs = [.ref o, .ref D] ∧ NetAt S K H o Bs Ls Ms P root ∧ Al S H ∧ H D = some (dIs P f) ∧ P.length < 64 ∧ Bs.length ≤ 46 ∧ (∀ b ∈ Bs, b.1 ∈ P ∧ b.2 ∈ P) ∧
  ∀ (H' : Hp) (R : Addr), Same H H' → H R = none → H' R = some (.lst ((P.filter (giftB Bs f)).map V.int)) → Q (.ref R) H'
def sp_late_places (K : PySem.W.Frag) : Sp := fun vs H Q _ => ∃ (S : Av) (o D : Addr) (Bs : List (Int × Int)) (Ls Ms : List (Int × Str)) (P : List Int) (root : Int) (f : Int → Int), vs = [.ref o, .ref D] ∧ NetAt S K H o Bs Ls Ms P root ∧ Al S H ∧ H D = some (dIs P f) ∧ P.length < 64 ∧ Bs.length ≤ 46 ∧ (∀ b ∈ Bs, b.1 ∈ P ∧ b.2 ∈ P) ∧
  ∀ (H' : Hp) (R : Addr), Same H H' → H R = none → H' R = some (.lst ((P.filter (lateB Bs f)).map V.int)) → Q (.ref R) H'
def sp_moment_fault (K : PySem.W.Frag) : Sp := fun vs H Q _ => ∃ (S : Av) (o : Addr) (x : V) (d r : PyData) (Bs : List (Int × Int)) (Ls Ms : List (Int × Str)) (P : List Int) (root : Int), vs = [.ref o, x] ∧ NetAt S K H o Bs Ls Ms P root ∧ Al S H ∧ Da S H x d ∧ Dd 5000 70 d ∧ ((hfB P d = false ∧ r = formD) ∨ ∃ f, d = pdL (papD P f) ∧ r = mfD P Bs f) ∧ P.length < 64 ∧ P.Pairwise (· < ·) ∧ Bs.length ≤ 46 ∧ (∀ b ∈ Bs, b.1 ∈ P ∧ b.2 ∈ P) ∧
  ∀ (H' : Hp) (v : V), Same H H' → Da S H' v r → Q v H'
def sp_is_moments (K : PySem.W.Frag) : Sp := fun vs H Q _ => ∃ (S : Av) (o : Addr) (x : V) (d r : PyData) (Bs : List (Int × Int)) (Ls Ms : List (Int × Str)) (P : List Int) (root : Int), vs = [.ref o, x] ∧ NetAt S K H o Bs Ls Ms P root ∧ Al S H ∧ Da S H x d ∧ Dd 5000 70 d ∧ ((hfB P d = false ∧ r = formD) ∨ ∃ f, d = pdL (papD P f) ∧ r = mfD P Bs f) ∧ P.length < 64 ∧ P.Pairwise (· < ·) ∧ Bs.length ≤ 46 ∧ (∀ b ∈ Bs, b.1 ∈ P ∧ b.2 ∈ P) ∧
  ∀ (H' : Hp) (b : Bool), Same H H' → (b = true ↔ r = .none) → Q (.bl b) H'
def sp_Net___init (K : PySem.W.Frag) : Sp := fun vs H Q _ => ∃ (S : Av) (o dx : Addr) (x y : V) (As Bs : List (Int × Int)) (Ls : List (Int × Str)) (P : List Int) (ring : Int → Bool) (root : Int), vs = [.ref o, x, y] ∧ H o = some (.ins (He.ga K "Net") dx []) ∧ ¬ S o ∧ (∀ b, S b → ∃ u, H b = some u) ∧ (∃ a xs, x = .ref a ∧ H a = some (.lst xs) ∧ DaAll S H xs (As.map pd)) ∧ (∃ b ys, y = .ref b ∧ H b = some (.lst ys) ∧ DaAll S H ys (Ls.map ld)) ∧ 2 * As.length + Ls.length ≤ 1000 ∧ Ls.length < 64 ∧
  Asc P (endsOf As ++ Ls.map (·.1)) ∧ P.length < 64 ∧ SrtA As Bs ∧ (∀ p ∈ P, ring p = true ↔ Und (downsOf Bs) p p) ∧ (∀ p ∈ Ls, p.2.length ≤ 1000000) ∧ firstF (lfinds (As.map pd) (Ls.map ld)) = none ∧
  firstF (pfinds P (upsOf Bs) (downsOf Bs) ring (Ls.map (·.1))) = none ∧ (Ls.map (·.1)).Nodup ∧ (Ls.map (·.2)).Nodup ∧ (P.filter fun p => (upsOf Bs p).isEmpty) = [root] ∧
  ∀ H' Ms, But o H H' → NetAt S K H' o Bs Ls Ms P root → Q .non H'
def sp_Net_places (K : PySem.W.Frag) : Sp := fun vs H Q _ => ∃ (S : Av) (o : Addr) (Bs : List (Int × Int)) (Ls Ms : List (Int × Str)) (P : List Int) (root : Int), vs = [.ref o] ∧ NetAt S K H o Bs Ls Ms P root ∧ ∀ (H' : Hp) (R : Addr), Same H H' → H R = none → H' R = some (.lst (P.map V.int)) → Q (.ref R) H'
def sp_Net_inner (K : PySem.W.Frag) : Sp := fun vs H Q _ => ∃ (S : Av) (o : Addr) (Bs : List (Int × Int)) (Ls Ms : List (Int × Str)) (P : List Int) (root : Int), vs = [.ref o] ∧ NetAt S K H o Bs Ls Ms P root ∧ P.length < 64 ∧ ∀ (H' : Hp) (R : Addr), Same H H' → H R = none → H' R = some (.lst ((P.filter (fun p => !(downsOf Bs p).isEmpty)).map V.int)) → Q (.ref R) H'
def sp_Net_splits (K : PySem.W.Frag) : Sp := fun vs H Q _ => ∃ (S : Av) (o : Addr) (Bs : List (Int × Int)) (Ls Ms : List (Int × Str)) (P : List Int) (root : Int), vs = [.ref o] ∧ NetAt S K H o Bs Ls Ms P root ∧ P.length < 64 ∧ ∀ (H' : Hp) (R : Addr), Same H H' → H R = none → H' R = some (.lst ((P.filter (fun p => (downsOf Bs p).length == 2)).map V.int)) → Q (.ref R) H'
def sp_Net_mixings (K : PySem.W.Frag) : Sp := fun vs H Q _ => ∃ (S : Av) (o : Addr) (Bs : List (Int × Int)) (Ls Ms : List (Int × Str)) (P : List Int) (root : Int), vs = [.ref o] ∧ NetAt S K H o Bs Ls Ms P root ∧ P.length < 64 ∧ ∀ (H' : Hp) (R : Addr), Same H H' → H R = none → H' R = some (.lst ((P.filter (fun p => (upsOf Bs p).length == 2)).map V.int)) → Q (.ref R) H'
def sp_Net_arrows (K : PySem.W.Frag) : Sp := fun vs H Q _ => ∃ (S : Av) (o : Addr) (Bs : List (Int × Int)) (Ls Ms : List (Int × Str)) (P : List Int) (root : Int), vs = [.ref o] ∧ NetAt S K H o Bs Ls Ms P root ∧ ∀ (H' : Hp) (R : Addr) (ys : List V), Same H H' → H R = none → H' R = some (.lst ys) → DaAll S H' ys (Bs.map pd) → Q (.ref R) H'
def sp_Net_leaves (K : PySem.W.Frag) : Sp := fun vs H Q _ => ∃ (S : Av) (o : Addr) (Bs : List (Int × Int)) (Ls Ms : List (Int × Str)) (P : List Int) (root : Int), vs = [.ref o] ∧ NetAt S K H o Bs Ls Ms P root ∧ ∀ (H' : Hp) (R : Addr) (ys : List V), Same H H' → H R = none → H' R = some (.lst ys) → DaAll S H' ys (Ms.map ld) → Q (.ref R) H'
def sp_Net_names (K : PySem.W.Frag) : Sp := fun vs H Q _ => ∃ (S : Av) (o : Addr) (Bs : List (Int × Int)) (Ls Ms : List (Int × Str)) (P : List Int) (root : Int), vs = [.ref o] ∧ NetAt S K H o Bs Ls Ms P root ∧ ∀ (H' : Hp) (R : Addr) (ns : List Str), Same H H' → H R = none → H' R = some (.lst (ns.map V.str)) → ns.Perm (Ls.map (·.2)) → sortedS ns = true → Q (.ref R) H'
def sp_Net_mothers (K : PySem.W.Frag) : Sp := fun vs H Q _ => ∃ (S : Av) (o : Addr) (Bs : List (Int × Int)) (Ls Ms : List (Int × Str)) (P : List Int) (root : Int) (p : Int), vs = [.ref o, .int p] ∧ NetAt S K H o Bs Ls Ms P root ∧ p ∈ P ∧ ∀ (H' : Hp) (R : Addr), Same H H' → H R = none → H' R = some (.lst ((upsOf Bs p).map V.int)) → Q (.ref R) H'
def sp_Net_children (K : PySem.W.Frag) : Sp := fun vs H Q _ => ∃ (S : Av) (o : Addr) (Bs : List (Int × Int)) (Ls Ms : List (Int × Str)) (P : List Int) (root : Int) (p : Int), vs = [.ref o, .int p] ∧ NetAt S K H o Bs Ls Ms P root ∧ p ∈ P ∧ ∀ (H' : Hp) (R : Addr), Same H H' → H R = none → H' R = some (.lst ((downsOf Bs p).map V.int)) → Q (.ref R) H'
def sp_Net___eq (K : PySem.W.Frag) : Sp := fun vs H Q _ => ∃ (o1 : Addr) (y : V), vs = [.ref o1, y] ∧ ((∃ (S : Av) (o2 : Addr) (Bs1 Bs2 : List (Int × Int)) (Ls1 Ms1 Ls2 Ms2 : List (Int × Str)) (P1 P2 : List Int) (r1 r2 : Int), y = .ref o2 ∧ NetAt S K H o1 Bs1 Ls1 Ms1 P1 r1 ∧ NetAt S K H o2 Bs2 Ls2 Ms2 P2 r2 ∧
  (∀ p ∈ Ms1, nameL p.2.cps.toList = true) ∧ (∀ p ∈ Ms2, nameL p.2.cps.toList = true) ∧ Q (.bl (decide (Bs1 = Bs2) && decide (Ms1 = Ms2))) H) ∨
  ∃ (S : Av) (d : PyData), Da S H y d ∧ Q (.bl false) H)
def sp_Net__demand (K : PySem.W.Frag) : Sp := fun vs H Q _ => ∃ (S : Av) (o : Addr) (Bs : List (Int × Int)) (Ls Ms : List (Int × Str)) (P : List Int) (root : Int) (p : Int), vs = [.ref o, .int p] ∧ NetAt S K H o Bs Ls Ms P root ∧ p ∈ P ∧ ∀ H', Same H H' → Q .non H'




def sp_law_mixed : Sp := fun vs H Q _ => ∃ (S : Av) (s : Addr) (x : V) (ds : List PyData), vs = [.ref s, x] ∧ SS S s H ∧ Da S H x (.list ds) ∧ ds.length ≤ 1000 ∧ ∀ (H' : Hp) (v : V) (es : List PyData), Keep s H H' → SO S s H' → es.Perm ds → Da S H' v (.list es) → (∃ a, v = .ref a ∧ H a = none) → Q v H'
def sp_law_number : Sp := fun vs H Q _ => ∃ (S : Av) (s : Addr), vs = [.ref s] ∧ SO S s H ∧ ∀ (H' : Hp) (n : Int), Keep s H H' → SO S s H' → Q (.int n) H'
def sp_law_same (n : Nat) : Sp := fun vs H Q _ => ∃ (S : Av) (x y : V) (d e : PyData) (L m : Nat), vs = [x, y] ∧ Al S H ∧ Da S H x d ∧ Da S H y e ∧ Dd L m e ∧ m < n ∧ L ≤ 1000000 ∧ ∀ (H' : Hp) (b : Bool), Same H H' → (b = true ↔ d = e) → Q (.bl b) H'
def sp_law_copy (n : Nat) : Sp := fun vs H Q _ => ∃ (S : Av) (x : V) (d : PyData) (L m : Nat), vs = [x] ∧ Al S H ∧ Da S H x d ∧ Dd L m d ∧ m < n ∧ L ≤ 1000000 ∧ ∀ (H' : Hp) (v : V), Same H H' → Da S H' v d → Q v H'
def sp_law_whole : Sp := fun vs H Q _ => ∃ (S : Av) (x : V) (d : PyData), vs = [x] ∧ Da S H x d ∧ Q (.bl (wholeD' d)) H
def sp_law_sign : Sp := fun vs H Q _ => ∃ (S : Av) (s : Addr), vs = [.ref s] ∧ SO S s H ∧ ∀ (H' : Hp) (c : Nat), Keep s H H' → SO S s H' → Q (.str ⟨#[c]⟩) H'
def sp_law_string : Sp := fun vs H Q _ => ∃ (S : Av) (s : Addr), vs = [.ref s] ∧ SO S s H ∧ ∀ (H' : Hp) (z : Str), Keep s H H' → SO S s H' → z.length ≤ 4000 → Q (.str z) H'
def sp_law_atom : Sp := fun vs H Q _ => ∃ (S : Av) (s : Addr), vs = [.ref s] ∧ SO S s H ∧ ∀ (H' : Hp) (v : V) (d : PyData), Keep s H H' → SO S s H' → (∀ (S : Av) (H2 : Hp), Da S H2 v d) → Dd 4000 0 d → Q v H'
def sp_law_plain : Sp := fun vs H Q _ => ∃ (S : Av) (s : Addr), vs = [.ref s] ∧ SS S s H ∧ ∀ (H' : Hp) (v : V) (d : PyData), Keep s H H' → SO S s H' → Da S H' v d → Dd 4000 60 d → Q v H'
def sp_law_all : Sp := fun vs H Q _ => ∃ (S : Av) (x : V) (As : List (Int × Int)) (Ls : List (Int × Str)) (P : List Int), vs = [x] ∧ Da S H x (netD As Ls) ∧ 2 * As.length + Ls.length ≤ 1000 ∧ Asc P (endsOf As ++ Ls.map (·.1)) ∧ P.length < 64 ∧ ∀ (H' : Hp) (R : Addr), Same H H' → H R = none → H' R = some (.lst (P.map V.int)) → Q (.ref R) H'
def sp_law_ups : Sp := fun vs H Q _ => ∃ (S : Av) (x : V) (As Bs : List (Int × Int)) (Ls : List (Int × Str)) (P : List Int), vs = [x] ∧ Da S H x (netD As Ls) ∧ 2 * As.length + Ls.length ≤ 1000 ∧ Asc P (endsOf As ++ Ls.map (·.1)) ∧ P.length < 64 ∧ SrtA As Bs ∧ ∀ (H' : Hp) (D : Addr) (am : Int → Addr), Same H H' → DiN H H' D P am (upsOf Bs) → Q (.ref D) H'
def sp_law_downs : Sp := fun vs H Q _ => ∃ (S : Av) (x : V) (As Bs : List (Int × Int)) (Ls : List (Int × Str)) (P : List Int), vs = [x] ∧ Da S H x (netD As Ls) ∧ 2 * As.length + Ls.length ≤ 1000 ∧ Asc P (endsOf As ++ Ls.map (·.1)) ∧ P.length < 64 ∧ SrtA As Bs ∧ ∀ (H' : Hp) (D : Addr) (am : Int → Addr), Same H H' → DiN H H' D P am (downsOf Bs) → Q (.ref D) H'
def sp_law_renamed : Sp := fun vs H Q _ => ∃ (S : Av) (x : V) (D : Addr) (As : List (Int × Int)) (Ls : List (Int × Str)) (P : List Int) (f : Int → Int), vs = [x, .ref D] ∧ Al S H ∧ Da S H x (netD As Ls) ∧ H D = some (dIs P f) ∧ (∀ a ∈ As, a.1 ∈ P ∧ a.2 ∈ P) ∧ (∀ l ∈ Ls, l.1 ∈ P) ∧ As.length ≤ 1000 ∧ Ls.length ≤ 1000 ∧
  ∀ (H' : Hp) (v : V) (As' : List (Int × Int)) (Ls' : List (Int × Str)), Same H H' → As'.Perm (As.map fun a => (f a.1, f a.2)) → Ls'.Perm (Ls.map fun l => (f l.1, l.2)) → SrtA As' As' → SrtL Ls' Ls' → Da S H' v (netD As' Ls') → Q v H'
def sp_law_lists : Sp := fun vs H Q _ => ∃ (S : Av) (s : Addr) (x : V) (As : List (Int × Int)) (Ls : List (Int × Str)), vs = [.ref s, x] ∧ SS S s H ∧ Da S H x (netD As Ls) ∧ As.length ≤ 1000 ∧ Ls.length ≤ 1000 ∧ ∀ (H' : Hp) (v : V) (As' : List (Int × Int)) (Ls' : List (Int × Str)), Keep s H H' → SO S s H' → As'.Perm As → Ls'.Perm Ls → Da S H' v (netD As' Ls') → (∃ R A L, v = .ref R ∧ H' R = some (.lst [.ref A, .ref L]) ∧ H A = none ∧ H L = none ∧ A ≠ L ∧ A ≠ R ∧ L ≠ R) → Q v H'
def sp_law_is_net (K : PySem.W.Frag) : Sp := fun vs H Q _ => ∃ (S : Av) (o : Addr) (x : V) (As Bs : List (Int × Int)) (Ls Ls' Ms : List (Int × Str)) (P : List Int) (root : Int), vs = [.ref o, x] ∧ Al S H ∧ NetAt S K H o Bs Ls' Ms P root ∧ Da S H x (netD As Ls) ∧ Good As Ls P ∧ SrtA As Bs ∧ SrtL Ls Ms ∧ ∀ H', Same H H' → Q (.bl true) H'
def sp_law_paper : Sp := fun vs H Q _ => ∃ (S : Av) (D : Addr) (P0 P : List Int) (f : Int → Int), vs = [.ref D] ∧ Al S H ∧ H D = some (dIs P0 f) ∧ P0.Perm P ∧ P.length < 64 ∧ P.Pairwise (· < ·) ∧ ∀ (H' : Hp) (v : V), Same H H' → Da S H' v (pdL (P.map fun p => (p, f p))) → Q v H'
def sp_law_fits : Sp := fun vs H Q _ => ∃ (S : Av) (x : V) (D : Addr) (As Bs : List (Int × Int)) (Ls : List (Int × Str)) (P0 P : List Int) (f : Int → Int), vs = [x, .ref D] ∧ Al S H ∧ Da S H x (netD As Ls) ∧ Good As Ls P ∧ SrtA As Bs ∧ H D = some (dIs P0 f) ∧ P0.Perm P ∧ ∀ (H' : Hp) (v : V), Same H H' → Da S H' v (mfD P Bs f) → Q v H'
def sp_law_moment_fault : Sp := fun vs H Q _ => ∃ (S : Av) (x y : V) (d r : PyData) (As Bs : List (Int × Int)) (Ls : List (Int × Str)) (P : List Int), vs = [x, y] ∧ Al S H ∧ Da S H x (netD As Ls) ∧ Da S H y d ∧ Dd 5000 70 d ∧ Good As Ls P ∧ SrtA As Bs ∧ ((hfB P d = false ∧ r = formD) ∨ ∃ f, d = pdL (papD P f) ∧ r = mfD P Bs f) ∧ ∀ (H' : Hp) (v : V), Same H H' → Da S H' v r → Q v H'
def sp_law_gap : Sp := fun vs H Q _ => ∃ (S : Av) (s : Addr) (kind : Int), vs = [.ref s, .int kind] ∧ SS S s H ∧ ∀ (H' : Hp) (n : Int), Keep s H H' → SO S s H' → 1 ≤ n → n ≤ 100000000000000000000000000000000000000000000000000 → Q (.int n) H'
def sp_law_measures : Sp := fun vs H Q _ => ∃ (S : Av) (s : Addr), vs = [.ref s] ∧ SS S s H ∧ ∀ (H' : Hp) (R : Addr) (n m : Int), Keep s H H' → SO S s H' → R ≠ s → H' R = some (.lst [.int n, .int m]) → 1 ≤ n → n ≤ 12 → 0 ≤ m → m ≤ 8 → Q (.ref R) H'
def sp_law_called : Sp := fun vs H Q _ => ∃ (S : Av) (s : Addr) (many : Int), vs = [.ref s, .int many] ∧ SS S s H ∧ 1 ≤ many ∧ many ≤ 12 ∧ ∀ (H' : Hp) (R : Addr) (ns : List Str), Keep s H H' → SO S s H' → H R = none → H' R = some (.lst (ns.map V.str)) → ns.Nodup → (ns.length : Int) = many → (∀ z ∈ ns, nameL z.cps.toList = true ∧ z.length ≤ 8) → Q (.ref R) H'
def sp_law_counted (K : PySem.W.Frag) : Sp := fun vs H Q _ => ∃ (S : Av) (s R : Addr) (P : List Int), vs = [.ref s, .ref R] ∧ SS S s H ∧ R ≠ s ∧ H R = some (.lst (P.map V.int)) ∧ P.length ≤ 47 ∧ P.Nodup ∧
  ∀ (H' : Hp) (D : Addr) (f : Int → Int), Keep s H H' → SO S s H' → H D = none → H' D = some (dIs P f) → (∀ p ∈ P, ∀ q ∈ P, f p = f q → p = q) → (∀ p ∈ P, 0 ≤ f p ∧ f p ≤ 9999) → Q (.ref D) H'
def sp_law_timed (K : PySem.W.Frag) : Sp := fun vs H Q _ => ∃ (S : Av) (s : Addr) (x : V) (ns : List Str) (m : Nat), vs = [.ref s, x, .int m] ∧ SS S s H ∧ Da S H x (.list (ns.map PyData.str)) ∧ 1 ≤ ns.length ∧ ns.length ≤ 12 ∧ m ≤ 8 ∧ ns.Nodup ∧ (∀ z ∈ ns, nameL z.cps.toList = true ∧ z.length ≤ 8) ∧
  ∀ (H' : Hp) (R D : Addr) (v : V) (As : List (Int × Int)) (Ls : List (Int × Str)) (P : List Int) (f : Int → Int), Keep s H H' → SO S s H' → R ≠ s → D ≠ s → H' R = some (.lst [v, .ref D]) → Da S H' v (netD As Ls) → H' D = some (dIs P f) → Good As Ls P → FitsC P As f → (∀ p ∈ P, -10000000000000000000000000000000000000000000000000000 ≤ f p ∧ f p ≤ 10000000000000000000000000000000000000000000000000000) → Q (.ref R) H'
def sp_law_case : Sp := fun vs H Q _ => ∃ (S : Av) (s : Addr), vs = [.ref s] ∧ SS S s H ∧
  ∀ (H' : Hp) (R : Addr) (v : V) (D : Addr) (As : List (Int × Int)) (Ls : List (Int × Str)) (P P0 : List Int) (f : Int → Int), Keep s H H' → SO S s H' → R ≠ s → D ≠ s → H' R = some (.lst [v, .ref D]) → Da S H' v (netD As Ls) → H' D = some (dIs P0 f) → P0.Perm P → Good As Ls P → SrtA As As → SrtL Ls Ls → FitsC P As f → (∀ p ∈ P0, -10000000000000000000000000000000000000000000000000000 ≤ f p ∧ f p ≤ 10000000000000000000000000000000000000000000000000000) → Q (.ref R) H'
def sp_law_odd_place : Sp := fun vs H Q _ => ∃ (S : Av) (s : Addr) (x : V) (P : List Int) (f : Int → Int), vs = [.ref s, x] ∧ SS S s H ∧ Da S H x (pdL (papD P f)) ∧ 0 < P.length ∧ P.length < 64 ∧ (∀ p ∈ P, 0 ≤ p ∧ p ≤ 9999) ∧ (∀ p ∈ P, -10000000000000000000000000000000000000000000000000000 ≤ f p ∧ f p ≤ 10000000000000000000000000000000000000000000000000000) ∧
  ∀ (H' : Hp) (v : V) (d : PyData), Keep s H H' → SO S s H' → Da S H' v d → Dd 5000 70 d → Q v H'
def sp_law_odd_part : Sp := fun vs H Q _ => ∃ (S : Av) (s : Addr) (x : V) (P : List Int) (f : Int → Int) (side : Int), vs = [.ref s, x, .int side] ∧ SS S s H ∧ Da S H x (pdL (papD P f)) ∧ 0 < P.length ∧ P.length < 64 ∧ (∀ p ∈ P, 0 ≤ p ∧ p ≤ 9999) ∧ (∀ p ∈ P, -10000000000000000000000000000000000000000000000000000 ≤ f p ∧ f p ≤ 10000000000000000000000000000000000000000000000000000) ∧ (side = 0 ∨ side = 1) ∧
  ∀ (H' : Hp) (v : V) (d : PyData), Keep s H H' → SO S s H' → Da S H' v d → Dd 5000 70 d → Q v H'
def sp_law_bent : Sp := fun vs H Q _ => ∃ (S : Av) (s : Addr) (x : V) (P : List Int) (f : Int → Int), vs = [.ref s, x] ∧ SS S s H ∧ Da S H x (pdL (papD P f)) ∧ 0 < P.length ∧ P.length < 64 ∧ (∀ p ∈ P, 0 ≤ p ∧ p ≤ 9999) ∧ (∀ p ∈ P, -10000000000000000000000000000000000000000000000000000 ≤ f p ∧ f p ≤ 10000000000000000000000000000000000000000000000000000) ∧
  ∀ (H' : Hp) (v : V) (d : PyData), Keep s H H' → SO S s H' → Da S H' v d → Dd 5000 70 d → Q v H'
def sp_law_asked (K : PySem.W.Frag) : Sp := fun vs H Q _ => ∃ (S : Av) (o : Addr) (x y : V) (d : PyData) (As Bs : List (Int × Int)) (Ls Ls' Ms : List (Int × Str)) (P : List Int) (root : Int), vs = [.ref o, x, y] ∧ Al S H ∧ NetAt S K H o Bs Ls' Ms P root ∧ Da S H x (netD As Ls) ∧ Good As Ls P ∧ SrtA As Bs ∧ Da S H y d ∧ Dd 5000 70 d ∧ ∀ H', Same H H' → Q (.bl true) H'
def sp_law (K : PySem.W.Frag) : Sp := fun vs H Q _ => ∃ (a : Addr) (ns : List Int), vs = [.ref a] ∧ SqL K H a (ns.map V.int) ∧ ns.length ≤ 63 ∧ ∀ H', Q (.bl true) H'
section
variable {P : Program} {w : World} {K : PySem.W.Frag} {mg : Str → Option Value} {base : Heap} {f : Addr} {fd : FuncData} {k : Nat}

set_option maxHeartbeats 4000000 in
theorem ok_is_name  (F : Fun K "is_name" "is_name" s_is_name f fd) (T : Txt w K mg) : FnOk P w K mg base CX0 (k + 1) f fd ["value"] (sp_is_name) := by
  refine F.ok sc_is_name (fun vs H Q E h => ?_) (fun cdv A outer s0 H vs Q E hr h => ?_)
  · obtain ⟨S, x, d, L, m, rfl, hd, hD, hL, q⟩ := h
    rfl
  · obtain ⟨S, x, d, L, m, rfl, hd, hD, hL, q⟩ := h
    refine ⟨_, (pss_cons (ps_if (PW.pt (pw_or (pt_not (pt_val (pe_callB call_isD (by rfl) T.isinstance (by decide +kernel) (pa_cons (pv 0) (pa_cons (pe_bltn (v := .ty "str") (by rfl) T.str (by decide +kernel) rfl) pa_nil))))) (pw_or1 (pt_not (pt_chain op_le op_le pe_int (pe_callB call_len_str (by rfl) T.len PySem.boot_len (pa_cons (pv 0) pa_nil)) (pe_gint (by rfl) T.LONGEST_NAME))))))
        (pss_one (ps_ret pe_bl))
        pss_nil)
      (pss_one (ps_ret (pe_and (pe_cmpR op_in_sign (pe_ix ix_str (pv 0) pe_int (fun _ _ => rfl)) (pe_gstr (by rfl) T.LETTERS) rfl) (pe_one (pe_callB (cr_all rfl) (by rfl) T.all (by decide +kernel) (pa_cons (pe_lc (own := [("sign", 1)]) (by rfl) sc_is_name.nd (pi_str (pv 0)) (blkOk_by (own := [("sign", 1)]) (N := ["value", "sign"]) (sc := defScope s_is_name) (by decide +kernel)) (fun _ _ _ _ _ => pg_name (i := 1) sc_is_name.nd rfl (Or.inl rfl)) (fun _ _ _ _ _ => pts_nil) (fun _ _ _ _ _ => (pe_cmpR op_in_sign (pv 1) (pe_op op_add_str (pe_gstr (by rfl) T.LETTERS) (pe_gstr (by rfl) T.DIGITS)) rfl))) pa_nil))))))), ?_⟩
    refine ⟨_, rfl, ?_⟩
    refine ⟨x, "str", S, d, rfl, rfl, hd, ?_⟩
    refine ⟨_, rfl, ?_⟩
    cases hs : isD "str" d with
    | false =>
      have e : nameD d = false := by cases d <;> first | rfl | (exact absurd hs (by simp only [isD, tyN]; decide))
      rw [e] at q
      exact q _ (Same.refl _)
    | true =>
    obtain ⟨z, rfl⟩ := isD_str hs
    cases hd
    cases hD with
    | str _ hz =>
    have hzl : z.length ≤ sizeLine := line_le (by omega)
    refine ⟨_, rfl, z, rfl, hzl, _, _, rfl, rfl, _, rfl, ?_⟩
    have q0 : nameD (.str z) = false → Q (.bl false) H := fun e => by
      rw [e] at q
      exact q _ (Same.refl _)
    by_cases h1 : (1 : Int) ≤ (z.length : Int)
    case neg =>
      rw [decide_eq_false h1]
      refine ⟨_, rfl, q0 ?_⟩
      have hl : z.cps.toList.length = 0 := by rw [← str_len]; omega
      show nameL z.cps.toList = false
      rw [List.eq_nil_of_length_eq_zero hl]
      rfl
    rw [decide_eq_true h1]
    refine ⟨_, _, rfl, rfl, _, rfl, ?_⟩
    by_cases h2 : (z.length : Int) ≤ 8
    case neg =>
      rw [decide_eq_false h2]
      exact q0 (nameL_long (by rw [← str_len]; omega))
    rw [decide_eq_true h2]
    obtain ⟨c, r, hcr⟩ : ∃ c r, z.cps.toList = c :: r := by
      cases hh : z.cps.toList with
      | nil => rw [str_len, hh] at h1; exact absurd h1 (by decide)
      | cons c r => exact ⟨c, r, rfl⟩
    have e : nameD (.str z) = (isLet c && z.cps.toList.all (fun c => isLet c || isDig c)) := by
      show nameL z.cps.toList = _
      rw [hcr, nameL_cons, List.all_cons]
      have hl : (c :: r).length ≤ 8 := by
        rw [← hcr, ← str_len]
        omega
      rw [List.length_cons] at hl
      rw [show decide (r.length ≤ 7) = true from decide_eq_true (by omega), Bool.and_true]
      cases isLet c <;> rfl
    rw [e] at q
    refine ⟨_, rfl, z, 0, c, rfl, rfl, hzl, atI_nat (j := 0) (by rw [hcr]; rfl), c, _, rfl, rfl, _, rfl, ?_⟩
    rw [decide_mem_let]
    cases hc : isLet c with
    | false =>
      rw [hc] at q
      exact q _ (Same.refl _)
    | true =>
    rw [hc, Bool.true_and] at q
    refine ⟨_, rfl, z, rfl, fun D nD => ?_⟩
    refine lc_it walk_str (fun i H' => Same H H' ∧ H' D = some (.lst (((z.cps.toList.take i).map (fun c => isLet c || isDig c)).map V.bl))) ⟨same_new (Same.refl H) nD, upd_same⟩ (fun _ _ _ _ => trivial) ?_ ?_
    · rintro i x H1 H2 hi ⟨sm, eD⟩ ⟨rfl, c1, hc1, rfl⟩
      refine ⟨rfl, ?_⟩
      refine ⟨_, rfl, _, _, rfl, rfl, by decide +kernel, c1, _, rfl, rfl, _, eD, ?_, fun b o eb => ?_, ?_⟩
      · rw [List.length_map, List.length_map, List.length_take]
        exact line_lt (Nat.le_trans (Nat.min_le_right _ _) (by rw [← str_len]; omega))
      · rw [upd_ne (ne_of_none eb nD)]
        exact sm _ _ eb
      · rw [upd_same, ← take_snoc (str_at hc1), List.map_append, List.map_append]
        rw [show decide (c1 ∈ (("abcdefghijklmnopqrstuvwxyz" : Str) ++ ("0123456789" : Str)).cps.toList) = (isLet c1 || isDig c1) from decide_mem_ld c1]
        rfl
    rintro H1 ⟨sm, eD⟩
    refine ⟨D, _, rfl, SqL.of eD, ?_⟩
    rw [← Array.length_toList, List.take_length, List.all_map]
    exact q _ sm


set_option maxHeartbeats 4000000 in
theorem ok_is_whole  (F : Fun K "is_whole" "is_whole" s_is_whole f fd) (T : Txt w K mg) : FnOk P w K mg base CX0 (k + 1) f fd ["value"] (sp_is_whole) := by
  refine F.ok sc_is_whole (fun vs H Q E h => ?_) (fun cdv A outer s0 H vs Q E hr h => ?_)
  · obtain ⟨S, x, d, rfl, hd, q⟩ := h
    rfl
  · obtain ⟨S, x, d, rfl, hd, q⟩ := h
    refine ⟨_, (pss_one (ps_ret (pe_and (pe_callB call_isD (by rfl) T.isinstance (by decide +kernel) (pa_cons (pv 0) (pa_cons (pe_bltn (v := .ty "int") (by rfl) T.int (by decide +kernel) rfl) pa_nil))) (pe_one (pe_not (pe_callB call_isD (by rfl) T.isinstance (by decide +kernel) (pa_cons (pv 0) (pa_cons (pe_bltn (v := .ty "bool") (by rfl) T.bool (by decide +kernel) rfl) pa_nil)))))))), ?_⟩
    refine ⟨_, rfl, x, "int", S, d, rfl, rfl, hd, ?_⟩
    cases hs : isD "int" d with
    | false =>
      have e : wholeD d = false := by cases d <;> first | rfl | (exact absurd hs (by simp only [isD, tyN]; decide))
      rw [e] at q
      exact ⟨_, rfl, q⟩
    | true =>
    refine ⟨_, rfl, ?_⟩
    rcases isD_int hs with ⟨i, rfl⟩ | ⟨b, rfl⟩
    case inr =>
      refine ⟨_, rfl, x, "bool", S, _, rfl, rfl, hd, _, rfl, ?_⟩
      exact q
    cases hd
    refine ⟨_, rfl, .int i, "bool", S, .int i, rfl, rfl, .int i, _, rfl, ?_⟩
    exact q


set_option maxHeartbeats 4000000 in
theorem ok_is_place  (F : Fun K "is_place" "is_place" s_is_place f fd) (T : Txt w K mg)
    (O_is_whole : Own P w K mg base k "is_whole" ["value"] (sp_is_whole)) : FnOk P w K mg base CX0 (k + 1) f fd ["value"] (sp_is_place) := by
  refine F.ok sc_is_place (fun vs H Q E h => ?_) (fun cdv A outer s0 H vs Q E hr h => ?_)
  · obtain ⟨S, x, d, rfl, hd, q⟩ := h
    rfl
  · obtain ⟨S, x, d, rfl, hd, q⟩ := h
    refine ⟨_, (pss_one (ps_ret (pe_and (pe_own O_is_whole hr (by rfl) (pa_cons (pv 0) pa_nil)) (pe_one (pe_chain op_le op_le pe_int (pv 0) (pe_gint (by rfl) T.LAST_PLACE)))))), ?_⟩
    refine ⟨_, rfl, S, x, d, rfl, hd, ?_⟩
    cases hs : wholeD d with
    | false =>
      have e : placeD d = false := by cases d <;> first | rfl | cases hs
      rw [e] at q
      exact ⟨_, rfl, q⟩
    | true =>
    refine ⟨_, rfl, ?_⟩
    have ⟨i, hi⟩ : ∃ i, d = .int i := by cases d <;> first | exact ⟨_, rfl⟩ | cases hs
    subst hi
    cases hd
    refine ⟨_, rfl, _, _, rfl, rfl, _, rfl, ?_⟩
    cases h1 : decide ((0 : Int) ≤ i) with
    | false =>
      refine ?_
      have e : placeD (.int i) = false := by
        show (decide (0 ≤ i) && decide (i ≤ 9999)) = false
        rw [h1]
        rfl
      rw [e] at q
      exact q
    | true =>
      refine ⟨_, _, rfl, rfl, ?_⟩
      have e : placeD (.int i) = decide (i ≤ 9999) := by
        show (decide (0 ≤ i) && decide (i ≤ 9999)) = _
        rw [h1]
        rfl
      rw [e] at q
      exact q


set_option maxHeartbeats 4000000 in
theorem ok_is_whole_pair  (F : Fun K "is_whole_pair" "is_whole_pair" s_is_whole_pair f fd) (T : Txt w K mg)
    (O_is_whole : Own P w K mg base k "is_whole" ["value"] (sp_is_whole)) : FnOk P w K mg base CX0 (k + 1) f fd ["value"] (sp_is_whole_pair) := by
  refine F.ok sc_is_whole_pair (fun vs H Q E h => ?_) (fun cdv A outer s0 H vs Q E hr h => ?_)
  · obtain ⟨S, x, d, rfl, hd, q⟩ := h
    rfl
  · obtain ⟨S, x, d, rfl, hd, q⟩ := h
    refine ⟨_, (pss_one (ps_ret (pe_and (pe_callB call_isD (by rfl) T.isinstance (by decide +kernel) (pa_cons (pv 0) (pa_cons (pe_bltn (v := .ty "tuple") (by rfl) T.tuple (by decide +kernel) rfl) pa_nil))) (pe_and (pe_cmpR op_eq (pe_callB call_len_seq (by rfl) T.len PySem.boot_len (pa_cons (pv 0) pa_nil)) pe_int (nomark _)) (pe_and (pe_own O_is_whole hr (by rfl) (pa_cons (pe_ix ix_seq (pv 0) pe_int (fun _ _ => rfl)) pa_nil)) (pe_one (pe_own O_is_whole hr (by rfl) (pa_cons (pe_ix ix_seq (pv 0) pe_int (fun _ _ => rfl)) pa_nil)))))))), ?_⟩
    refine ⟨_, rfl, x, "tuple", S, d, rfl, rfl, hd, ?_⟩
    cases hs : isD "tuple" d with
    | false =>
      have e : timedD d = false := by cases d <;> first | rfl | (exact absurd hs (by simp only [isD, tyN]; decide))
      rw [e] at q
      exact ⟨_, rfl, q⟩
    | true =>
    refine ⟨_, rfl, ?_⟩
    obtain ⟨ds, rfl⟩ := isD_tuple hs
    obtain ⟨a, xs, rfl, nS, ea, hA⟩ : ∃ a xs, x = .ref a ∧ ¬ S a ∧ H a = some (.tup xs) ∧ DaAll S H xs ds := by
      cases hd with
      | tup n e r => exact ⟨_, _, rfl, n, e, r⟩
    have ew : ∀ c, wholeD c = wholeD' c := fun c => by cases c <;> rfl
    rcases two_or hA with ⟨x, y, c, e, rfl, rfl, hx, hy⟩ | ⟨h2, hne⟩
    case inr =>
      refine ⟨_, rfl, a, xs, rfl, .inr (.of ea), rfl, _, rfl, ?_⟩
      rw [h2]
      rw [timedD_no hne] at q
      exact q
    refine ⟨_, rfl, a, _, rfl, .inr (.of ea), rfl, _, rfl, ?_⟩
    refine ⟨_, rfl, .inr (.inl ⟨a, _, 0, x, rfl, rfl, .of ea, rfl, S, x, c, rfl, hx, ?_⟩)⟩
    have q : Q (.bl (wholeD' c && wholeD' e)) H := q
    rw [ew]
    refine ⟨_, rfl, ?_⟩
    cases h1 : wholeD' c with
    | false =>
      rw [h1] at q
      exact q
    | true =>
    rw [h1] at q
    refine ⟨_, rfl, .inr (.inl ⟨a, _, 1, y, rfl, rfl, .of ea, rfl, S, y, e, rfl, hy, ?_⟩)⟩
    rw [ew]
    exact q


set_option maxHeartbeats 4000000 in
theorem ok_is_place_pair  (F : Fun K "is_place_pair" "is_place_pair" s_is_place_pair f fd) (T : Txt w K mg)
    (O_is_place : Own P w K mg base k "is_place" ["value"] (sp_is_place)) : FnOk P w K mg base CX0 (k + 1) f fd ["value"] (sp_is_place_pair) := by
  refine F.ok sc_is_place_pair (fun vs H Q E h => ?_) (fun cdv A outer s0 H vs Q E hr h => ?_)
  · obtain ⟨S, x, d, rfl, hd, q⟩ := h
    rfl
  · obtain ⟨S, x, d, rfl, hd, q⟩ := h
    refine ⟨_, (pss_one (ps_ret (pe_and (pe_callB call_isD (by rfl) T.isinstance (by decide +kernel) (pa_cons (pv 0) (pa_cons (pe_bltn (v := .ty "tuple") (by rfl) T.tuple (by decide +kernel) rfl) pa_nil))) (pe_and (pe_cmpR op_eq (pe_callB call_len_seq (by rfl) T.len PySem.boot_len (pa_cons (pv 0) pa_nil)) pe_int (nomark _)) (pe_and (pe_own O_is_place hr (by rfl) (pa_cons (pe_ix ix_seq (pv 0) pe_int (fun _ _ => rfl)) pa_nil)) (pe_one (pe_own O_is_place hr (by rfl) (pa_cons (pe_ix ix_seq (pv 0) pe_int (fun _ _ => rfl)) pa_nil)))))))), ?_⟩
    refine ⟨_, rfl, x, "tuple", S, d, rfl, rfl, hd, ?_⟩
    cases hs : isD "tuple" d with
    | false =>
      have e : pairD d = false := by cases d <;> first | rfl | (exact absurd hs (by simp only [isD, tyN]; decide))
      rw [e] at q
      exact ⟨_, rfl, q⟩
    | true =>
    refine ⟨_, rfl, ?_⟩
    obtain ⟨ds, rfl⟩ := isD_tuple hs
    obtain ⟨a, xs, rfl, nS, ea, hA⟩ : ∃ a xs, x = .ref a ∧ ¬ S a ∧ H a = some (.tup xs) ∧ DaAll S H xs ds := by
      cases hd with
      | tup n e r => exact ⟨_, _, rfl, n, e, r⟩
    rcases two_or hA with ⟨x, y, c, e, rfl, rfl, hx, hy⟩ | ⟨h2, hne⟩
    case inr =>
      refine ⟨_, rfl, a, xs, rfl, .inr (.of ea), rfl, _, rfl, ?_⟩
      rw [h2]
      rw [pairD_no hne] at q
      exact q
    refine ⟨_, rfl, a, _, rfl, .inr (.of ea), rfl, _, rfl, ?_⟩
    refine ⟨_, rfl, .inr (.inl ⟨a, _, 0, x, rfl, rfl, .of ea, rfl, S, x, c, rfl, hx, ?_⟩)⟩
    have q : Q (.bl (placeD c && placeD e)) H := q
    refine ⟨_, rfl, ?_⟩
    cases h1 : placeD c with
    | false =>
      rw [h1] at q
      exact q
    | true =>
    rw [h1] at q
    exact ⟨_, rfl, .inr (.inl ⟨a, _, 1, y, rfl, rfl, .of ea, rfl, S, y, e, rfl, hy, q⟩)⟩


set_option maxHeartbeats 4000000 in
theorem ok_is_labelled_place  (F : Fun K "_is_labelled_place" "_is_labelled_place" s_is_labelled_place f fd) (T : Txt w K mg)
    (O_is_place : Own P w K mg base k "is_place" ["value"] (sp_is_place)) : FnOk P w K mg base CX0 (k + 1) f fd ["value"] (sp_is_labelled_place) := by
  refine F.ok sc_is_labelled_place (fun vs H Q E h => ?_) (fun cdv A outer s0 H vs Q E hr h => ?_)
  · obtain ⟨S, x, d, rfl, hd, q⟩ := h
    rfl
  · obtain ⟨S, x, d, rfl, hd, q⟩ := h
    refine ⟨_, (pss_one (ps_ret (pe_and (pe_callB call_isD (by rfl) T.isinstance (by decide +kernel) (pa_cons (pv 0) (pa_cons (pe_bltn (v := .ty "tuple") (by rfl) T.tuple (by decide +kernel) rfl) pa_nil))) (pe_and (pe_cmpR op_eq (pe_callB call_len_seq (by rfl) T.len PySem.boot_len (pa_cons (pv 0) pa_nil)) pe_int (nomark _)) (pe_and (pe_own O_is_place hr (by rfl) (pa_cons (pe_ix ix_seq (pv 0) pe_int (fun _ _ => rfl)) pa_nil)) (pe_one (pe_callB call_isD (by rfl) T.isinstance (by decide +kernel) (pa_cons (pe_ix ix_seq (pv 0) pe_int (fun _ _ => rfl)) (pa_cons (pe_bltn (v := .ty "str") (by rfl) T.str (by decide +kernel) rfl) pa_nil))))))))), ?_⟩
    refine ⟨_, rfl, x, "tuple", S, d, rfl, rfl, hd, ?_⟩
    cases hs : isD "tuple" d with
    | false =>
      have e : labD d = false := by cases d <;> first | rfl | (exact absurd hs (by simp only [isD, tyN]; decide))
      rw [e] at q
      exact ⟨_, rfl, q⟩
    | true =>
    refine ⟨_, rfl, ?_⟩
    obtain ⟨ds, rfl⟩ := isD_tuple hs
    obtain ⟨a, xs, rfl, nS, ea, hA⟩ : ∃ a xs, x = .ref a ∧ ¬ S a ∧ H a = some (.tup xs) ∧ DaAll S H xs ds := by
      cases hd with
      | tup n e r => exact ⟨_, _, rfl, n, e, r⟩
    rcases two_or hA with ⟨x, y, c, e, rfl, rfl, hx, hy⟩ | ⟨h2, hne⟩
    case inr =>
      refine ⟨_, rfl, a, xs, rfl, .inr (.of ea), rfl, _, rfl, ?_⟩
      rw [h2]
      rw [labD_no hne] at q
      exact q
    refine ⟨_, rfl, a, _, rfl, .inr (.of ea), rfl, _, rfl, ?_⟩
    refine ⟨_, rfl, .inr (.inl ⟨a, _, 0, x, rfl, rfl, .of ea, rfl, S, x, c, rfl, hx, ?_⟩)⟩
    have q : Q (.bl (placeD c && isStrD e)) H := q
    refine ⟨_, rfl, ?_⟩
    cases h1 : placeD c with
    | false =>
      rw [h1] at q
      exact q
    | true =>
    rw [h1] at q
    refine ⟨_, rfl, .inr (.inl ⟨a, _, 1, y, rfl, rfl, .of ea, rfl, y, "str", S, e, rfl, rfl, hy, ?_⟩)⟩
    rw [isStrD_eq]
    exact q


set_option maxHeartbeats 4000000 in
theorem ok_all_places  (F : Fun K "all_places" "all_places" s_all_places f fd) (T : Txt w K mg) : FnOk P w K mg base CX0 (k + 1) f fd ["arrows", "leaves"] (sp_all_places) := by
  refine F.ok sc_all_places (fun vs H Q E h => ?_) (fun cdv A outer s0 H vs Q E hr h => ?_)
  · obtain ⟨S, x, y, As, Ls, P, rfl, hx, hy, hl, hP, h64, q⟩ := h
    rfl
  · obtain ⟨S, x, y, As, Ls, P, rfl, hx, hy, hl, hP, h64, q⟩ := h
    refine ⟨_, (pss_cons (ps_setLc2 (i := 2) (own := [("arrow", 3), ("end", 4)]) (vs1 := [4]) (by rfl) sc_all_places.nd rfl rfl (sw_true rfl rfl rfl (by decide +kernel)) (pi_list (pv 0)) (blkOk_by (own := [("arrow", 3), ("end", 4)]) (N := ["arrows", "leaves", "ends", "arrow", "end", "leaf"]) (sc := defScope s_all_places) (by decide +kernel)) (by decide) (fun _ _ _ _ _ => pg_name (i := 3) sc_all_places.nd rfl (Or.inl rfl)) (fun _ _ _ _ _ => pts_nil) (fun _ _ _ _ _ => (pi_tupK K rfl (pv 3))) (fun _ _ _ _ _ => pg_name (i := 4) sc_all_places.nd rfl (Or.inl rfl)) (fun _ _ _ _ _ => pts_nil) (fun _ _ _ _ _ => (pv 4)))
      (pss_one (ps_ret (pe_callB (cr_sortedSet rfl) (by rfl) T.sorted (by decide +kernel) (pa_cons (pe_callTy (cr_setL rfl) (by rfl) T.set (by decide +kernel) (pa_cons (pe_op op_cat (pv 2) (pe_lc (own := [("leaf", 5)]) (by rfl) sc_all_places.nd (pi_list (pv 1)) (blkOk_by (own := [("leaf", 5)]) (N := ["arrows", "leaves", "ends", "arrow", "end", "leaf"]) (sc := defScope s_all_places) (by decide +kernel)) (fun _ _ _ _ _ => pg_name (i := 5) sc_all_places.nd rfl (Or.inl rfl)) (fun _ _ _ _ _ => pts_nil) (fun _ _ _ _ _ => (pe_ix (ix_tupK K rfl) (pv 5) pe_int (fun _ _ => rfl))))) pa_nil)) pa_nil))))), ?_⟩
    obtain ⟨a, xs, rfl, nS, ea, hA⟩ := hx.list
    obtain ⟨b, ys, rfl, nS2, eb, hB⟩ := hy.list
    have hn : ys.length = Ls.length := by rw [hB.length, List.length_map]
    have hz : 1002 < sizeLine := by decide
    dsimp only [tSeq, tAsg]
    refine lc2_ends rfl ea hA (by omega) (fun _ => rfl) (fun _ => rfl) (fun _ _ => rfl) (fun _ _ => rfl) ?_
    intro D1 H1 nD1 s1 e1
    dsimp only [gName]
    refine ⟨_, rfl, ?_⟩
    dsimp only
    refine lc_listM (K := K) rfl (s1 _ _ eb) ((Ls.map (·.1)).map V.int) (by rw [List.length_map, List.length_map, hn]) (by omega) ?_ ?_
    · rintro i x H2 N A z hz sm hx hA5
      obtain ⟨p, t, ed, rfl, nt, et⟩ := hB.ldS (fun b o e => sm _ _ (s1 _ _ e)) hx
      rw [List.map_map, List.getElem?_map, ed] at hz
      cases hz
      exact ⟨rfl, _, rfl, t, _, 0, _, rfl, rfl, .of et, rfl, hA5 _ (Same.refl _)⟩
    intro D2 H2 nD2 s2 e2
    have e1 := s2 _ _ e1
    have s2 : Same H H2 := fun b o e => s2 _ _ (s1 _ _ e)
    refine ⟨D1, D2, _, _, rfl, rfl, e1, e2, ?_, fun p3 n3 => ?_⟩
    · rw [List.length_map, List.length_map, List.length_map, endsOf_len]
      omega
    have s3 := same_snoc (o := .lst ((endsOf As).map V.int ++ (Ls.map (·.1)).map V.int)) s2 n3
    refine ⟨p3, endsOf As ++ Ls.map (·.1), rfl, .of (by rw [upd_same, List.map_append]), by rw [List.length_append, List.length_map, endsOf_len]; exact hl, fun p4 L n4 nd hL => ?_⟩
    refine ⟨p4, _, _, rfl, upd_same, ?_, fun ns p5 hp hm _ n5 => ?_⟩
    · refine Nat.lt_of_le_of_lt ?_ h64
      exact nodup_le nd fun k hk => (hP.2 k).mpr ((hL k).mp hk)
    have e : ns = P := asc_uniq hp hP.1 fun k => by rw [hm, hP.2, decide_eq_true_eq]
    subst e
    exact q _ p5 (same_snoc (same_snoc s3 n4) n5) ((same_snoc s3 n4).free n5) upd_same


set_option maxHeartbeats 4000000 in
theorem ok_relatives  (F : Fun K "relatives" "relatives" s_relatives f fd) (T : Txt w K mg)
    (O_all_places : Own P w K mg base k "all_places" ["arrows", "leaves"] (sp_all_places)) : FnOk P w K mg base CX0 (k + 1) f fd ["arrows", "leaves"] (sp_relatives) := by
  refine F.ok sc_relatives (fun vs H Q E h => ?_) (fun cdv A outer s0 H vs Q E hr h => ?_)
  · obtain ⟨S, x, y, As, Bs, Ls, P, rfl, hx, hy, hl, hP, h64, hB, q⟩ := h
    rfl
  · obtain ⟨S, x, y, As, Bs, Ls, P, rfl, hx, hy, hl, hP, h64, hB, q⟩ := h
    refine ⟨_, (pss_cons (ps_set (i := 2) sc_relatives.nd rfl (Or.inl rfl) (pe_own O_all_places hr (by rfl) (pa_cons (pv 0) (pa_cons (pv 1) pa_nil))))
      (pss_cons (ps_setDc (i := 3) (own := [("place", 7)]) (by rfl) sc_relatives.nd rfl rfl (sw_trueD rfl rfl rfl (by decide +kernel)) (pi_list (pv 2)) (blkOk_by (own := [("place", 7)]) (N := ["arrows", "leaves", "places", "mothers", "children", "mother", "child", "place"]) (sc := defScope s_relatives) (by decide +kernel)) (fun _ _ _ _ _ => pg_name (i := 7) sc_relatives.nd rfl (Or.inl rfl)) (fun _ _ _ _ _ => pts_nil) (fun _ _ _ _ _ => (pv 7)) (fun _ _ _ _ _ => (pe_lst pa_nil)))
      (pss_cons (ps_setDc (i := 4) (own := [("place", 7)]) (by rfl) sc_relatives.nd rfl rfl (sw_trueD rfl rfl rfl (by decide +kernel)) (pi_list (pv 2)) (blkOk_by (own := [("place", 7)]) (N := ["arrows", "leaves", "places", "mothers", "children", "mother", "child", "place"]) (sc := defScope s_relatives) (by decide +kernel)) (fun _ _ _ _ _ => pg_name (i := 7) sc_relatives.nd rfl (Or.inl rfl)) (fun _ _ _ _ _ => pts_nil) (fun _ _ _ _ _ => (pv 7)) (fun _ _ _ _ _ => (pe_lst pa_nil)))
      (pss_cons (ps_for PassesOwn.never rfl (pi_list (pe_callB cr_sortedPO (by rfl) T.sorted (by decide +kernel) (pa_cons (pv 0) pa_nil))) (pg_pairK K rfl rfl (pg_name (i := 5) sc_relatives.nd rfl (Or.inl rfl)) (pg_name (i := 6) sc_relatives.nd rfl (Or.inl rfl)) (by rfl) (by rfl) (by rfl) (by rfl))
        (pss_cons (ps_expr (pe_bm PySem.F.plainAttrs_list PySem.F.slot_list_append PySem.F.type_list_append mt_append (pe_dget (u1 hr) (pv 3) (pv 6) (fun _ _ => rfl)) (pa_cons (pv 5) pa_nil)))
        (pss_one (ps_expr (pe_bm PySem.F.plainAttrs_list PySem.F.slot_list_append PySem.F.type_list_append mt_append (pe_dget (u1 hr) (pv 4) (pv 5) (fun _ _ => rfl)) (pa_cons (pv 6) pa_nil))))))
      (pss_one (ps_ret (pe_tup (pa_cons (pv 3) (pa_cons (pv 4) pa_nil))))))))), ?_⟩
    obtain ⟨a, xs, rfl, nS, ea, hA⟩ := hx.list
    have hz : 64 < sizeLine := by decide
    refine ⟨_, rfl, _, rfl, S, _, y, As, Ls, P, rfl, hx, hy, hl, hP, h64, fun H1 D1 s1 n1 e1 => ?_⟩
    dsimp only [gName]
    refine seq_asg ?_
    refine dc_lists (K := K) rfl e1 hP.nodup (by omega) (fun _ => rfl) (fun _ => rfl) ?_
    intro M H2 am s2 m2
    refine seq_asg ?_
    refine dc_lists (K := K) rfl (s2 _ _ e1) hP.nodup (by omega) (fun _ => rfl) (fun _ => rfl) ?_
    intro C H3 ac s3 c3
    have s13 : Same H H3 := fun b o e => s3 _ _ (s2 _ _ (s1 _ _ e))
    have m3 := (m2.same s3).base s1
    have c3' := c3.base (fun b o e => s2 _ _ (s1 _ _ e) : Same H H2)
    have dis : ∀ p ∈ P, ∀ q ∈ P, am p ≠ ac q := fun p hp q hq e => by
      have := c3.na q hq
      rw [← e, m2.val p hp] at this
      cases this
    have dMC : ∀ p ∈ P, am p ≠ C := fun p hp e => by
      have := c3.nd
      rw [← e, m2.val p hp] at this
      cases this
    have dCM : ∀ p ∈ P, ac p ≠ M := fun p hp e => by
      have := c3.na p hp
      rw [e, m2.at_] at this
      cases this
    refine ⟨_, rfl, a, xs, pairAt H, rfl, .of (s13 _ _ ea), fun x hx => ?_, fun ys Y hs1 hs2 nY => ?_⟩
    · obtain ⟨i, hi⟩ := List.mem_iff_getElem?.mp hx
      obtain ⟨p, t, _, rfl, _, et⟩ := hA.pd hi
      rw [pairAt_eq et]
      exact ⟨t, rfl, s13 _ _ et⟩
    obtain ⟨hyl, hys⟩ := sorted_pd hA hB hs1 hs2
    refine ⟨Y, rfl, ⟨_, .of upd_same⟩, ?_⟩
    have m4 := m3.new (o := .lst ys) nY
    have c4 := c3'.new (o := .lst ys) nY
    have nYM : ∀ p ∈ P, am p ≠ Y := fun p hp e => by rw [← e, m3.val p hp] at nY; cases nY
    have nYC : ∀ p ∈ P, ac p ≠ Y := fun p hp e => by rw [← e, c3'.val p hp] at nY; cases nY
    have hmem : ∀ b ∈ Bs, b.1 ∈ P ∧ b.2 ∈ P := fun b hb => by
      have hb := hB.1.mem_iff.mp hb
      have h1 : ∀ k, k ∈ [b.1, b.2] → k ∈ P := fun k hk => (hP.2 k).mpr (List.mem_append_left _ (List.mem_flatMap.mpr ⟨b, hb, hk⟩))
      exact ⟨h1 _ (by simp), h1 _ (by simp)⟩
    refine for_it (walk_list (K := K) (a := Y) (xs := ys)) (fun i σ H' => ∃ u v pl, σ = [some (.ref a), some y, some (.ref D1), some (.ref M), some (.ref C), u, v, pl] ∧ Same H H' ∧ H' Y = some (.lst ys) ∧ DiN H H' M P am (upsOf (Bs.take i)) ∧ DiN H H' C P ac (downsOf (Bs.take i)))
      ⟨_, _, _, rfl, same_snoc s13 nY, upd_same, m4, c4⟩ (fun i σ H' _ ⟨_, _, _, _, _, e, _⟩ => .of e) ?_ ?_
    · rintro i x σ H4 H5 hi ⟨u, v, pl, rfl, sm, eY, hM, hC⟩ ⟨rfl, hx⟩
      obtain ⟨b, t, eb, rfl, nt, et⟩ := hys i x hx
      obtain ⟨b1, b2⟩ := hmem b (List.mem_of_getElem? eb)
      refine ⟨t, _, rfl, .of (sm _ _ et), rfl, _, _, rfl, _, _, rfl, rfl, ?_⟩
      refine ⟨_, rfl, _, rfl, M, .ref (am b.2), rfl, ?_⟩
      have bl : Bs.length ≤ 1000 := by rw [hB.1.length_eq]; omega
      have tl : (Bs.take i).length ≤ 1000 := Nat.le_trans (by rw [List.length_take]; exact Nat.min_le_right _ _) bl
      have hz2 : 1000 < sizeLine := by decide
      refine ⟨hM.get b2, .inl ⟨rfl, _, .of (hM.val _ b2)⟩, _, rfl, am b.2, _, .int b.1, rfl, rfl, hM.val _ b2, ?_, ?_⟩
      · rw [List.length_map]
        exact Nat.lt_of_le_of_lt (upsOf_len _ _) (by omega)
      have hM2 := hM.app (x := b.1) b2
      have hC2 := hC.other (b := am b.2) (o := .lst ((upsOf (Bs.take i) b.2).map V.int ++ [V.int b.1])) (dMC _ b2) (fun q hq => dis _ b2 q hq)
      refine ⟨_, rfl, _, rfl, C, .ref (ac b.1), rfl, hC2.get b1, .inl ⟨rfl, _, .of (hC2.val _ b1)⟩, _, rfl, ac b.1, _, .int b.2, rfl, rfl, hC2.val _ b1, ?_, ?_⟩
      · rw [List.length_map]
        exact Nat.lt_of_le_of_lt (downsOf_len _ _) (by omega)
      have hC3 := hC2.app (x := b.2) b1
      have hM3 := hM2.other (b := ac b.1) (o := .lst ((downsOf (Bs.take i) b.1).map V.int ++ [V.int b.2])) (dCM _ b1) (fun q hq => (dis q hq _ b1).symm)
      refine ⟨_, _, _, rfl, fun c o e => ?_, ?_, ?_, ?_⟩
      · rw [upd_ne (fun z => by rw [z, hC.na _ b1] at e; cases e), upd_ne (fun z => by rw [z, hM.na _ b2] at e; cases e)]
        exact sm _ _ e
      · rw [upd_ne (nYC _ b1).symm, upd_ne (nYM _ b2).symm]
        exact eY
      · rw [← take_snoc eb, upsOf_snoc]
        exact hM3
      · rw [← take_snoc eb, downsOf_snoc]
        exact hC3
    · rintro σ H4 ⟨u, v, pl, rfl, sm, eY, hM, hC⟩
      rw [hyl, List.take_length] at hM hC
      refine ⟨_, rfl, _, rfl, (by show 2 ≤ sizeLine; decide), fun R nR => ?_⟩
      exact q _ R M C am ac (same_snoc sm nR) (sm.free nR) upd_same (hM.new nR) (hC.new nR) dis


set_option maxHeartbeats 4000000 in
theorem ok_places_below  (F : Fun K "places_below" "places_below" s_places_below f fd) (T : Txt w K mg) : FnOk P w K mg base CX0 (k + 1) f fd ["place", "children"] (sp_places_below) := by
  refine F.ok sc_places_below (fun vs H Q E h => ?_) (fun cdv A outer s0 H vs Q E hr h => ?_)
  · obtain ⟨C, P, ac, val, p0, rfl, hC, hp0, h64, hV, q⟩ := h
    rfl
  · obtain ⟨C, P, ac, val, p0, rfl, hC, hp0, h64, hV, q⟩ := h
    refine ⟨_, (pss_cons (ps_set (i := 2) sc_places_below.nd rfl (Or.inl rfl) pe_dnewK)
      (pss_cons (ps_set (i := 3) sc_places_below.nd rfl (Or.inl rfl) (pe_callTy call_list_of (by rfl) T.list (by decide +kernel) (pa_cons (pe_dget (u1 hr) (pv 1) (pv 0) (fun _ _ => rfl)) pa_nil)))
      (pss_cons (ps_while PassesOwn.never (pt_tru K rfl (pv 3) (fun _ => rfl))
        (pss_cons (ps_set (i := 4) sc_places_below.nd rfl (Or.inl rfl) (pe_bm0 PySem.F.plainAttrs_list PySem.F.slot_list_pop PySem.F.type_list_pop mt_pop (pv 3)))
        (pss_one (ps_if (pt_cmp (pc_dnotin (u1 hr) (pv 4) (pv 2)))
          (pss_cons (ps_dput (u1 hr) (pv 2) (pv 4) pe_bl rfl)
          (pss_one (ps_expr (pe_bm PySem.F.plainAttrs_list PySem.F.slot_list_extend PySem.F.type_list_extend mt_extend (pv 3) (pa_cons (pe_dget (u1 hr) (pv 1) (pv 4) (fun _ _ => rfl)) pa_nil)))))
          pss_nil))))
      (pss_one (ps_ret (pe_callB (call_sortedDI rfl) (by rfl) T.sorted (by decide +kernel) (pa_cons (pv 2) pa_nil))))))), ?_⟩
    refine fun fd nfd => ?_
    have sz : 100000 < sizeLine := by decide
    refine ⟨_, rfl, _, rfl, C, .ref (ac p0), rfl, (hC.new (o := .dK []) nfd).get hp0, _, _, rfl, .inl (.of ((hC.new (o := .dK []) nfd).val _ hp0)), fun wt nwt => ?_⟩
    have s2 := same_snoc (o := .lst ((val p0).map V.int)) (same_snoc (o := .dK []) (Same.refl H) nfd) nwt
    have nw0 : H wt = none := (same_snoc (o := .dK []) (Same.refl H) nfd).free nwt
    have nfw : fd ≠ wt := fun e => by rw [← e, upd_same] at nwt; cases nwt
    obtain ⟨Wd, hWd⟩ : ∃ Wd : Nat → L2.St → Hp → Prop, ∀ n σ H', Wd n σ H' ↔ ∃ (Fs Ws : List Int) (lw : Option V), σ = [some (.int p0), some (.ref C), some (.ref fd), some (.ref wt), lw] ∧ n = (P.length - Fs.length) * 1001 + Ws.length ∧ Same H H' ∧ H' fd = some (trueKs Fs) ∧ H' wt = some (.lst (Ws.map V.int)) ∧ Fs.Nodup ∧
        (∀ q ∈ Fs, q ∈ P ∧ Und val p0 q) ∧ (∀ q ∈ Ws, q ∈ P ∧ Und val p0 q) ∧ (∀ q ∈ val p0, q ∈ Fs ∨ q ∈ Ws) ∧ (∀ r ∈ Fs, ∀ q ∈ val r, q ∈ Fs ∨ q ∈ Ws) ∧ Ws.length ≤ 1000 * (Fs.length + 1) := ⟨_, fun _ _ _ => Iff.rfl⟩
    refine ⟨Wd, ⟨_, (hWd _ _ _).mpr ⟨[], val p0, none, rfl, rfl, s2, (by rw [upd_ne nfw, upd_same]; rfl), upd_same, .nil, (fun q h => by simp at h), (fun q h => ⟨(hV p0 hp0).2 q h, .base h⟩), (fun q h => .inr h), (fun r h => by simp at h), by have := (hV p0 hp0).1; simpa using this⟩⟩, ?_⟩
    intro n σ H1 hw
    obtain ⟨Fs, Ws, lw, rfl, rfl, sm, eF, eW, nd, hF, hW, hc0, hc1, hwl⟩ := (hWd _ _ _).mp hw
    have hFl : Fs.length ≤ P.length := nodup_le nd fun q hq => (hF q hq).1
    refine ⟨_, rfl, !(Ws.map V.int).isEmpty, .inl ⟨_, .of eW, rfl⟩, ?_⟩
    rcases List.eq_nil_or_concat Ws with rfl | ⟨L, x, rfl⟩
    · refine ⟨_, rfl, fd, _, Fs, rfl, .inl eF, ?_, by omega, fun ys p hp hs np => ?_⟩
      · rw [List.map_map]
        rfl
      have hcl : ∀ k, k ∈ Fs ↔ Und val p0 k := fun k => ⟨fun h => (hF k h).2, fun h => h.closed (fun q hq => (hc0 q hq).resolve_right (by simp)) (fun r hr q hq => (hc1 r hr q hq).resolve_right (by simp))⟩
      exact q _ p ys (same_snoc sm np) (sm.free np) upd_same (lt_of_le_nodup hs (hp.nodup_iff.mpr nd)) (fun k => by rw [hp.mem_iff, hcl])
    rw [List.concat_eq_append] at *
    have hxP := hW x (by simp)
    refine ite2 (fun _ => ?_) (fun e => absurd (by simp) e)
    have hget : ((L ++ [x]).map V.int)[((L ++ [x]).map V.int).length - 1]? = some (.int x) := by simp
    have hdrop : ((L ++ [x]).map V.int).dropLast = L.map V.int := by simp
    refine ⟨fun σ' H' => ∃ m', m' < (P.length - Fs.length) * 1001 + (L ++ [x]).length ∧ Wd m' σ' H', fun _ _ h => h, ?_⟩
    refine ⟨_, rfl, .inl ⟨rfl, _, .of eW⟩, wt, _, _, rfl, rfl, eW, hget, ?_⟩
    rw [hdrop]
    generalize eH2 : upd H1 wt (.lst (L.map V.int)) = H2
    have eF2 : H2 fd = some (trueKs Fs) := by rw [← eH2, upd_ne nfw]; exact eF
    have eW2 : H2 wt = some (.lst (L.map V.int)) := by rw [← eH2]; exact upd_same
    have sm2 : Same H H2 := fun b o e => by
      rw [← eH2, upd_ne (fun z => by rw [z, nw0] at e; cases e)]
      exact sm _ _ e
    refine ⟨_, rfl, _, rfl, fd, _, rfl, .inl ⟨_, .inl x, .inl eF2, rfl, rfl⟩, _, rfl, ?_⟩
    rw [valV_true]
    refine ite2 (fun e => ?_) (fun e => ?_)
    · have hx : x ∉ Fs := by simpa using e
      have nd2 : (Fs ++ [x]).Nodup := List.nodup_append.mpr ⟨nd, by simp, fun a ha b hb => by rw [List.mem_singleton.mp hb]; exact fun z => hx (z ▸ ha)⟩
      have hFl2 : (Fs ++ [x]).length ≤ P.length := nodup_le nd2 fun k hk => by
        rcases List.mem_append.mp hk with h | h
        · exact (hF k h).1
        · rw [List.mem_singleton.mp h]
          exact hxP.1
      rw [List.length_append, List.length_singleton] at hFl2
      refine ⟨_, rfl, _, rfl, fd, _, rfl, .inl ⟨_, .inl x, eF2, rfl, ?_, rfl⟩, ?_⟩
      · rw [List.length_map]
        omega
      rw [putK_true hx]
      generalize eH3 : upd H2 fd (.dK ((Fs ++ [x]).map fun q => ((.inl q : Key), V.bl true))) = H3
      have eF3 : H3 fd = some (trueKs (Fs ++ [x])) := by rw [← eH3]; exact upd_same
      have eW3 : H3 wt = some (.lst (L.map V.int)) := by rw [← eH3, upd_ne nfw.symm]; exact eW2
      have sm3 : Same H H3 := fun b o e => by
        rw [← eH3, upd_ne (fun z => by rw [z, nfd] at e; cases e)]
        exact sm2 _ _ e
      have hC3 := hC.same sm3
      have hv := hV x hxP.1
      refine ⟨_, rfl, .inl ⟨rfl, _, .of eW3⟩, _, rfl, _, rfl, C, .ref (ac x), rfl, hC3.get hxP.1, wt, ac x, _, _, rfl, rfl, eW3, hC3.val _ hxP.1, ?_, ?_⟩
      · rw [List.length_map, List.length_map]
        simp only [List.length_append, List.length_singleton] at hwl
        omega
      refine ⟨(P.length - (Fs ++ [x]).length) * 1001 + (L ++ val x).length, ?_, (hWd _ _ _).mpr ⟨Fs ++ [x], L ++ val x, _, rfl, rfl, fun b o e => ?_, ?_, ?_, nd2, fun k hk => ?_, fun k hk => ?_, fun k hk => ?_, fun r hr k hk => ?_, ?_⟩⟩
      · simp only [List.length_append, List.length_singleton]
        omega
      · rw [upd_ne (fun z => by rw [z, nw0] at e; cases e)]
        exact sm3 _ _ e
      · rw [upd_ne nfw]
        exact eF3
      · rw [upd_same, List.map_append]
      · rcases List.mem_append.mp hk with h | h
        · exact hF k h
        · rw [List.mem_singleton.mp h]
          exact hxP
      · rcases List.mem_append.mp hk with h | h
        · exact hW k (by simp [h])
        · exact ⟨hv.2 k h, .step hxP.2 h⟩
      · rcases hc0 k hk with h | h
        · exact .inl (List.mem_append_left _ h)
        · rcases List.mem_append.mp h with h | h
          · exact .inr (List.mem_append_left _ h)
          · exact .inl (List.mem_append_right _ h)
      · rcases List.mem_append.mp hr with hr | hr
        · rcases hc1 r hr k hk with h | h
          · exact .inl (List.mem_append_left _ h)
          · rcases List.mem_append.mp h with h | h
            · exact .inr (List.mem_append_left _ h)
            · exact .inl (List.mem_append_right _ h)
        · rw [List.mem_singleton.mp hr] at hk
          exact .inr (List.mem_append_right _ hk)
      · simp only [List.length_append, List.length_singleton] at hwl ⊢
        omega
    · have hx : x ∈ Fs := by simpa using e
      refine ⟨(P.length - Fs.length) * 1001 + L.length, ?_, (hWd _ _ _).mpr ⟨Fs, L, _, rfl, rfl, sm2, eF2, eW2, nd, hF, fun q hq => hW q (by simp [hq]), fun q hq => ?_, fun r hr q hq => ?_, ?_⟩⟩
      · simp only [List.length_append, List.length_singleton]
        omega
      · rcases hc0 q hq with h | h
        · exact .inl h
        · rcases List.mem_append.mp h with h | h
          · exact .inr h
          · exact .inl (List.mem_singleton.mp h ▸ hx)
      · rcases hc1 r hr q hq with h | h
        · exact .inl h
        · rcases List.mem_append.mp h with h | h
          · exact .inr h
          · exact .inl (List.mem_singleton.mp h ▸ hx)
      · simp only [List.length_append, List.length_singleton] at hwl
        omega


set_option maxHeartbeats 4000000 in
theorem ok_long_lists  (F : Fun K "_long_lists" "_long_lists" s_long_lists f fd) (T : Txt w K mg) : FnOk P w K mg base CX0 (k + 1) f fd ["arrows", "leaves"] (sp_long_lists) := by
  refine F.ok sc_long_lists (fun vs H Q E h => ?_) (fun cdv A outer s0 H vs Q E hr h => ?_)
  · obtain ⟨S, x, y, ds, es, rfl, hx, hy, q⟩ := h
    rfl
  · obtain ⟨S, x, y, ds, es, rfl, hx, hy, q⟩ := h
    refine ⟨_, (pss_cons (ps_set (i := 2) sc_long_lists.nd rfl (Or.inl rfl) (pe_tup (pa_cons (pe_tup (pa_cons (pe_callB call_len_seq (by rfl) T.len PySem.boot_len (pa_cons (pv 0) pa_nil)) (pa_cons (pe_gint (by rfl) T.MOST_ARROWS) pa_nil))) (pa_cons (pe_tup (pa_cons (pe_callB call_len_seq (by rfl) T.len PySem.boot_len (pa_cons (pv 1) pa_nil)) (pa_cons (pe_gint (by rfl) T.MOST_LEAVES) pa_nil))) pa_nil))))
      (pss_one (ps_ret (pe_lc (own := [("at", 3), ("length", 4), ("most", 5)]) (by rfl) sc_long_lists.nd (pi_enumT (by rfl) T.enumerate (pa_cons (pv 2) pa_nil)) (blkOk_by (own := [("at", 3), ("length", 4), ("most", 5)]) (N := ["arrows", "leaves", "lengths", "at", "length", "most"]) (sc := defScope s_long_lists) (by decide +kernel)) (fun _ _ _ _ _ => (pg_pairK K rfl rfl (pg_name (i := 3) sc_long_lists.nd rfl (Or.inl rfl)) (pg_pairK K rfl rfl (pg_name (i := 4) sc_long_lists.nd rfl (Or.inl rfl)) (pg_name (i := 5) sc_long_lists.nd rfl (Or.inl rfl)) (by rfl) (by rfl) (by rfl) (by rfl)) (by rfl) (by rfl) (by rfl) (by rfl))) (fun _ _ _ _ _ => (pts_one (pt_cmpR op_gt (pv 4) (pv 5) (nomark _)))) (fun _ _ _ _ _ => (pv 3)))))), ?_⟩
    obtain ⟨a, xs, rfl, nS, ea, hA⟩ := hx.list
    obtain ⟨b, ys, rfl, nS2, eb, hB⟩ := hy.list
    refine ⟨_, rfl, a, xs, rfl, .inl (.of ea), ?_⟩
    refine ⟨(by show 2 ≤ sizeLine; decide), fun p1 n1 => ?_⟩
    have s1 := same_new (o := .tup [.int xs.length, .int 46]) (Same.refl H) n1
    refine ⟨_, rfl, b, ys, rfl, .inl (.of (s1 _ _ eb)), ?_⟩
    refine ⟨(by show 2 ≤ sizeLine; decide), fun p2 n2 => ?_⟩
    have s2 := same_new (o := .tup [.int ys.length, .int 12]) (Same.refl _) n2
    refine ⟨(by show 2 ≤ sizeLine; decide), fun p3 n3 => ?_⟩
    have s3 := same_new (o := .tup [.ref p1, .ref p2]) (Same.refl _) n3
    have sA := fun b o e => s3 b o (s2 b o (s1 b o e))
    have e1 := s3 _ _ (s2 _ _ (upd_same : upd H p1 (.tup [.int xs.length, .int 46]) p1 = _))
    have e2 := s3 _ _ (upd_same : upd (upd H p1 (.tup [.int xs.length, .int 46])) p2 (.tup [.int ys.length, .int 12]) p2 = _)
    refine ⟨_, rfl, p3, _, rfl, .of upd_same, ?_⟩
    have e3 : upd (upd (upd H p1 (.tup [.int xs.length, .int 46])) p2 (.tup [.int ys.length, .int 12])) p3 (.tup [.ref p1, .ref p2]) p3 = some (.tup [.ref p1, .ref p2]) := upd_same
    generalize upd (upd (upd H p1 (.tup [.int xs.length, .int 46])) p2 (.tup [.int ys.length, .int 12])) p3 (.tup [.ref p1, .ref p2]) = H3 at sA e1 e2 e3
    rw [hA.length] at e1
    rw [hB.length] at e2
    refine lc_flt walk_enumT (fun i => if i = 0 then decide (46 < ds.length) else decide (12 < es.length)) (fun i => .int i) (by show 2 < sizeLine; decide) (fun H' sm => .of (sm _ _ e3)) ?_ ?_
    · rintro i x H1 H2 N B hi sm ⟨T, u, v, rfl, nT, rfl, h1, h2⟩ hN hB
      cases h1
      refine ⟨T, _, rfl, .of upd_same, rfl, ?_⟩
      have sm2 := same_new (o := .tup [.int (i : Nat), v]) (Same.refl H1) nT
      obtain ⟨pp, n, m, rfl, hpp, hq⟩ : ∃ (pp : Addr) (n m : Int), v = .ref pp ∧ H1 pp = some (.tup [.int n, .int m]) ∧ (if i = 0 then decide (46 < ds.length) else decide (12 < es.length)) = decide (m < n) := by
        rcases i with _ | _ | i
        · cases h2
          exact ⟨p1, _, _, rfl, sm _ _ e1, decide_eq_decide.mpr (by omega)⟩
        · cases h2
          exact ⟨p2, _, _, rfl, sm _ _ e2, decide_eq_decide.mpr (by omega)⟩
        · cases h2
      rw [hq] at hN hB
      refine ⟨_, _, rfl, _, _, rfl, pp, _, rfl, .of (sm2 _ _ hpp), rfl, _, _, rfl, _, _, rfl, rfl, rfl, ?_⟩
      refine ⟨rfl, _, rfl, _, rfl, _, _, rfl, rfl, _, rfl, ?_⟩
      exact ite2 (fun e => ⟨_, rfl, hB _ sm2 e⟩) fun e => hN _ sm2 (Bool.eq_false_iff.mpr e)
    · intro D H' nD sm e
      exact q H' D (fun b o eb => sm _ _ (sA b o eb)) (Same.free sA nD) e


set_option maxHeartbeats 4000000 in
theorem ok_bad_arrows  (F : Fun K "_bad_arrows" "_bad_arrows" s_bad_arrows f fd) (T : Txt w K mg)
    (O_is_place_pair : Own P w K mg base k "is_place_pair" ["value"] (sp_is_place_pair)) : FnOk P w K mg base CX0 (k + 1) f fd ["arrows", "leaves"] (sp_bad_arrows) := by
  refine F.ok sc_bad_arrows (fun vs H Q E h => ?_) (fun cdv A outer s0 H vs Q E hr h => ?_)
  · obtain ⟨S, x, y, ds, rfl, hd, hl, q⟩ := h
    rfl
  · obtain ⟨S, x, y, ds, rfl, hd, hl, q⟩ := h
    refine ⟨_, (pss_one (ps_ret (pe_lc (own := [("at", 2), ("arrow", 3)]) (by rfl) sc_bad_arrows.nd (pi_enum (by rfl) T.enumerate (pa_cons (pv 0) pa_nil)) (blkOk_by (own := [("at", 2), ("arrow", 3)]) (N := ["arrows", "leaves", "at", "arrow"]) (sc := defScope s_bad_arrows) (by decide +kernel)) (fun _ _ _ _ _ => (pg_pairK K rfl rfl (pg_name (i := 2) sc_bad_arrows.nd rfl (Or.inl rfl)) (pg_name (i := 3) sc_bad_arrows.nd rfl (Or.inl rfl)) (by rfl) (by rfl) (by rfl) (by rfl))) (fun _ _ _ _ _ => (pts_one (pt_not (pt_val (pe_own O_is_place_pair hr (by rfl) (pa_cons (pv 3) pa_nil)))))) (fun _ _ _ _ _ => (pv 2))))), ?_⟩
    obtain ⟨a, xs, rfl, nS, ea, hA⟩ : ∃ a xs, x = .ref a ∧ ¬ S a ∧ H a = some (.lst xs) ∧ DaAll S H xs ds := by
      cases hd with
      | lst n e r => exact ⟨_, _, rfl, n, e, r⟩
    refine ⟨_, rfl, a, xs, rfl, .of ea, ?_⟩
    refine lc_flt walk_enum (fun i => (ds[i]?).any fun d => !pairD d) (fun i => .int i) (line_lt (by rw [hA.length]; omega)) (fun H' sm => .of (sm _ _ ea)) ?_ ?_
    · rintro i x H1 H2 N B hi sm ⟨T, u, v, rfl, nT, rfl, h1, h2⟩ hN hB
      cases h1
      refine ⟨T, _, rfl, .of upd_same, rfl, ?_⟩
      obtain ⟨d, ed, hd⟩ := hA.get h2
      rw [ed] at hN hB
      refine ⟨_, _, rfl, _, _, rfl, rfl, ?_⟩
      refine ⟨rfl, _, rfl, S, v, d, rfl, hd.same (fun b o e => same_new (Same.refl H1) nT _ _ (sm _ _ e)), _, rfl, ?_⟩
      cases hp : pairD d with
      | true => exact hN _ (same_new (Same.refl H1) nT) (congrArg (!·) hp)
      | false => exact ⟨_, rfl, hB _ (same_new (Same.refl H1) nT) (congrArg (!·) hp)⟩
    · intro D H' nD sm e
      rw [hA.length] at e
      exact q H' D sm nD e


set_option maxHeartbeats 4000000 in
theorem ok_bad_leaves  (F : Fun K "_bad_leaves" "_bad_leaves" s_bad_leaves f fd) (T : Txt w K mg)
    (O_is_labelled_place : Own P w K mg base k "_is_labelled_place" ["value"] (sp_is_labelled_place)) : FnOk P w K mg base CX0 (k + 1) f fd ["arrows", "leaves"] (sp_bad_leaves) := by
  refine F.ok sc_bad_leaves (fun vs H Q E h => ?_) (fun cdv A outer s0 H vs Q E hr h => ?_)
  · obtain ⟨S, y, x, ds, rfl, hd, hl, q⟩ := h
    rfl
  · obtain ⟨S, y, x, ds, rfl, hd, hl, q⟩ := h
    refine ⟨_, (pss_one (ps_ret (pe_lc (own := [("at", 2), ("leaf", 3)]) (by rfl) sc_bad_leaves.nd (pi_enum (by rfl) T.enumerate (pa_cons (pv 1) pa_nil)) (blkOk_by (own := [("at", 2), ("leaf", 3)]) (N := ["arrows", "leaves", "at", "leaf"]) (sc := defScope s_bad_leaves) (by decide +kernel)) (fun _ _ _ _ _ => (pg_pairK K rfl rfl (pg_name (i := 2) sc_bad_leaves.nd rfl (Or.inl rfl)) (pg_name (i := 3) sc_bad_leaves.nd rfl (Or.inl rfl)) (by rfl) (by rfl) (by rfl) (by rfl))) (fun _ _ _ _ _ => (pts_one (pt_not (pt_val (pe_own O_is_labelled_place hr (by rfl) (pa_cons (pv 3) pa_nil)))))) (fun _ _ _ _ _ => (pv 2))))), ?_⟩
    obtain ⟨a, xs, rfl, nS, ea, hA⟩ : ∃ a xs, x = .ref a ∧ ¬ S a ∧ H a = some (.lst xs) ∧ DaAll S H xs ds := by
      cases hd with
      | lst n e r => exact ⟨_, _, rfl, n, e, r⟩
    refine ⟨_, rfl, a, xs, rfl, .of ea, ?_⟩
    refine lc_flt walk_enum (fun i => (ds[i]?).any fun d => !labD d) (fun i => .int i) (line_lt (by rw [hA.length]; omega)) (fun H' sm => .of (sm _ _ ea)) ?_ ?_
    · rintro i x H1 H2 N B hi sm ⟨T, u, v, rfl, nT, rfl, h1, h2⟩ hN hB
      cases h1
      refine ⟨T, _, rfl, .of upd_same, rfl, ?_⟩
      obtain ⟨d, ed, hd⟩ := hA.get h2
      rw [ed] at hN hB
      refine ⟨_, _, rfl, _, _, rfl, rfl, ?_⟩
      refine ⟨rfl, _, rfl, S, v, d, rfl, hd.same (fun b o e => same_new (Same.refl H1) nT _ _ (sm _ _ e)), _, rfl, ?_⟩
      cases hp : labD d with
      | true => exact hN _ (same_new (Same.refl H1) nT) (congrArg (!·) hp)
      | false => exact ⟨_, rfl, hB _ (same_new (Same.refl H1) nT) (congrArg (!·) hp)⟩
    · intro D H' nD sm e
      rw [hA.length] at e
      exact q H' D sm nD e


set_option maxHeartbeats 4000000 in
theorem ok_bad_names  (F : Fun K "_bad_names" "_bad_names" s_bad_names f fd) (T : Txt w K mg)
    (O_is_name : Own P w K mg base k "is_name" ["value"] (sp_is_name)) : FnOk P w K mg base CX0 (k + 1) f fd ["arrows", "leaves"] (sp_bad_names) := by
  refine F.ok sc_bad_names (fun vs H Q E h => ?_) (fun cdv A outer s0 H vs Q E hr h => ?_)
  · obtain ⟨S, y, x, Ls, rfl, hd, hl, hz, q⟩ := h
    rfl
  · obtain ⟨S, y, x, Ls, rfl, hd, hl, hz, q⟩ := h
    refine ⟨_, (pss_one (ps_ret (pe_lc (own := [("at", 2), ("leaf", 3)]) (by rfl) sc_bad_names.nd (pi_enum (by rfl) T.enumerate (pa_cons (pv 1) pa_nil)) (blkOk_by (own := [("at", 2), ("leaf", 3)]) (N := ["arrows", "leaves", "at", "leaf"]) (sc := defScope s_bad_names) (by decide +kernel)) (fun _ _ _ _ _ => (pg_pairK K rfl rfl (pg_name (i := 2) sc_bad_names.nd rfl (Or.inl rfl)) (pg_name (i := 3) sc_bad_names.nd rfl (Or.inl rfl)) (by rfl) (by rfl) (by rfl) (by rfl))) (fun _ _ _ _ _ => (pts_one (pt_not (pt_val (pe_own O_is_name hr (by rfl) (pa_cons (pe_ix (ix_tupK K rfl) (pv 3) pe_int (fun _ _ => rfl)) pa_nil)))))) (fun _ _ _ _ _ => (pv 2))))), ?_⟩
    obtain ⟨a, xs, rfl, nS, ea, hA⟩ := hd.list
    have hn : xs.length = Ls.length := by rw [hA.length, List.length_map]
    refine ⟨_, rfl, a, xs, rfl, .of ea, ?_⟩
    refine lc_flt walk_enum (fun i => (Ls[i]?).any fun p => !nameL p.2.cps.toList) (fun i => .int i) (by rw [hn]; exact hl) (fun H' sm => .of (sm _ _ ea)) ?_ ?_
    · rintro i x H1 H2 N B hi sm ⟨T, u, v, rfl, nT, rfl, h1, h2⟩ hN hB
      cases h1
      refine ⟨T, _, rfl, .of upd_same, rfl, ?_⟩
      have sm2 := same_new (o := .tup [.int (i : Nat), v]) (Same.refl H1) nT
      obtain ⟨p, t, ed, rfl, nt, et⟩ := hA.ld h2
      rw [ed] at hN hB
      refine ⟨_, _, rfl, _, _, rfl, rfl, ?_⟩
      refine ⟨rfl, _, rfl, t, _, 1, .str p.2, rfl, rfl, .of (sm2 _ _ (sm _ _ et)), rfl, S, _, .str p.2, 1000000, 0, rfl, .str _, .str _ (hz _ (List.mem_of_getElem? ed)), Nat.le_refl _, fun H4 s4 => ⟨_, rfl, ?_⟩⟩
      have s5 : Same H1 H4 := fun b o e => s4 _ _ (sm2 _ _ e)
      cases hp : nameL p.2.cps.toList with
      | true => exact ite2 (fun e => absurd e (by show ¬ (!nameL p.2.cps.toList) = true; rw [hp]; decide)) fun _ => hN _ s5 (congrArg (!·) hp)
      | false => exact ite2 (fun _ => ⟨_, rfl, hB _ s5 (congrArg (!·) hp)⟩) fun e => absurd (show (!nameL p.2.cps.toList) = true by rw [hp]; rfl) e
    · intro D H' nD sm e
      rw [hn] at e
      exact q H' D sm nD e


set_option maxHeartbeats 4000000 in
theorem ok_leaves_again  (F : Fun K "_leaves_again" "_leaves_again" s_leaves_again f fd) (T : Txt w K mg) : FnOk P w K mg base CX0 (k + 1) f fd ["arrows", "leaves"] (sp_leaves_again) := by
  refine F.ok sc_leaves_again (fun vs H Q E h => ?_) (fun cdv A outer s0 H vs Q E hr h => ?_)
  · obtain ⟨S, y, x, Ls, rfl, hd, hl, q⟩ := h
    rfl
  · obtain ⟨S, y, x, Ls, rfl, hd, hl, q⟩ := h
    refine ⟨_, (pss_cons (ps_set (i := 2) sc_leaves_again.nd rfl (Or.inr rfl) (pe_lc (own := [("leaf", 4)]) (by rfl) sc_leaves_again.nd (pi_list (pv 1)) (blkOk_by (own := [("leaf", 4)]) (N := ["arrows", "leaves", "places", "names", "leaf", "at"]) (sc := defScope s_leaves_again) (by decide +kernel)) (fun _ _ _ _ _ => pg_name (i := 4) sc_leaves_again.nd rfl (Or.inl rfl)) (fun _ _ _ _ _ => pts_nil) (fun _ _ _ _ _ => (pe_ix (ix_tupK K rfl) (pv 4) pe_int (fun _ _ => rfl)))))
      (pss_cons (ps_set (i := 3) sc_leaves_again.nd rfl (Or.inr rfl) (pe_lc (own := [("leaf", 4)]) (by rfl) sc_leaves_again.nd (pi_list (pv 1)) (blkOk_by (own := [("leaf", 4)]) (N := ["arrows", "leaves", "places", "names", "leaf", "at"]) (sc := defScope s_leaves_again) (by decide +kernel)) (fun _ _ _ _ _ => pg_name (i := 4) sc_leaves_again.nd rfl (Or.inl rfl)) (fun _ _ _ _ _ => pts_nil) (fun _ _ _ _ _ => (pe_ix (ix_tupK K rfl) (pv 4) pe_int (fun _ _ => rfl)))))
      (pss_one (ps_ret (pe_lc (own := [("at", 5)]) (by rfl) sc_leaves_again.nd (pi_range1 (by rfl) T.range (pa_cons (pe_callB call_len_seq (by rfl) T.len PySem.boot_len (pa_cons (pv 1) pa_nil)) pa_nil)) (blkOk_by (own := [("at", 5)]) (N := ["arrows", "leaves", "places", "names", "leaf", "at"]) (sc := defScope s_leaves_again) (by decide +kernel)) (fun _ _ _ _ _ => pg_name (i := 5) sc_leaves_again.nd rfl (Or.inl rfl)) (fun _ _ _ _ _ => (pts_one (PW.pt (pw_or (pt_cmpR (op_in_seqK K rfl) (pe_ix (ix_listK K rfl) (pv 2) (pv 5) (fun _ _ => rfl)) (pe_slice (sl_listK K rfl) (pv 2) po_none (po_some (pv 5))) rfl) (pw_or1 (pt_cmpR (op_in_seqK K rfl) (pe_ix (ix_listK K rfl) (pv 3) (pv 5) (fun _ _ => rfl)) (pe_slice (sl_listK K rfl) (pv 3) po_none (po_some (pv 5))) rfl)))))) (fun _ _ _ _ _ => (pv 5))))))), ?_⟩
    obtain ⟨a, xs, rfl, nS, ea, hA⟩ := hd.list
    have hn : xs.length = Ls.length := by rw [hA.length, List.length_map]
    dsimp only [tSeq, tAsg]
    refine lc_listM (K := K) rfl ea ((Ls.map (·.1)).map V.int) (by rw [List.length_map, List.length_map, hn]) (by rw [hn]; exact hl) ?_ ?_
    · rintro i x H1 N A z hz sm hx hA5
      obtain ⟨p, t, ed, rfl, nt, et⟩ := hA.ldS sm hx
      rw [List.map_map, List.getElem?_map, ed] at hz
      cases hz
      exact ⟨rfl, _, rfl, t, _, 0, _, rfl, rfl, .of et, rfl, hA5 _ (Same.refl _)⟩
    intro D1 H1 nD1 s1 e1
    dsimp only [gName, tSeq, tAsg]
    refine lc_listM (K := K) rfl (s1 _ _ ea) ((Ls.map (·.2)).map V.str) (by rw [List.length_map, List.length_map, hn]) (by rw [hn]; exact hl) ?_ ?_
    · rintro i x H2 N A z hz sm hx hA5
      obtain ⟨p, t, ed, rfl, nt, et⟩ := hA.ldS (fun b o e => sm _ _ (s1 _ _ e)) hx
      rw [List.map_map, List.getElem?_map, ed] at hz
      cases hz
      exact ⟨rfl, _, rfl, t, _, 1, _, rfl, rfl, .of et, rfl, hA5 _ (Same.refl _)⟩
    intro D2 H2 nD2 s2 e2
    have e1 := s2 _ _ e1
    have s2 : Same H H2 := fun b o e => s2 _ _ (s1 _ _ e)
    refine ⟨_, rfl, a, xs, rfl, .inl (.of (s2 _ _ ea)), _, rfl, ?_⟩
    refine ⟨(line62 (by rw [hn]; exact hl)).1, (line62 (by rw [hn]; exact hl)).2, ?_⟩
    refine lc_flt walk_range (fun i => (Ls[i]?).any fun p => decide (p.1 ∈ (Ls.map (·.1)).take i) || decide (p.2 ∈ (Ls.map (·.2)).take i)) (fun i => .int i) (by rw [Int.toNat_natCast, hn]; exact hl) (fun _ _ => trivial) ?_ ?_
    · rintro i x H3 H4 N A hi sm ⟨rfl, rfl⟩ hN hA5
      dsimp only
      rw [Int.zero_add]
      rw [Int.toNat_natCast, hn] at hi
      have e1 := sm _ _ e1
      have e2 := sm _ _ e2
      have eL : Ls[i]? = some Ls[i] := List.getElem?_eq_getElem hi
      have eP : ((Ls.map (·.1)).map V.int)[i]? = some (.int Ls[i].1) := by rw [List.getElem?_map, List.getElem?_map, eL]; rfl
      have eN : ((Ls.map (·.2)).map V.str)[i]? = some (.str Ls[i].2) := by rw [List.getElem?_map, List.getElem?_map, eL]; rfl
      rw [eL] at hN hA5
      refine ⟨rfl, _, rfl, _, rfl, _, _, _, _, rfl, rfl, .of e1, atI_nat eP, ?_⟩
      refine ⟨_, rfl, _, rfl, _, rfl, D1, _, rfl, .of e1, fun P nP => ?_⟩
      have s4 := same_new (o := .lst (cutV ((Ls.map (·.1)).map V.int) none (some (i : Int)))) (Same.refl H4) nP
      have e2 := s4 _ _ e2
      rw [cutV_take, ← List.map_take] at s4 e2 ⊢
      refine ⟨P, _, rfl, .inl (.of upd_same), rfl, flat_ints, _, rfl, ?_⟩
      rw [inV_ints]
      refine ite2 (fun e => ?_) (fun e => ?_)
      · refine ite2 (fun _ => ⟨_, rfl, hA5 _ s4 ?_⟩) (fun z => absurd rfl z)
        show (_ || _) = true
        rw [show decide (Ls[i].1 ∈ (Ls.map (·.1)).take i) = true from e]
        rfl
      have f1 : decide (Ls[i].1 ∈ (Ls.map (·.1)).take i) = false := Bool.eq_false_iff.mpr e
      refine ⟨_, rfl, _, rfl, _, _, _, _, rfl, rfl, .of e2, atI_nat eN, _, rfl, _, rfl, _, rfl, D2, _, rfl, .of e2, fun R nR => ?_⟩
      have s5 := same_new (o := .lst (cutV ((Ls.map (·.2)).map V.str) none (some (i : Int)))) (Same.refl _) nR
      have ec : cutV ((Ls.map (·.2)).map V.str) none (some (i : Int)) = ((Ls.map (·.2)).take i).map V.str := by rw [cutV_take, ← List.map_take]
      rw [ec] at s5 ⊢
      have s6 : Same H4 _ := fun b o e => s5 _ _ (s4 b o e)
      refine ⟨R, _, rfl, .inl (.of upd_same), rfl, flat_strs, _, rfl, ?_⟩
      rw [inV_strs]
      have f2 : ∀ b, decide (Ls[i].2 ∈ (Ls.map (·.2)).take i) = b → Option.any (fun p => decide (p.1 ∈ (Ls.map (·.1)).take i) || decide (p.2 ∈ (Ls.map (·.2)).take i)) (some Ls[i]) = b := fun b hb => by
        show (_ || _) = b
        rw [f1, hb]
        rfl
      refine ite2 (fun e => ⟨_, rfl, hA5 _ s6 (f2 _ e)⟩) (fun e => hN _ s6 (f2 _ (Bool.eq_false_iff.mpr e)))
    · intro D H' nD sm e
      rw [Int.toNat_natCast, hn] at e
      exact q H' D (fun b o eb => sm _ _ (s2 _ _ eb)) (s2.free nD) e


set_option maxHeartbeats 4000000 in
theorem ok_arrows_again  (F : Fun K "_arrows_again" "_arrows_again" s_arrows_again f fd) (T : Txt w K mg) : FnOk P w K mg base CX0 (k + 1) f fd ["arrows", "leaves"] (sp_arrows_again) := by
  refine F.ok sc_arrows_again (fun vs H Q E h => ?_) (fun cdv A outer s0 H vs Q E hr h => ?_)
  · obtain ⟨S, y, x, As, rfl, hd, hl, q⟩ := h
    rfl
  · obtain ⟨S, y, x, As, rfl, hd, hl, q⟩ := h
    refine ⟨_, (pss_one (ps_ret (pe_lc (own := [("at", 2), ("arrow", 3)]) (by rfl) sc_arrows_again.nd (pi_enum (by rfl) T.enumerate (pa_cons (pv 0) pa_nil)) (blkOk_by (own := [("at", 2), ("arrow", 3)]) (N := ["arrows", "leaves", "at", "arrow"]) (sc := defScope s_arrows_again) (by decide +kernel)) (fun _ _ _ _ _ => (pg_pairK K rfl rfl (pg_name (i := 2) sc_arrows_again.nd rfl (Or.inl rfl)) (pg_name (i := 3) sc_arrows_again.nd rfl (Or.inl rfl)) (by rfl) (by rfl) (by rfl) (by rfl))) (fun _ _ _ _ _ => (pts_one (pt_cmpR (op_inDK K rfl (u65 hr)) (pv 3) (pe_slice (sl_listK K rfl) (pv 0) po_none (po_some (pv 2))) rfl))) (fun _ _ _ _ _ => (pv 2))))), ?_⟩
    obtain ⟨a, xs, rfl, nS, ea, hA⟩ := hd.list
    have hn : xs.length = As.length := by rw [hA.length, List.length_map]
    refine ⟨_, rfl, a, xs, rfl, .of ea, ?_⟩
    refine lc_flt walk_enum (fun i => (As[i]?).any fun p => decide (p ∈ As.take i)) (fun i => .int i) (by rw [hn]; exact hl) (fun H' sm => .of (sm _ _ ea)) ?_ ?_
    · rintro i x H1 H2 N B hi sm ⟨T, u, v, rfl, nT, rfl, h1, h2⟩ hN hB
      cases h1
      refine ⟨T, _, rfl, .of upd_same, rfl, ?_⟩
      have sm2 := same_new (o := .tup [.int (i : Nat), v]) (Same.refl H1) nT
      obtain ⟨p, t, ed, rfl, nt, et⟩ := hA.pd h2
      rw [ed] at hN hB
      refine ⟨_, _, rfl, _, _, rfl, rfl, ?_⟩
      refine ⟨rfl, _, rfl, _, rfl, ?_⟩
      refine ⟨_, rfl, _, rfl, a, xs, rfl, .of (sm2 _ _ (sm _ _ ea)), fun P nP => ?_⟩
      rw [cutV_take]
      have sm3 := same_new (o := .lst (xs.take i)) (Same.refl _) nP
      have s3 : Same H (upd (upd H1 T (.tup [.int (i : Nat), .ref t])) P (.lst (xs.take i))) := fun b o e => sm3 _ _ (sm2 _ _ (sm _ _ e))
      have hA2 := (hA.take i).same s3
      rw [← List.map_take] at hA2
      refine ⟨pd p, (As.take i).map pd, (Da.tup nt (s3 _ _ et) (.cons (.int _) (.cons (.int _) .nil))).dp, .lst (.of upd_same) hA2.dp, shaped_pd p, shaped_pds _, _, rfl, ?_⟩
      rw [any_pd]
      have s5 : Same H1 (upd (upd H1 T (.tup [.int (i : Nat), .ref t])) P (.lst (xs.take i))) := fun b o e => sm3 _ _ (sm2 _ _ e)
      refine ite2 (fun e => ⟨_, rfl, hB _ s5 e⟩) fun e => hN _ s5 ?_
      exact Bool.eq_false_iff.mpr e
    · intro D H' nD sm e
      rw [hn] at e
      exact q H' D sm nD e


set_option maxHeartbeats 4000000 in
theorem ok_no_leaves  (F : Fun K "_no_leaves" "_no_leaves" s_no_leaves f fd) (T : Txt w K mg) : FnOk P w K mg base CX0 (k + 1) f fd ["arrows", "leaves"] (sp_no_leaves) := by
  refine F.ok sc_no_leaves (fun vs H Q E h => ?_) (fun cdv A outer s0 H vs Q E hr h => ?_)
  · obtain ⟨S, y, x, ds, rfl, hd, q⟩ := h
    rfl
  · obtain ⟨S, y, x, ds, rfl, hd, q⟩ := h
    refine ⟨_, (pss_one (ps_ret (pe_ifExp (pt_tru K rfl (pv 1) (fun _ => rfl)) (pe_lst pa_nil) (pe_lst (pa_cons pe_int pa_nil))))), ?_⟩
    obtain ⟨a, xs, rfl, nS, ea, hA⟩ := hd.list
    refine ⟨_, rfl, _, .inl ⟨xs, .of ea, rfl⟩, ?_⟩
    cases hA with
    | nil =>
      refine ⟨(by show 1 ≤ sizeLine; decide), fun p np => ?_⟩
      exact q _ _ (same_new (Same.refl H) np) np (by rw [upd_same]; rfl)
    | cons h r =>
      refine ⟨(by show 0 ≤ sizeLine; decide), fun p np => ?_⟩
      exact q _ _ (same_new (Same.refl H) np) np (by rw [upd_same, if_neg (by simp)]; rfl)


set_option maxHeartbeats 4000000 in
theorem ok_bad_degrees  (F : Fun K "_bad_degrees" "_bad_degrees" s_bad_degrees f fd) (T : Txt w K mg) : FnOk P w K mg base CX0 (k + 1) f fd ["mothers", "children", "labelled"] (sp_bad_degrees) := by
  refine F.ok sc_bad_degrees (fun vs H Q E h => ?_) (fun cdv A outer s0 H vs Q E hr h => ?_)
  · obtain ⟨D, C, z, P, am, ac, up, dn, rfl, hM, hC, hD, h64, q⟩ := h
    rfl
  · obtain ⟨D, C, z, P, am, ac, up, dn, rfl, hM, hC, hD, h64, q⟩ := h
    refine ⟨_, (pss_one (ps_ret (pe_lock (pe_lc (own := [("place", 3)]) (by rfl) sc_bad_degrees.nd (pi_keys (pv 0)) (blkOk_by (own := [("place", 3)]) (N := ["mothers", "children", "labelled", "place"]) (sc := defScope s_bad_degrees) (by decide +kernel)) (fun _ _ _ _ _ => pg_name (i := 3) sc_bad_degrees.nd rfl (Or.inl rfl)) (fun _ _ _ _ _ => (pts_one (pt_cmpR (op_notInDTK K rfl (u65 hr)) (pe_tup (pa_cons (pe_callB (call_len_seqK K rfl) (by rfl) T.len PySem.boot_len (pa_cons (pe_dget (u1 hr) (pv 0) (pv 3) (fun _ _ => rfl)) pa_nil)) (pa_cons (pe_callB (call_len_seqK K rfl) (by rfl) T.len PySem.boot_len (pa_cons (pe_dget (u1 hr) (pv 1) (pv 3) (fun _ _ => rfl)) pa_nil)) pa_nil))) (pe_glob (by rfl) T.DEGREES.1 (v := .ref (He.ga K "DEGREES")) rfl) rfl))) (fun _ _ _ _ _ => (pv 3)))))), ?_⟩
    refine lc_dict rfl hD (badDeg up dn) (Nat.lt_trans h64 (by decide)) (fun _ => rfl) (fun _ => rfl) ?_ (fun R H' nR sm e => q H' R sm nR e)
    intro x hx od H1 k sm hk
    have hM1 := (hM.lock (od := od) hD).same sm
    have hC1 := (hC.lock (od := od) hD).same sm
    refine ⟨_, rfl, _, rfl, D, .ref (am x), rfl, hM1.get hx, _, _, rfl, .inl (.of (hM1.val x hx)), ?_⟩
    refine ⟨_, rfl, _, rfl, C, .ref (ac x), rfl, hC1.get hx, _, _, rfl, .inl (.of (hC1.val x hx)), ?_⟩
    refine ⟨(by show 2 ≤ sizeLine; decide), fun L nL => ?_⟩
    rw [List.length_map, List.length_map]
    refine ⟨.tuple [.int (up x).length, .int (dn x).length], _, .tup (.of upd_same) (.cons (.int _) (.cons (.int _) .nil)), T.DEGREES.2 _, rfl, shaped_tupD _, _, rfl, ?_⟩
    rw [any_deg]
    exact hk _ (same_new (Same.refl _) nL)


set_option maxHeartbeats 4000000 in
theorem ok_bad_roots  (F : Fun K "_bad_roots" "_bad_roots" s_bad_roots f fd) (T : Txt w K mg) : FnOk P w K mg base CX0 (k + 1) f fd ["mothers", "children", "labelled"] (sp_bad_roots) := by
  refine F.ok sc_bad_roots (fun vs H Q E h => ?_) (fun cdv A outer s0 H vs Q E hr h => ?_)
  · obtain ⟨y, z, D, P, am, val, rfl, hM, hD, h64, q⟩ := h
    rfl
  · obtain ⟨y, z, D, P, am, val, rfl, hM, hD, h64, q⟩ := h
    refine ⟨_, (pss_cons (ps_lock (ps_setLc (i := 3) (own := [("place", 4)]) (by rfl) sc_bad_roots.nd rfl rfl (sw_true rfl rfl rfl (by decide +kernel)) (pi_keys (pv 0)) (blkOk_by (own := [("place", 4)]) (N := ["mothers", "children", "labelled", "roots", "place"]) (sc := defScope s_bad_roots) (by decide +kernel)) (fun _ _ _ _ _ => pg_name (i := 4) sc_bad_roots.nd rfl (Or.inl rfl)) (fun _ _ _ _ _ => (pts_one (pt_not (pt_tru K rfl (pe_dget (u1 hr) (pv 0) (pv 4) (fun _ _ => rfl)) (fun _ => rfl))))) (fun _ _ _ _ _ => (pv 4))))
      (pss_one (ps_ret (pe_ifExp (pt_tru K rfl (pv 3) (fun _ => rfl)) (pe_slice sl_list (pv 3) (po_some pe_int) po_none) (pe_callTy (call_list_dK rfl) (by rfl) T.list (by decide +kernel) (pa_cons (pv 0) pa_nil)))))), ?_⟩
    refine lock_asg ?_
    refine lc_dict rfl hD (fun p => (val p).isEmpty) (Nat.lt_trans h64 (by decide)) (fun _ => rfl) (fun _ => rfl) ?_ ?_
    · intro x hx od H1 k sm hk
      refine ⟨_, rfl, _, rfl, D, .ref (am x), rfl, ((hM.lock hD).same sm).get hx, _, .inl ⟨_, .of (((hM.lock hD).same sm).val x hx), rfl⟩, ?_⟩
      have e : (!(!((val x).map V.int).isEmpty)) = (val x).isEmpty := by cases val x <;> rfl
      show k (!(!((val x).map V.int).isEmpty)) H1
      rw [e]
      exact hk _ (Same.refl _)
    intro R H1 nR sm eR
    generalize (P.filter fun p => (val p).isEmpty) = Z at eR q
    refine ⟨_, rfl, _, .inl ⟨_, .of eR, rfl⟩, ?_⟩
    cases Z with
    | nil =>
      refine ⟨_, rfl, D, _, rfl, sm _ _ hD, fun L nL => ?_⟩
      refine q _ L (same_snoc sm nL) (sm.free nL) ?_
      rw [upd_same, if_pos rfl, List.map_map]
      rfl
    | cons z Z =>
      refine ⟨_, rfl, _, rfl, R, _, rfl, .of eR, fun L nL => ?_⟩
      refine q _ L (same_snoc sm nL) (sm.free nL) ?_
      rw [upd_same, if_neg (by simp), show (1 : Int) = ((1 : Nat) : Int) from rfl, cutV_drop _ _ (by simp), List.map_drop]


set_option maxHeartbeats 4000000 in
theorem ok_ring_places  (F : Fun K "_ring_places" "_ring_places" s_ring_places f fd) (T : Txt w K mg)
    (O_places_below : Own P w K mg base k "places_below" ["place", "children"] (sp_places_below)) : FnOk P w K mg base CX0 (k + 1) f fd ["mothers", "children", "labelled"] (sp_ring_places) := by
  refine F.ok sc_ring_places (fun vs H Q E h => ?_) (fun cdv A outer s0 H vs Q E hr h => ?_)
  · obtain ⟨M, C, D, z, P, ac, val, ring, rfl, hC, hD, h64, hV, hr0, q⟩ := h
    rfl
  · obtain ⟨M, C, D, z, P, ac, val, ring, rfl, hC, hD, h64, hV, hr0, q⟩ := h
    refine ⟨_, (pss_one (ps_ret (pe_lock (pe_lc (own := [("place", 3)]) (by rfl) sc_ring_places.nd (pi_keys (pv 1)) (blkOk_by (own := [("place", 3)]) (N := ["mothers", "children", "labelled", "place"]) (sc := defScope s_ring_places) (by decide +kernel)) (fun _ _ _ _ _ => pg_name (i := 3) sc_ring_places.nd rfl (Or.inl rfl)) (fun _ _ _ _ _ => (pts_one (pt_cmpR (op_in_seqK K rfl) (pv 3) (pe_own O_places_below hr (by rfl) (pa_cons (pv 3) (pa_cons (pv 1) pa_nil))) rfl))) (fun _ _ _ _ _ => (pv 3)))))), ?_⟩
    refine lc_dict rfl hD ring (Nat.lt_trans h64 (by decide)) (fun _ => rfl) (fun _ => rfl) ?_ (fun R H' nR sm e => q H' R sm nR e)
    intro x hx od H1 k sm hk
    refine ⟨_, rfl, _, rfl, _, rfl, D, P, ac, val, x, rfl, (hC.lock hD).same sm, hx, h64, hV, fun H2 R L s2 n2 e2 hp hL => ?_⟩
    refine ⟨R, _, rfl, .inl (.of e2), rfl, flat_ints, _, rfl, ?_⟩
    rw [inV_ints]
    have e : decide (x ∈ L) = ring x := by
      rw [Bool.eq_iff_iff, decide_eq_true_eq, hL, hr0 x hx]
    rw [e]
    exact hk H2 s2


set_option maxHeartbeats 4000000 in
theorem ok_bad_labels  (F : Fun K "_bad_labels" "_bad_labels" s_bad_labels f fd) (T : Txt w K mg) : FnOk P w K mg base CX0 (k + 1) f fd ["mothers", "children", "labelled"] (sp_bad_labels) := by
  refine F.ok sc_bad_labels (fun vs H Q E h => ?_) (fun cdv A outer s0 H vs Q E hr h => ?_)
  · obtain ⟨M, D, lb, P, ac, val, Lb, rfl, hC, hD, h64, hlb, q⟩ := h
    rfl
  · obtain ⟨M, D, lb, P, ac, val, Lb, rfl, hC, hD, h64, hlb, q⟩ := h
    refine ⟨_, (pss_one (ps_ret (pe_lock (pe_lc (own := [("place", 3)]) (by rfl) sc_bad_labels.nd (pi_keys (pv 1)) (blkOk_by (own := [("place", 3)]) (N := ["mothers", "children", "labelled", "place"]) (sc := defScope s_bad_labels) (by decide +kernel)) (fun _ _ _ _ _ => pg_name (i := 3) sc_bad_labels.nd rfl (Or.inl rfl)) (fun _ _ _ _ _ => (pts_one (pt_cmpR op_ne (pe_notTK K rfl (pe_dget (u1 hr) (pv 1) (pv 3) (fun _ _ => rfl))) (pe_cmpR (op_in_seqK K rfl) (pv 3) (pv 2) rfl) (nomark _)))) (fun _ _ _ _ _ => (pv 3)))))), ?_⟩
    refine lc_dict rfl hD (fun p => (val p).isEmpty != decide (p ∈ Lb)) (Nat.lt_trans h64 (by decide)) (fun _ => rfl) (fun _ => rfl) ?_ (fun R H' nR sm e => q H' R sm nR e)
    intro x hx od H1 k sm hk
    have hC1 := (hC.lock (od := od) hD).same sm
    have hlb1 : H1 lb = some (.lst (Lb.map V.int)) := sm _ _ (by rw [upd_ne (fun z => by rw [z, hD] at hlb; cases hlb)]; exact hlb)
    refine ⟨_, rfl, _, rfl, D, .ref (ac x), rfl, hC1.get hx, _, .inl ⟨_, .of (hC1.val x hx), rfl⟩, _, rfl, _, rfl, lb, _, rfl, .inl (.of hlb1), rfl, flat_ints, ?_⟩
    show rNe (.bl !(!((val x).map V.int).isEmpty)) (.bl (inV (.int x) (Lb.map V.int))) H1 fun x H' => ∃ c, x = V.bl c ∧ k c H'
    rw [inV_ints]
    refine ⟨rfl, _, rfl, ?_⟩
    have e : (!decide (V.bl (!(!((val x).map V.int).isEmpty)) = V.bl (decide (x ∈ Lb)))) = ((val x).isEmpty != decide (x ∈ Lb)) := by
      have h1 : (!(!((val x).map V.int).isEmpty)) = (val x).isEmpty := by cases val x <;> rfl
      rw [h1]
      cases (val x).isEmpty <;> cases decide (x ∈ Lb) <;> decide
    rw [e]
    exact hk _ (Same.refl _)


set_option maxHeartbeats 4000000 in
theorem ok_too_many_mixings  (F : Fun K "_too_many_mixings" "_too_many_mixings" s_too_many_mixings f fd) (T : Txt w K mg) : FnOk P w K mg base CX0 (k + 1) f fd ["mothers", "children", "labelled"] (sp_too_many_mixings) := by
  refine F.ok sc_too_many_mixings (fun vs H Q E h => ?_) (fun cdv A outer s0 H vs Q E hr h => ?_)
  · obtain ⟨y, z, D, P, am, val, rfl, hM, hD, h64, q⟩ := h
    rfl
  · obtain ⟨y, z, D, P, am, val, rfl, hM, hD, h64, q⟩ := h
    refine ⟨_, (pss_cons (ps_set (i := 3) sc_too_many_mixings.nd rfl (Or.inl rfl) (pe_callB call_len_seq (by rfl) T.len PySem.boot_len (pa_cons (pe_lock (pe_lc (own := [("place", 4)]) (by rfl) sc_too_many_mixings.nd (pi_keys (pv 0)) (blkOk_by (own := [("place", 4)]) (N := ["mothers", "children", "labelled", "many", "place"]) (sc := defScope s_too_many_mixings) (by decide +kernel)) (fun _ _ _ _ _ => pg_name (i := 4) sc_too_many_mixings.nd rfl (Or.inl rfl)) (fun _ _ _ _ _ => (pts_one (pt_cmpR op_eq (pe_callB (call_len_seqK K rfl) (by rfl) T.len PySem.boot_len (pa_cons (pe_dget (u1 hr) (pv 0) (pv 4) (fun _ _ => rfl)) pa_nil)) pe_int (nomark _)))) (fun _ _ _ _ _ => (pv 4)))) pa_nil)))
      (pss_one (ps_ret (pe_ifExp (pt_cmpR op_gt (pv 3) (pe_gint (by rfl) T.MOST_MIXINGS) (nomark _)) (pe_lst (pa_cons (pv 3) pa_nil)) (pe_lst pa_nil))))), ?_⟩
    refine lc_dict rfl hD (fun p => (val p).length == 2) (Nat.lt_trans h64 (by decide)) (fun _ => rfl) (fun _ => rfl) ?_ ?_
    · intro x hx od H1 k sm hk
      refine ⟨_, rfl, _, rfl, D, .ref (am x), rfl, ((hM.lock hD).same sm).get hx, _, _, rfl, .inl (.of (((hM.lock hD).same sm).val x hx)), rfl, _, rfl, ?_⟩
      rw [List.length_map, dec_two]
      exact hk _ (Same.refl _)
    intro R H1 nR sm eR
    generalize (P.filter fun p => (val p).length == 2) = Z at eR q
    refine ⟨R, _, rfl, .inl (.of eR), ?_⟩
    rw [List.length_map]
    refine ⟨_, rfl, _, _, rfl, rfl, _, rfl, ite2 (fun e => ?_) (fun e => ?_)⟩
    · have e : (8 : Int) < Z.length := of_decide_eq_true e
      refine ⟨_, rfl, (by show 1 ≤ sizeLine; decide), fun L nL => ?_⟩
      refine q _ L (same_snoc sm nL) (sm.free nL) ?_
      rw [upd_same, if_pos (by omega)]
    · have e : ¬ (8 : Int) < Z.length := fun h => e (decide_eq_true h)
      refine ⟨(by show 0 ≤ sizeLine; decide), fun L nL => ?_⟩
      refine q _ L (same_snoc sm nL) (sm.free nL) ?_
      rw [upd_same, if_neg (by omega)]


set_option maxHeartbeats 4000000 in
theorem ok_first_fault  (F : Fun K "first_fault" "first_fault" s_first_fault f fd) (T : Txt w K mg)
    (O_long_lists : Own P w K mg base k "_long_lists" ["arrows", "leaves"] (sp_long_lists))
    (O_bad_arrows : Own P w K mg base k "_bad_arrows" ["arrows", "leaves"] (sp_bad_arrows))
    (O_bad_leaves : Own P w K mg base k "_bad_leaves" ["arrows", "leaves"] (sp_bad_leaves))
    (O_bad_names : Own P w K mg base k "_bad_names" ["arrows", "leaves"] (sp_bad_names))
    (O_leaves_again : Own P w K mg base k "_leaves_again" ["arrows", "leaves"] (sp_leaves_again))
    (O_arrows_again : Own P w K mg base k "_arrows_again" ["arrows", "leaves"] (sp_arrows_again))
    (O_no_leaves : Own P w K mg base k "_no_leaves" ["arrows", "leaves"] (sp_no_leaves))
    (O_bad_degrees : Own P w K mg base k "_bad_degrees" ["mothers", "children", "labelled"] (sp_bad_degrees))
    (O_bad_roots : Own P w K mg base k "_bad_roots" ["mothers", "children", "labelled"] (sp_bad_roots))
    (O_ring_places : Own P w K mg base k "_ring_places" ["mothers", "children", "labelled"] (sp_ring_places))
    (O_bad_labels : Own P w K mg base k "_bad_labels" ["mothers", "children", "labelled"] (sp_bad_labels))
    (O_too_many_mixings : Own P w K mg base k "_too_many_mixings" ["mothers", "children", "labelled"] (sp_too_many_mixings))
    (O_back_arrows : Own P w K mg base k "_back_arrows" ["net", "times"] (sp_back_arrows K))
    (O_bad_gifts : Own P w K mg base k "_bad_gifts" ["net", "times"] (sp_bad_gifts K))
    (O_late_places : Own P w K mg base k "_late_places" ["net", "times"] (sp_late_places K)) : FnR P w K mg base CX0 (k + 1) f (starSp 1 (sp_first_fault K)) := by
  refine okStar (ps := ["finders"]) (pv := "given") F sc_first_fault (fun kV doc pm an cdv ct => StX.bind_star1 (B := fun us => bindArgs (PySem.W.fnOf "first_fault" "first_fault" (defArgs s_first_fault) (defBody s_first_fault) (defScope s_first_fault) .none kV doc pm an cdv ct) ⟨us, []⟩) (fun _ => rfl) (fun _ _ _ => rfl)) (fun cdv A outer s0 H vs Q E hr h => ?_)
  · obtain ⟨S0, H0, D, G, ks, as, gs, ls, rfl, hF, sm0, nD, eD, eG, q1, q2⟩ := h
    refine ⟨_, (pss_cons (ps_lock (ps_for PassesOwn.never rfl (pi_keys (pv 0)) (pg_name (i := 2) sc_first_fault.nd rfl (Or.inl rfl))
        (pss_cons (ps_set (i := 3) sc_first_fault.nd rfl (Or.inl rfl) (pe_dget (u1 hr) (pv 0) (pv 2) (fun _ _ => rfl)))
        (pss_cons (ps_set (i := 4) sc_first_fault.nd rfl (Or.inl rfl) (pe_callHS (i := 3) hr (by rfl) (.inl rfl) (pv 1)))
        (pss_one (ps_if (pt_tru K rfl (pv 4) (fun _ => rfl))
          (pss_one (ps_ret (pe_tup (pa_cons (pv 2) (pa_cons (pe_ix ix_list (pv 4) pe_int (fun _ _ => rfl)) pa_nil)))))
          pss_nil))))))
      (pss_one (ps_ret pe_non))), ?_⟩
    have sz : 1000 < sizeLine := by decide
    have hFin : ks.Nodup ∧ ks.length = as.length ∧ ks.length ≤ 100 ∧ ls.length = ks.length ∧ ∀ (i : Nat) (kk : Str), ks[i]? = some kk → ∀ H4 : Hp, Same H0 H4 → (∀ j, j < i → ∀ z, ls[j]? = some z → z.2 = []) → ∃ fa sp l, as[i]? = some fa ∧ Held P w K mg base k fa sp ∧ ls[i]? = some (kk, l) ∧
        ∀ Q' : VK, (∀ H'' D vs, Same H4 H'' → H4 D = none → H'' D = some (.lst vs) → DaAll S0 H'' vs l → Q' (.ref D) H'') → sp gs H4 Q' (fun _ _ _ => False) := by
      rcases hF with ⟨S, x, y, ds, es, rfl, rfl, rfl, hx, hy, hl1, hl2, hz, rfl⟩ | ⟨M, C, lb, Pl, Lb, am, ac, Bs, ring, rfl, rfl, rfl, hM, hC, aM, aC, elb, h64, hdn, hring, rfl⟩ | ⟨o, DT, Bs, Ls, Ms, Pl, root, f, rfl, rfl, rfl, hN, hal, eDT, h64, h46, hends, rfl⟩
      · refine ⟨by decide, rfl, by decide, rfl, fun i kk hk H4 sm hp => ?_⟩
        have hp' : ∀ j, j < i → ∀ z, (lfinds ds es)[j]? = some z → z.2 = [] := fun j hj z hz => by
          have := hp j hj (z.1, z.2.map fun n : Nat => PyData.int (n : Int)) (by rw [List.getElem?_map, hz]; rfl)
          simpa using this
        have hx1 := hx.same sm
        have hy1 := hy.same sm
        have tyL : 2 < i → (lsOf es).map ld = es := fun h => lsOf_eq fun d hd => by
          have := atB_nil (hp' 2 h _ rfl) d hd
          simpa using this
        have tyA : 1 < i → (asOf ds).map pd = ds := fun h => asOf_eq fun d hd => by
          have := atB_nil (hp' 1 h _ rfl) d hd
          simpa using this
        have ll : (lsOf es).length = es.length := List.length_map ..
        have la : (asOf ds).length = ds.length := List.length_map ..
        have conv : ∀ (l : List Nat) (Q' : VK), (∀ H'' D vs, Same H4 H'' → H4 D = none → H'' D = some (.lst vs) → DaAll S0 H'' vs (l.map fun n : Nat => PyData.int (n : Int)) → Q' (.ref D) H'') → (∀ H'' D, Same H4 H'' → H4 D = none → H'' D = some (ixs l) → Q' (.ref D) H'') := fun l Q' q H'' D s n e => q H'' D _ s n e (by
          have := ints_daAll (S := S0) (H := H'') (L := l.map fun n : Nat => (n : Int))
          rw [List.map_map, List.map_map] at this
          exact this)
        obtain ⟨_, _, _, d0, m0, d1, m1, d2, m2, d3, m3, d4, m4, d5, m5, d6, m6⟩ := T.LIST_FAULTS
        rcases i with _ | _ | _ | _ | _ | _ | _ | i
        · cases hk
          exact ⟨_, _, _, rfl, O_long_lists.held m0, rfl, fun Q' q => ⟨S, x, y, ds, es, rfl, hx1, hy1, conv _ _ q⟩⟩
        · cases hk
          exact ⟨_, _, _, rfl, O_bad_arrows.held m1, rfl, fun Q' q => ⟨S, x, y, ds, rfl, hx1, hl1, conv _ _ q⟩⟩
        · cases hk
          exact ⟨_, _, _, rfl, O_bad_leaves.held m2, rfl, fun Q' q => ⟨S, x, y, es, rfl, hy1, hl2, conv _ _ q⟩⟩
        · cases hk
          exact ⟨_, _, _, rfl, O_bad_names.held m3, rfl, fun Q' q => ⟨S, x, y, lsOf es, rfl, by rw [tyL (by omega)]; exact hy1, by omega, hz, conv _ _ q⟩⟩
        · cases hk
          exact ⟨_, _, _, rfl, O_leaves_again.held m4, rfl, fun Q' q => ⟨S, x, y, lsOf es, rfl, by rw [tyL (by omega)]; exact hy1, by omega, conv _ _ q⟩⟩
        · cases hk
          exact ⟨_, _, _, rfl, O_arrows_again.held m5, rfl, fun Q' q => ⟨S, y, x, asOf ds, rfl, by rw [tyA (by omega)]; exact hx1, by omega, conv _ _ q⟩⟩
        · cases hk
          exact ⟨_, _, _, rfl, O_no_leaves.held m6, rfl, fun Q' q => ⟨S, x, y, es, rfl, hy1, conv _ _ q⟩⟩
        · cases hk
      · refine ⟨by decide, rfl, by decide, rfl, fun i kk hk H4 sm hp => ?_⟩
        have hM4 := hM.same sm
        have hC4 := hC.same sm
        have aM4 := sm _ _ aM
        have aC4 := sm _ _ aC
        have e4 := sm _ _ elb
        have conv2 : ∀ (l : List Int) (Q' : VK), (∀ H'' D vs, Same H4 H'' → H4 D = none → H'' D = some (.lst vs) → DaAll S0 H'' vs (l.map PyData.int) → Q' (.ref D) H'') → (∀ H'' D, Same H4 H'' → H4 D = none → H'' D = some (.lst (l.map V.int)) → Q' (.ref D) H'') := fun l Q' q H'' D s n e => q H'' D _ s n e ints_daAll
        obtain ⟨_, _, _, d0, m0, d1, m1, d2, m2, d3, m3, d4, m4⟩ := T.PLACE_FAULTS
        rcases i with _ | _ | _ | _ | _ | i
        · cases hk
          exact ⟨_, _, _, rfl, O_bad_degrees.held m0, rfl, fun Q' q => have q := conv2 _ _ q; ⟨M, C, .ref lb, Pl, am, ac, upsOf Bs, downsOf Bs, rfl, hM4, hC4, aM4, h64, q⟩⟩
        · cases hk
          exact ⟨_, _, _, rfl, O_bad_roots.held m1, rfl, fun Q' q => have q := conv2 _ _ q; ⟨.ref C, .ref lb, M, Pl, am, upsOf Bs, rfl, hM4, aM4, h64, q⟩⟩
        · cases hk
          exact ⟨_, _, _, rfl, O_ring_places.held m2, rfl, fun Q' q => have q := conv2 _ _ q; ⟨.ref M, .non, C, .ref lb, Pl, ac, downsOf Bs, ring, rfl, hC4, aC4, h64, hdn, hring, q⟩⟩
        · cases hk
          exact ⟨_, _, _, rfl, O_bad_labels.held m3, rfl, fun Q' q => have q := conv2 _ _ q; ⟨.ref M, C, lb, Pl, ac, downsOf Bs, Lb, rfl, hC4, aC4, h64, e4, q⟩⟩
        · cases hk
          refine ⟨_, _, _, rfl, O_too_many_mixings.held m4, rfl, fun Q' q => have q := conv2 _ _ q; ⟨.ref C, .ref lb, M, Pl, am, upsOf Bs, rfl, hM4, aM4, h64, fun H' R s n e => q H' R s n ?_⟩⟩
          rw [e]
          split <;> rfl
        · cases hk
      · refine ⟨by decide, rfl, by decide, rfl, fun i kk hk H4 sm hp => ?_⟩
        have hN4 := hN.go (S' := S0) (H' := H4) fun b u hb e => ⟨hb, sm _ _ e⟩
        have hal4 := hal.same sm
        have eDT4 := sm _ _ eDT
        obtain ⟨_, _, _, d0, m0, d1, m1, d2, m2⟩ := T.MOMENT_FAULTS
        have conv3 : ∀ (l : List Int) (Q' : VK), (∀ H'' D vs, Same H4 H'' → H4 D = none → H'' D = some (.lst vs) → DaAll S0 H'' vs (l.map PyData.int) → Q' (.ref D) H'') → (∀ H'' D, Same H4 H'' → H4 D = none → H'' D = some (.lst (l.map V.int)) → Q' (.ref D) H'') := fun l Q' q H'' D s n e => q H'' D _ s n e ints_daAll
        rcases i with _ | _ | _ | i
        · cases hk
          exact ⟨_, _, _, rfl, O_back_arrows.held m0, rfl, fun Q' q => ⟨S0, o, DT, Bs, Ls, Ms, Pl, root, f, rfl, hN4, hal4, eDT4, h64, h46, hends, q⟩⟩
        · cases hk
          exact ⟨_, _, _, rfl, O_bad_gifts.held m1, rfl, fun Q' q => ⟨S0, o, DT, Bs, Ls, Ms, Pl, root, f, rfl, hN4, hal4, eDT4, h64, h46, hends, conv3 _ _ q⟩⟩
        · cases hk
          exact ⟨_, _, _, rfl, O_late_places.held m2, rfl, fun Q' q => ⟨S0, o, DT, Bs, Ls, Ms, Pl, root, f, rfl, hN4, hal4, eDT4, h64, h46, hends, conv3 _ _ q⟩⟩
        · cases hk
    obtain ⟨nd, hl, h100, hls, hcall⟩ := hFin
    have hzl : (ks.zip as).length = ks.length := by rw [List.length_zip]; omega
    refine ⟨D, _, eD, trivial, fun od => ?_⟩
    have nGD : G ≠ D := fun e => by rw [e, eD] at eG; cases eG
    refine ⟨_, rfl, D, od, rfl, .inl ⟨_, upd_same, ?_⟩⟩
    have smL : ∀ {H' : Hp}, Same (upd H D (.frz od (tabO ks as))) H' → Same H0 H' := fun s b o e => s _ _ (by rw [upd_ne (fun z => by rw [z, nD] at e; cases e)]; exact sm0 _ _ e)
    refine for_it (walk_keys (d := D) (o := od) (kvs := (ks.zip as).map fun ka => ((.inr ka.1 : Key), V.ref ka.2))) (fun i σ H' => (∃ u v z, σ = [some (.ref D), some (.ref G), u, v, z]) ∧ Same (upd H D (.frz od (tabO ks as))) H' ∧ ∀ j, j < i → ∀ z, ls[j]? = some z → z.2 = []) ⟨⟨_, _, _, rfl⟩, Same.refl _, fun j hj => by omega⟩ (fun _ _ _ _ h => h.2.1 _ _ upd_same) ?_ ?_
    · rintro i xk σ H1 H2 hi ⟨⟨u, v, z, rfl⟩, sm, hp⟩ ⟨rfl, kk, vv, hk, rfl⟩
      rw [List.getElem?_map] at hk
      obtain ⟨⟨k1, a1⟩, hz1, hz2⟩ := Option.map_eq_some_iff.mp hk
      cases hz2
      obtain ⟨hk1, ha1⟩ := List.getElem?_zip_eq_some.mp hz1
      obtain ⟨fa, sp, l, hfa, hheld, hlf, hc⟩ := hcall i k1 hk1 H2 (smL sm) hp
      cases ha1.symm.trans hfa
      have eD2 := sm _ _ upd_same
      have eG2 := sm _ _ (show upd H D (.frz od (tabO ks as)) G = _ by rw [upd_ne nGD]; exact eG)
      refine ⟨_, rfl, _, rfl, D, _, rfl, .inl ⟨_, .inr k1, .inr ⟨od, eD2⟩, rfl, (valV_tab nd hk1 ha1).symm⟩, a1, sp, rfl, hheld, _, rfl, G, gs, rfl, .inl (.of eG2), hc _ fun H3 F vs3 s3 n3 e3 hv3 => ?_⟩
      have sm3 : Same (upd H D (.frz od (tabO ks as))) H3 := fun b o e => s3 _ _ (sm _ _ e)
      refine ⟨_, rfl, _, .inl ⟨_, .of e3, rfl⟩, ?_⟩
      cases l with
      | nil =>
        cases hv3
        refine ite2 (fun e => absurd e (by decide)) fun _ => ?_
        refine ⟨⟨_, _, _, rfl⟩, sm3, fun j hj z hz => ?_⟩
        rcases Nat.lt_or_eq_of_le (Nat.le_of_lt_succ hj) with h | rfl
        · exact hp j h z hz
        · rw [hlf] at hz
          cases hz
          rfl
      | cons a r =>
        obtain ⟨v0, vr, rfl, hv0⟩ : ∃ v0 vr, vs3 = v0 :: vr ∧ Da S0 H3 v0 a := by
          cases hv3 with
          | cons h _ => exact ⟨_, _, rfl, h⟩
        refine ite2 (fun _ => ?_) fun e => absurd rfl e
        refine ⟨_, rfl, _, rfl, F, _, ((0 : Nat) : Int), v0, rfl, rfl, .of e3, atI_nat (j := 0) rfl, (by show 2 ≤ sizeLine; decide), fun R nR => ?_⟩
        have eD3 := sm3 _ _ upd_same
        have nRD : R ≠ D := fun z => by rw [z, eD3] at nR; cases nR
        refine ⟨by rw [upd_ne nRD.symm]; exact eD3, ?_⟩
        have s4 : Same H0 (upd H3 R (.tup [.str k1, v0])) := same_snoc (smL sm3) nR
        refine q2 k1 a (firstF_some hlf hp) _ R v0 (fun b o e => by rw [upd_ne (fun z => by rw [z, nD] at e; cases e)]; exact s4 _ _ e) ((smL sm3).free nR) (by rw [upd_ne nRD]; exact upd_same) ?_
        exact (hv0.off eD3).go fun b u hb e => ⟨fun z => hb (.inl z), by
          rw [upd_ne (fun z => hb (.inr z))]
          exact same_snoc (Same.refl _) nR _ _ e⟩
    · rintro σ H1 ⟨_, sm, hp⟩
      refine ⟨sm _ _ upd_same, q1 (firstF_none fun j hj z hz => hp j (by rw [List.length_map, hzl]; omega) z hz) _ fun b o e => ?_⟩
      rw [upd_ne (fun z => by rw [z, nD] at e; cases e)]
      exact smL sm _ _ e


set_option maxHeartbeats 4000000 in
theorem ok_net_fault  (F : Fun K "net_fault" "net_fault" s_net_fault f fd) (T : Txt w K mg)
    (O_first_fault : OwnR P w K mg base k "first_fault" (starSp 1 (sp_first_fault K)))
    (O_relatives : Own P w K mg base k "relatives" ["arrows", "leaves"] (sp_relatives)) : FnOk P w K mg base CX0 (k + 1) f fd ["arrows", "leaves"] (sp_net_fault K) := by
  refine F.ok sc_net_fault (fun vs H Q E h => ?_) (fun cdv A outer s0 H vs Q E hr h => ?_)
  · obtain ⟨S, x, y, As, Bs, Ls, Pl, ring, rfl, hx, hy, hl, hP, h64, hB, hring, hz, hlf, q1, q2⟩ := h
    rfl
  · obtain ⟨S, x, y, As, Bs, Ls, Pl, ring, rfl, hx, hy, hl, hP, h64, hB, hring, hz, hlf, q1, q2⟩ := h
    refine ⟨_, (pss_cons (ps_set (i := 2) sc_net_fault.nd rfl (Or.inl rfl) (pe_ownR O_first_fault hr (by rfl) (pa_cons (pe_callTy cr_dictW (by rfl) T.dict (by decide +kernel) (pa_cons (pe_glob (by rfl) T.LIST_FAULTS.1 (v := .ref (He.ga K "LIST_FAULTS")) rfl) pa_nil)) (pa_cons (pv 0) (pa_cons (pv 1) pa_nil)))))
      (pss_cons (ps_if (pt_cmpR op_notN (pv 2) pe_non (nomark _))
        (pss_one (ps_ret (pv 2)))
        pss_nil)
      (pss_cons (ps_asg (pe_own O_relatives hr (by rfl) (pa_cons (pv 0) (pa_cons (pv 1) pa_nil))) (pg_pairK K rfl rfl (pg_name (i := 3) sc_net_fault.nd rfl (Or.inl rfl)) (pg_name (i := 4) sc_net_fault.nd rfl (Or.inl rfl)) (by rfl) (by rfl) (by rfl) (by rfl)))
      (pss_one (ps_ret (pe_ownR O_first_fault hr (by rfl) (pa_cons (pe_callTy cr_dictW (by rfl) T.dict (by decide +kernel) (pa_cons (pe_glob (by rfl) T.PLACE_FAULTS.1 (v := .ref (He.ga K "PLACE_FAULTS")) rfl) pa_nil)) (pa_cons (pv 3) (pa_cons (pv 4) (pa_cons (pe_lc (own := [("leaf", 5)]) (by rfl) sc_net_fault.nd (pi_list (pv 1)) (blkOk_by (own := [("leaf", 5)]) (N := ["arrows", "leaves", "fault", "mothers", "children", "leaf"]) (sc := defScope s_net_fault) (by decide +kernel)) (fun _ _ _ _ _ => pg_name (i := 5) sc_net_fault.nd rfl (Or.inl rfl)) (fun _ _ _ _ _ => pts_nil) (fun _ _ _ _ _ => (pe_ix (ix_tupK K rfl) (pv 5) pe_int (fun _ _ => rfl)))) pa_nil)))))))))), ?_⟩
    obtain ⟨_, kt1, kv1, _⟩ := T.LIST_FAULTS
    obtain ⟨_, kt2, kv2, _⟩ := T.PLACE_FAULTS
    have sz : 1000 < sizeLine := by decide
    refine ⟨_, _, _, rfl, kt1, kv1, rfl, by decide, fun D nD => ?_⟩
    refine ⟨_, rfl, _, rfl, [.ref D], [x, y], rfl, rfl, (by show 2 ≤ sizeLine; decide), fun G nG => ?_⟩
    have nDG : D ≠ G := fun e => by rw [← e, upd_same] at nG; cases nG
    refine ⟨(fun _ => False), H, D, G, _, _, [x, y], _, rfl, .inl ⟨S, x, y, _, _, rfl, rfl, rfl, hx, hy, by rw [List.length_map]; omega, by rw [List.length_map]; omega, ?_, rfl⟩, same_snoc (same_snoc (Same.refl H) nD) nG, nD, by rw [upd_ne nDG]; exact upd_same, upd_same, fun _ H1 s1 => ?_, fun wd i e => by rw [ff_int hlf] at e; cases e⟩
    · intro p hp
      obtain ⟨d, hd, rfl⟩ := List.mem_map.mp hp
      obtain ⟨b, hb, rfl⟩ := List.mem_map.mp hd
      exact hz b hb
    refine ⟨_, rfl, rfl, _, rfl, ?_⟩
    obtain ⟨b, ys, rfl, nS2, eb, hBs⟩ := hy.list
    have hn : ys.length = Ls.length := by rw [hBs.length, List.length_map]
    refine ⟨_, rfl, _, rfl, S, x, .ref b, As, Bs, Ls, Pl, rfl, hx.same s1, hy.same s1, hl, hP, h64, hB, fun H2 D2 M C am ac s2 n2 e2 hM hC dis => ?_⟩
    have s12 : Same H H2 := fun b o e => s2 _ _ (s1 _ _ e)
    refine ⟨D2, _, rfl, .of e2, rfl, _, _, rfl, _, _, rfl, rfl, ?_⟩
    dsimp only
    have hdn : ∀ p ∈ Pl, (downsOf Bs p).length ≤ 1000 ∧ ∀ q ∈ downsOf Bs p, q ∈ Pl := fun p _ => ⟨Nat.le_trans (downsOf_len _ _) (by rw [hB.1.length_eq]; omega), fun q hq => downsOf_mem hB hP hq⟩
    refine ⟨_, _, _, rfl, kt2, kv2, rfl, by decide, fun D3 nD3 => ?_⟩
    refine ⟨_, rfl, _, rfl, ?_⟩
    generalize eH3 : upd H2 D3 _ = H3
    have s3 : Same H2 H3 := by rw [← eH3]; exact same_snoc (Same.refl H2) nD3
    have eD3 := congrFun eH3 D3
    rw [upd_same] at eD3
    have eD3 := eD3.symm
    have s13 : Same H H3 := fun b o e => s3 _ _ (s12 _ _ e)
    refine lc_listM (K := K) rfl (s13 _ _ eb) ((Ls.map (·.1)).map V.int) (by rw [List.length_map, List.length_map, hn]) (by omega) ?_ ?_
    · rintro i x H2 N A z hz sm hx hA5
      obtain ⟨p, t, ed, rfl, nt, et⟩ := hBs.ldS (fun b o e => sm _ _ (s13 _ _ e)) hx
      rw [List.map_map, List.getElem?_map, ed] at hz
      cases hz
      exact ⟨rfl, _, rfl, t, _, 0, _, rfl, rfl, .of et, rfl, hA5 _ (Same.refl _)⟩
    intro lb H4 nlb s4 e4
    have s24 : Same H2 H4 := fun b o e => s4 _ _ (s3 _ _ e)
    have s14 : Same H H4 := fun b o e => s24 _ _ (s12 _ _ e)
    have hM4 := hM.r.same s24
    have hC4 := hC.r.same s24
    have aM := s24 _ _ hM.at_
    have aC := s24 _ _ hC.at_
    have nD32 := nD3
    refine ⟨[.ref D3], [.ref M, .ref C, .ref lb], rfl, rfl, (by show 3 ≤ sizeLine; decide), fun G nG => ?_⟩
    have eD4 := s4 _ _ eD3
    have nGD : D3 ≠ G := fun e => by rw [← e, eD4] at nG; cases nG
    let H0 : Hp := fun b => if b = D3 then none else H4 b
    have g0 : ∀ b, b ≠ D3 → H0 b = H4 b := fun b hb => if_neg hb
    have s20 : Same H2 H0 := fun b o e => by rw [g0 _ (fun z => by rw [z, nD3] at e; cases e)]; exact s24 _ _ e
    have s04 : Same H0 H4 := fun b o e => by
      by_cases z : b = D3
      · rw [show H0 b = none from if_pos z] at e; cases e
      · rw [g0 _ z] at e; exact e
    have s0 : Same H H0 := fun b o e => s20 _ _ (s12 _ _ e)
    have nlD : lb ≠ D3 := fun z => by rw [z, eD3] at nlb; cases nlb
    refine ⟨(fun _ => False), H0, D3, G, _, _, [.ref M, .ref C, .ref lb], _, rfl, .inr (.inl ⟨M, C, lb, Pl, Ls.map (·.1), am, ac, Bs, ring, rfl, rfl, rfl, hM.r.same s20, hC.r.same s20, s20 _ _ hM.at_, s20 _ _ hC.at_, by rw [g0 _ nlD]; exact e4, h64, hdn, hring, rfl⟩), same_snoc s04 nG, if_pos rfl, by rw [upd_ne nGD]; exact eD4, upd_same, fun e H' s' => q1 (ff_none e) H' fun b o eb => s' _ _ (s0 _ _ eb), fun wd d e H' R v s' n' e' hv => (by
        obtain ⟨i, ei, rfl⟩ := ff_ints e
        cases hv
        exact q2 wd i ei H' R (fun b o eb => s' _ _ (s0 _ _ eb)) (s0.free n') e')⟩


set_option maxHeartbeats 4000000 in
theorem ok_has_form  (F : Fun K "_has_form" "_has_form" s_has_form f fd) (T : Txt w K mg)
    (O_is_whole_pair : Own P w K mg base k "is_whole_pair" ["value"] (sp_is_whole_pair))
    (O_Net_places : OwnM P w K mg base k (He.ga K "Net") "places" ["self"] (sp_Net_places K)) : FnOk P w K mg base CX0 (k + 1) f fd ["net", "paper"] (sp_has_form K) := by
  refine F.ok sc_has_form (fun vs H Q E h => ?_) (fun cdv A outer s0 H vs Q E hr h => ?_)
  · obtain ⟨S, o, x, d, Bs, Ls, Ms, Pl, root, rfl, hN, hS, hx, hD, h64, q⟩ := h
    rfl
  · obtain ⟨S, o, x, d, Bs, Ls, Ms, Pl, root, rfl, hN, hS, hx, hD, h64, q⟩ := h
    refine ⟨_, (pss_cons (ps_if (PW.pt (pw_or (pt_not (pt_val (pe_callB call_isD (by rfl) T.isinstance (by decide +kernel) (pa_cons (pv 1) (pa_cons (pe_bltn (v := .ty "list") (by rfl) T.list (by decide +kernel) rfl) pa_nil))))) (pw_or1 (pt_not (pt_val (pe_callB (cr_all rfl) (by rfl) T.all (by decide +kernel) (pa_cons (pe_lc (own := [("pair", 4)]) (by rfl) sc_has_form.nd (pi_list (pv 1)) (blkOk_by (own := [("pair", 4)]) (N := ["net", "paper", "place", "moment", "pair"]) (sc := defScope s_has_form) (by decide +kernel)) (fun _ _ _ _ _ => pg_name (i := 4) sc_has_form.nd rfl (Or.inl rfl)) (fun _ _ _ _ _ => pts_nil) (fun _ _ _ _ _ => (pe_own O_is_whole_pair hr (by rfl) (pa_cons (pv 4) pa_nil)))) pa_nil)))))))
        (pss_one (ps_ret pe_bl))
        pss_nil)
      (pss_one (ps_ret (pe_cmpR (op_eqD hr.units) (pe_lc (own := [("place", 2), ("moment", 3)]) (by rfl) sc_has_form.nd (pi_list (pv 1)) (blkOk_by (own := [("place", 2), ("moment", 3)]) (N := ["net", "paper", "place", "moment", "pair"]) (sc := defScope s_has_form) (by decide +kernel)) (fun _ _ _ _ _ => (pg_pairK K rfl rfl (pg_name (i := 2) sc_has_form.nd rfl (Or.inl rfl)) (pg_name (i := 3) sc_has_form.nd rfl (Or.inl rfl)) (by rfl) (by rfl) (by rfl) (by rfl))) (fun _ _ _ _ _ => pts_nil) (fun _ _ _ _ _ => (pv 2))) (pe_ownM0 O_Net_places hr T.Net_cls (pv 0)) (nomark _))))), ?_⟩
    have sz : 100000 < sizeLine := by decide
    refine ⟨_, rfl, x, "list", S, d, rfl, rfl, hx, _, rfl, ?_⟩
    cases hl : isD "list" d with
    | false =>
      have e : hfB Pl d = false := by cases d <;> first | rfl | (exact absurd hl (by simp only [isD, tyN]; decide))
      rw [e] at q
      exact ite2 (fun _ => ite2 (fun _ => q _ (Same.refl _)) fun e => absurd rfl e) fun e => absurd rfl e
    | true =>
    refine ite2 (fun e => absurd e (by decide)) fun _ => ?_
    obtain ⟨ds, rfl⟩ := isD_list hl
    obtain ⟨a, xs, rfl, nSa, ea, hA⟩ := hx.list
    have lx : xs.length = ds.length := hA.length
    have lds : ds.length ≤ 5000 := by
      cases hD with
      | lst h _ => exact h
    refine notB_h (cb_h ?_)
    refine lc_listG (K := K) (fun R h => ⟨_, rfl, h⟩) ea ((ds.map timedD).map V.bl) (by rw [List.length_map, List.length_map, lx]) (by omega) ?_ ?_
    · rintro i x H2 N' B z hz sm hx hB
      obtain ⟨d, hd, hdx⟩ := (hA.same sm).get hx
      rw [List.getElem?_map, List.getElem?_map, hd] at hz
      cases hz
      exact ⟨rfl, _, rfl, S, x, _, rfl, hdx, hB _ (Same.refl _)⟩
    intro D1 H1 nD1 s1 e1
    refine ⟨D1, _, rfl, .of e1, _, rfl, ?_⟩
    have eall : (ds.map timedD).all id = ds.all timedD := by
      rw [List.all_map]
      rfl
    rw [eall]
    cases ht : ds.all timedD with
    | false =>
      have e : hfB Pl (.list ds) = false := by
        show (ds.all timedD && _) = false
        rw [ht]
        rfl
      rw [e] at q
      exact ite2 (fun _ => q _ s1) fun e => absurd rfl e
    | true =>
    refine ite2 (fun e => absurd e (by decide)) fun _ => ?_
    obtain ⟨As, rfl⟩ := timed_all ht
    refine next_h ?_
    dsimp only
    refine ret_h (op_h ?_)
    have hA1 := hA.same s1
    rw [List.length_map] at lx lds
    refine lc_listG (K := K) (fun R h => ⟨_, rfl, h⟩) (s1 _ _ ea) ((As.map (·.1)).map V.int) (by rw [List.length_map, List.length_map, lx]) (by omega) ?_ ?_
    · rintro i x H2 N' B z hz sm hx hB
      obtain ⟨p, t, ed, rfl, nt, et⟩ := hA1.pdS sm hx
      rw [List.getElem?_map, List.getElem?_map, ed] at hz
      cases hz
      refine ⟨t, _, rfl, .of et, rfl, _, _, rfl, _, _, rfl, rfl, ?_⟩
      exact ⟨rfl, _, rfl, hB _ (Same.refl _)⟩
    intro D2 H2 nD2 s2 e2
    have s12 : Same H H2 := s1.trans s2
    have hN2 := hN.go (S' := S) (H' := H2) fun b u hb e => ⟨hb, s12 b u e⟩
    obtain ⟨dx, A, L, M, C, NA, PA, NM, am, ac, ys, zs, ns', eo, _⟩ := hN2.ex
    refine ⟨_, rfl, o, dx, _, rfl, eo, rfl, S, o, Bs, Ls, Ms, Pl, root, rfl, hN2, fun H3 R3 s3 nR3 eR3 => ?_⟩
    have d2 : Da S H3 (.ref D2) (.list ((As.map (·.1)).map PyData.int)) := .lst ((hS.same s1).free nD2) (s3 _ _ e2) ints_daAll
    have d3 : Da S H3 (.ref R3) (.list (Pl.map PyData.int)) := .lst ((hS.same s12).free nR3) eR3 ints_daAll
    refine ⟨_, _, d2.dp, d3.dp, shaped_ints _, shaped_ints _, ?_⟩
    rw [eqv_ints]
    have e : hfB Pl (.list (As.map pd)) = decide (As.map (·.1) = Pl) := by
      show ((As.map pd).all timedD && decide ((asOf (As.map pd)).map (·.1) = Pl)) = _
      rw [ht, asOf_pd, Bool.true_and]
    rw [e] at q
    exact q _ (s12.trans s3)


set_option maxHeartbeats 4000000 in
theorem ok_back_arrows  (F : Fun K "_back_arrows" "_back_arrows" s_back_arrows f fd) (T : Txt w K mg)
    (O_Net_mixings : OwnM P w K mg base k (He.ga K "Net") "mixings" ["self"] (sp_Net_mixings K))
    (O_Net_arrows : OwnM P w K mg base k (He.ga K "Net") "arrows" ["self"] (sp_Net_arrows K)) : FnOk P w K mg base CX0 (k + 1) f fd ["net", "times"] (sp_back_arrows K) := by
  refine F.ok sc_back_arrows (fun vs H Q E h => ?_) (fun cdv A outer s0 H vs Q E hr h => ?_)
  · obtain ⟨S, o, D, Bs, Ls, Ms, Pl, root, f, rfl, hN, al, eD, h64, h46, hends, q⟩ := h
    rfl
  · obtain ⟨S, o, D, Bs, Ls, Ms, Pl, root, f, rfl, hN, al, eD, h64, h46, hends, q⟩ := h
    refine ⟨_, (pss_cons (ps_set (i := 2) sc_back_arrows.nd rfl (Or.inr rfl) (pe_ownM0 O_Net_mixings hr T.Net_cls (pv 0)))
      (pss_one (ps_ret (pe_lc (own := [("u", 3), ("v", 4)]) (by rfl) sc_back_arrows.nd (pi_list (pe_ownM0 O_Net_arrows hr T.Net_cls (pv 0))) (blkOk_by (own := [("u", 3), ("v", 4)]) (N := ["net", "times", "mixings", "u", "v"]) (sc := defScope s_back_arrows) (by decide +kernel)) (fun _ _ _ _ _ => (pg_pairK K rfl rfl (pg_name (i := 3) sc_back_arrows.nd rfl (Or.inl rfl)) (pg_name (i := 4) sc_back_arrows.nd rfl (Or.inl rfl)) (by rfl) (by rfl) (by rfl) (by rfl))) (fun _ _ _ _ _ => (pts_one (PW.pt (pw_or (pt_cmpR op_gt (pe_dget (u1 hr) (pv 1) (pv 3) (fun _ _ => rfl)) (pe_dget (u1 hr) (pv 1) (pv 4) (fun _ _ => rfl)) (nomark _)) (pw_or1 (PW.pt (pw_and (pt_cmpR op_eq (pe_dget (u1 hr) (pv 1) (pv 3) (fun _ _ => rfl)) (pe_dget (u1 hr) (pv 1) (pv 4) (fun _ _ => rfl)) (nomark _)) (pw_and1 (pt_cmpR (op_notIn_seqK K rfl) (pv 4) (pv 2) rfl))))))))) (fun _ _ _ _ _ => (pe_tup (pa_cons (pv 3) (pa_cons (pv 4) pa_nil)))))))), ?_⟩
    have sz : 1000 < sizeLine := by decide
    obtain ⟨dx, A1, L1, M, C, NA, PA, NM, am, ac, ys0, zs0, ns0, eo, _⟩ := hN.ex
    refine seq_asg ?_
    refine ⟨_, rfl, o, dx, _, rfl, eo, rfl, S, o, Bs, Ls, Ms, Pl, root, rfl, hN, h64, fun H1 R1 s1 nR1 eR1 => ?_⟩
    have hN1 := hN.go (S' := S) (H' := H1) fun b u hb e => ⟨hb, s1 _ _ e⟩
    refine ret_h (lc_td ?_)
    refine ⟨_, rfl, o, dx, _, rfl, s1 _ _ eo, rfl, S, o, Bs, Ls, Ms, Pl, root, rfl, hN1, fun H2 R2 ys2 s2 nR2 eR2 hR2 => ?_⟩
    have s12 : Same H H2 := s1.trans s2
    have l2 : ys2.length = Bs.length := by rw [hR2.length, List.length_map]
    refine lc_listDF (K := K) (S := S) (fun R h => h) eR2 (al.same s12) Bs l2.symm (backB Bs f) pd (by omega) ?_ ?_
    · rintro i x H3 N A b hb sm al3 hx hN' hA
      obtain ⟨p, t, ep, rfl, nt, et⟩ := hR2.pdS sm hx
      rw [hb] at ep
      cases ep
      have hbm := List.mem_of_getElem? hb
      have eD3 := sm _ _ (s12 _ _ eD)
      have g1 := DGet.of_dIs eD3 (hends b hbm).1
      have g2 := DGet.of_dIs eD3 (hends b hbm).2
      have eR13 := sm _ _ (s2 _ _ eR1)
      refine ⟨t, _, rfl, .of et, rfl, _, _, rfl, _, _, rfl, rfl, ?_⟩
      refine ⟨rfl, _, rfl, _, rfl, D, _, rfl, g1, _, rfl, _, rfl, D, _, rfl, g2, _, _, rfl, rfl, _, rfl, ?_⟩
      by_cases h1 : f b.2 < f b.1
      · have hb1 : backB Bs f b = true := by unfold backB; rw [decide_eq_true h1]; rfl
        rw [decide_eq_true h1]
        refine ite2 (fun _ => ?_) fun e => absurd rfl e
        exact ite2 (fun _ => ⟨_, rfl, _, rfl, (by show 2 ≤ sizeLine; decide), fun t2 n2 => hA _ _ hb1 (same_snoc (Same.refl _) n2) (da_pd2 (S := S) (p := b) al3 (Same.refl _) n2).1 fun D2 h1 h2 => (da_pd2 (S := S) (p := b) al3 (Same.refl _) n2).2 D2 h1⟩) fun e => absurd rfl e
      rw [decide_eq_false h1]
      refine ite2 (fun e => absurd e (by decide)) fun _ => ?_
      refine ⟨_, rfl, _, rfl, D, _, rfl, g1, _, rfl, _, rfl, D, _, rfl, g2, rfl, _, rfl, ?_⟩
      by_cases h2 : f b.1 = f b.2
      · rw [decide_eq_true (congrArg V.int h2)]
        refine ite2 (fun _ => ?_) fun e => absurd rfl e
        refine ⟨_, rfl, _, rfl, R1, _, rfl, .inl (.of eR13), rfl, flat_ints, _, rfl, ?_⟩
        have e2 : (!inV (V.int b.2) ((Pl.filter fun p => (upsOf Bs p).length == 2).map V.int)) = !((upsOf Bs b.2).length == 2) := by
          rw [inV_ints]
          congr 1
          rw [Bool.eq_iff_iff, decide_eq_true_iff, List.mem_filter]
          exact ⟨fun h => h.2, fun h => ⟨(hends b hbm).2, h⟩⟩
        have e3 : backB Bs f b = !((upsOf Bs b.2).length == 2) := by unfold backB; rw [decide_eq_false h1, decide_eq_true h2, Bool.false_or, Bool.true_and]
        show if (!inV (V.int b.2) ((Pl.filter fun p => (upsOf Bs p).length == 2).map V.int)) = true then _ else _
        rw [e2]
        cases hc : (!((upsOf Bs b.2).length == 2)) with
        | true =>
          have hb1 := e3.trans hc
          exact ite2 (fun _ => ⟨_, rfl, _, rfl, (by show 2 ≤ sizeLine; decide), fun t2 n2 => hA _ _ hb1 (same_snoc (Same.refl _) n2) (da_pd2 (S := S) (p := b) al3 (Same.refl _) n2).1 fun D2 h1 h2 => (da_pd2 (S := S) (p := b) al3 (Same.refl _) n2).2 D2 h1⟩) fun e => absurd rfl e
        | false => exact ite2 (fun e => absurd e (by decide)) fun _ => hN' _ (Same.refl _) (e3.trans hc)
      · rw [decide_eq_false (fun e => h2 (V.int.inj e))]
        refine ite2 (fun e => absurd e (by decide)) fun _ => ?_
        exact ite2 (fun e => absurd e (by decide)) fun _ => hN' _ (Same.refl _) (by unfold backB; rw [decide_eq_false h1, decide_eq_false h2]; rfl)
    intro R ys H' n s nS e h
    exact q H' R ys (s12.trans s) (s12.free n) e h


set_option maxHeartbeats 4000000 in
theorem ok_bad_gifts  (F : Fun K "_bad_gifts" "_bad_gifts" s_bad_gifts f fd) (T : Txt w K mg)
    (O_Net_mixings : OwnM P w K mg base k (He.ga K "Net") "mixings" ["self"] (sp_Net_mixings K))
    (O_Net_mothers : OwnM P w K mg base k (He.ga K "Net") "mothers" ["self", "place"] (sp_Net_mothers K)) : FnOk P w K mg base CX0 (k + 1) f fd ["net", "times"] (sp_bad_gifts K) := by
  refine F.ok sc_bad_gifts (fun vs H Q E h => ?_) (fun cdv A outer s0 H vs Q E hr h => ?_)
  · obtain ⟨S, o, D, Bs, Ls, Ms, Pl, root, f, rfl, hN, al, eD, h64, h46, hends, q⟩ := h
    rfl
  · obtain ⟨S, o, D, Bs, Ls, Ms, Pl, root, f, rfl, hN, al, eD, h64, h46, hends, q⟩ := h
    refine ⟨_, (pss_cons (ps_set (i := 2) sc_bad_gifts.nd rfl (Or.inl rfl) (pe_lst pa_nil))
      (pss_cons (ps_for PassesOwn.never rfl (pi_list (pe_ownM0 O_Net_mixings hr T.Net_cls (pv 0))) (pg_name (i := 3) sc_bad_gifts.nd rfl (Or.inl rfl))
        (pss_cons (ps_setLc (i := 4) (own := [("mother", 5)]) (by rfl) sc_bad_gifts.nd rfl rfl (sw_true rfl rfl rfl (by decide +kernel)) (pi_list (pe_ownM O_Net_mothers hr T.Net_cls (pv 0) (pa_cons (pv 3) pa_nil))) (blkOk_by (own := [("mother", 5)]) (N := ["net", "times", "found", "mixing", "above", "mother"]) (sc := defScope s_bad_gifts) (by decide +kernel)) (fun _ _ _ _ _ => pg_name (i := 5) sc_bad_gifts.nd rfl (Or.inl rfl)) (fun _ _ _ _ _ => pts_nil) (fun _ _ _ _ _ => (pe_dget (u1 hr) (pv 1) (pv 5) (fun _ _ => rfl))))
        (pss_one (ps_if (pt_cmpR op_ne (pe_bm PySem.F.plainAttrs_list PySem.F.slot_list_count PySem.F.type_list_count mt_countI (pv 4) (pa_cons (pe_dget (u1 hr) (pv 1) (pv 3) (fun _ _ => rfl)) pa_nil)) pe_int (nomark _))
          (pss_one (ps_expr (pe_bm PySem.F.plainAttrs_list PySem.F.slot_list_append PySem.F.type_list_append mt_append (pv 2) (pa_cons (pv 3) pa_nil))))
          pss_nil))))
      (pss_one (ps_ret (pv 2))))), ?_⟩
    have sz : 1000 < sizeLine := by decide
    obtain ⟨dx, A1, L1, M, C, NA, PA, NM, am, ac, ys0, zs0, ns0, eo, _⟩ := hN.ex
    refine seq_asg ?_
    refine ⟨(by show 0 ≤ sizeLine; decide), fun F nF => ?_⟩
    have s0 : Same H (upd H F (.lst [])) := same_snoc (Same.refl _) nF
    have hN0 := hN.go (S' := S) (H' := upd H F (.lst [])) fun b u hb e => ⟨hb, s0 _ _ e⟩
    refine ⟨_, rfl, o, dx, _, rfl, s0 _ _ eo, rfl, S, o, Bs, Ls, Ms, Pl, root, rfl, hN0, h64, fun H1 R1 s1 nR1 eR1 => ⟨R1, rfl, ⟨_, .of eR1⟩, ?_⟩⟩
    have eF1 := s1 _ _ (show upd H F (.lst []) F = some (.lst []) from upd_same)
    have s01 : Same H H1 := s0.trans s1
    have nFR : R1 ≠ F := fun z => by rw [z, upd_same] at nR1; cases nR1
    have fF : ¬ S F := al.free nF
    clear hN0
    have lmx : (Pl.filter fun p => (upsOf Bs p).length == 2).length ≤ Pl.length := List.length_filter_le _ _
    refine for_it (walk_list (K := K) (a := R1) (xs := (Pl.filter fun p => (upsOf Bs p).length == 2).map V.int)) (fun i σ H' => Same H H' ∧ H' R1 = H1 R1 ∧ H' F = some (.lst ((((Pl.filter fun p => (upsOf Bs p).length == 2).take i).filter fun p => !((((upsOf Bs p).map f).count (f p)) == 1)).map V.int)) ∧ ∃ v3 v4 : Option V, σ = [some (.ref o), some (.ref D), some (.ref F), v3, v4, none]) ⟨s01, rfl, eF1, _, _, rfl⟩ (fun i σ H' _ h => .of (by rw [h.2.1]; exact eR1)) ?_ ?_
    · rintro i x σ H2 H2' hi ⟨s2, e2, eF2, v3, v4, rfl⟩ ⟨rfl, hx⟩
      obtain ⟨p, hp, rfl⟩ := int_at hx
      have hpP := (List.mem_filter.mp (List.mem_of_getElem? hp)).1
      have hN2 := hN.go (S' := S) (H' := H2') fun b u hb e => ⟨hb, s2 _ _ e⟩
      refine seq_asg (lc_td ?_)
      refine ⟨_, rfl, o, dx, _, rfl, s2 _ _ eo, rfl, _, rfl, S, o, Bs, Ls, Ms, Pl, root, p, rfl, hN2, hpP, fun H3 R3 s3 nR3 eR3 => ?_⟩
      have lu := Nat.le_trans (upsOf_len Bs p) h46
      have uP : ∀ c ∈ upsOf Bs p, c ∈ Pl := fun c hc => (hends (c, p) (mem_ups.mp hc)).1
      refine lc_listG (K := K) (fun R h => h) eR3 ((upsOf Bs p).map fun c => V.int (f c)) (by rw [List.length_map, List.length_map]) (by rw [List.length_map]; omega) ?_ ?_
      · rintro i x H4 N' B z hz sm hx hB
        obtain ⟨c, hc, rfl⟩ := int_at hx
        rw [List.getElem?_map, hc] at hz
        cases hz
        exact ⟨rfl, _, rfl, _, rfl, D, _, rfl, DGet.of_dIs (sm _ _ (s3 _ _ (s2 _ _ eD))) (uP c (List.mem_of_getElem? hc)), hB _ (Same.refl _)⟩
      intro D2 H4 nD2 s4 e4
      have s24 : Same H2' H4 := s3.trans s4
      have eF4 := s24 _ _ eF2
      refine ⟨_, rfl, .inl ⟨rfl, _, .of e4⟩, _, rfl, _, rfl, D, _, rfl, DGet.of_dIs (s24 _ _ (s2 _ _ eD)) hpP, D2, (upsOf Bs p).map f, f p, rfl, rfl, .of (by rw [e4, List.map_map]; rfl), rfl, _, rfl, ?_⟩
      have e5 : (!decide (V.int ((((upsOf Bs p).map f).count (f p) : Nat) : Int) = V.int 1)) = !((((upsOf Bs p).map f).count (f p)) == 1) := by
        congr 1
        rw [Bool.eq_iff_iff, decide_eq_true_iff, beq_iff_eq]
        exact ⟨fun h => (by have := V.int.inj h; omega), fun h => (by rw [h]; rfl)⟩
      have eR4 : H4 R1 = H1 R1 := by rw [s24 _ _ (e2.trans eR1), eR1]
      show if (!decide (V.int ((((upsOf Bs p).map f).count (f p) : Nat) : Int) = V.int 1)) = true then _ else _
      rw [e5]
      cases hc : (!((((upsOf Bs p).map f).count (f p)) == 1)) with
      | true =>
        refine ite2 (fun _ => ?_) fun e => absurd rfl e
        refine ⟨_, rfl, .inl ⟨rfl, _, .of eF4⟩, _, rfl, F, _, .int p, rfl, rfl, eF4, ?_, ?_⟩
        · rw [List.length_map]
          refine Nat.lt_of_le_of_lt (List.length_filter_le _ _) ?_
          rw [List.length_take]
          omega
        refine ⟨fun b u e => ?_, by rw [upd_ne nFR]; exact eR4, ?_, _, _, rfl⟩
        · have hb : b ≠ F := fun z => by rw [z, nF] at e; cases e
          rw [upd_ne hb]
          exact s24 _ _ (s2 _ _ e)
        · rw [upd_same, ← take_snoc hp, List.filter_append, List.filter_cons_of_pos (p := (fun q : Int => !((((upsOf Bs q).map f).count (f q)) == 1))) (a := p) (l := []) hc, List.filter_nil, List.map_append]
          rfl
      | false =>
        refine ite2 (fun e => absurd e (by decide)) fun _ => ?_
        refine ⟨s2.trans s24, eR4, ?_, _, _, rfl⟩
        rw [← take_snoc hp, List.filter_append, List.filter_cons_of_neg (p := (fun q : Int => !((((upsOf Bs q).map f).count (f q)) == 1))) (a := p) (l := []) (by rw [hc]; decide), List.filter_nil, List.append_nil]
        exact eF4
    rintro σ H2 ⟨s2, e2, eF2, v3, v4, rfl⟩
    rw [List.length_map, List.take_length, List.filter_filter] at eF2
    refine ⟨_, rfl, q H2 F s2 nF ?_⟩
    rw [eF2]
    congr 3
    refine List.filter_congr fun p _ => ?_
    unfold giftB
    exact Bool.and_comm _ _


set_option maxHeartbeats 4000000 in
theorem ok_late_places  (F : Fun K "_late_places" "_late_places" s_late_places f fd) (T : Txt w K mg)
    (O_Net_inner : OwnM P w K mg base k (He.ga K "Net") "inner" ["self"] (sp_Net_inner K))
    (O_Net_children : OwnM P w K mg base k (He.ga K "Net") "children" ["self", "place"] (sp_Net_children K)) : FnOk P w K mg base CX0 (k + 1) f fd ["net", "times"] (sp_late_places K) := by
  refine F.ok sc_late_places (fun vs H Q E h => ?_) (fun cdv A outer s0 H vs Q E hr h => ?_)
  · obtain ⟨S, o, D, Bs, Ls, Ms, Pl, root, f, rfl, hN, al, eD, h64, h46, hends, q⟩ := h
    rfl
  · obtain ⟨S, o, D, Bs, Ls, Ms, Pl, root, f, rfl, hN, al, eD, h64, h46, hends, q⟩ := h
    refine ⟨_, (pss_one (ps_ret (pe_lc (own := [("place", 2)]) (by rfl) sc_late_places.nd (pi_list (pe_ownM0 O_Net_inner hr T.Net_cls (pv 0))) (blkOk_by (own := [("place", 2)]) (N := ["net", "times", "place", "child"]) (sc := defScope s_late_places) (by decide +kernel)) (fun _ _ _ _ _ => pg_name (i := 2) sc_late_places.nd rfl (Or.inl rfl)) (fun _ _ _ _ _ => (pts_one (pt_cmpR op_le (pe_callB (cr_maxK K rfl rfl) (by rfl) T.max (by decide +kernel) (pa_cons (pe_lc (own := [("child", 3)]) (by rfl) sc_late_places.nd (pi_listK K rfl (pe_ownM O_Net_children hr T.Net_cls (pv 0) (pa_cons (pv 2) pa_nil))) (blkOk_by (own := [("child", 3)]) (N := ["net", "times", "place", "child"]) (by rfl)) (fun _ _ _ _ _ => pg_name (i := 3) sc_late_places.nd rfl (Or.inl rfl)) (fun _ _ _ _ _ => pts_nil) (fun _ _ _ _ _ => (pe_dget (u1 hr) (pv 1) (pv 3) (fun _ _ => rfl)))) pa_nil)) (pe_dget (u1 hr) (pv 1) (pv 2) (fun _ _ => rfl)) (nomark _)))) (fun _ _ _ _ _ => (pv 2))))), ?_⟩
    have sz : 1000 < sizeLine := by decide
    obtain ⟨dx, A1, L1, M, C, NA, PA, NM, am, ac, ys0, zs0, ns0, eo, _⟩ := hN.ex
    refine ret_h (lc_td ?_)
    refine ⟨_, rfl, o, dx, _, rfl, eo, rfl, S, o, Bs, Ls, Ms, Pl, root, rfl, hN, h64, fun H1 R1 s1 nR1 eR1 => ?_⟩
    have hN1 := hN.go (S' := S) (H' := H1) fun b u hb e => ⟨hb, s1 _ _ e⟩
    have lin : (Pl.filter fun p => !(downsOf Bs p).isEmpty).length ≤ Pl.length := List.length_filter_le _ _
    refine lc_listF (K := K) (fun R h => h) eR1 (fun p => (downsOf Bs p).all fun c => decide (f c ≤ f p)) (by omega) (fun _ => rfl) (fun _ => rfl) ?_ ?_
    · intro p hp H2 k s2 hk
      have hpP := (List.mem_filter.mp hp).1
      have s12 : Same H H2 := s1.trans s2
      have hN2 := hN.go (S' := S) (H' := H2) fun b u hb e => ⟨hb, s12 _ _ e⟩
      have hne := (List.mem_filter.mp hp).2
      refine test_h (op_h (cb_h (lc_td ?_)))
      refine ⟨_, rfl, o, dx, _, rfl, s12 _ _ eo, rfl, _, rfl, S, o, Bs, Ls, Ms, Pl, root, p, rfl, hN2, hpP, fun H3 R3 s3 nR3 eR3 => ?_⟩
      have ld := Nat.le_trans (downsOf_len Bs p) h46
      have dP : ∀ c ∈ downsOf Bs p, c ∈ Pl := fun c hc => (hends (p, c) (mem_downs.mp hc)).2
      refine lc_listG (K := K) (fun R h => h) eR3 ((downsOf Bs p).map fun c => V.int (f c)) (by rw [List.length_map, List.length_map]) (by rw [List.length_map]; omega) ?_ ?_
      · rintro i x H4 N' B z hz sm hx hB
        obtain ⟨c, hc, rfl⟩ := int_at hx
        rw [List.getElem?_map, hc] at hz
        cases hz
        exact ⟨rfl, _, rfl, _, rfl, D, _, rfl, DGet.of_dIs (sm _ _ (s3 _ _ (s12 _ _ eD))) (dP c (List.mem_of_getElem? hc)), hB _ (Same.refl _)⟩
      intro D2 H4 nD2 s4 e4
      refine ⟨D2, (downsOf Bs p).map f, rfl, .of (by rw [e4, List.map_map]; rfl), ?_, fun m hm hmax => ?_⟩
      · rw [List.length_map]
        cases h : downsOf Bs p with
        | nil => rw [h] at hne; cases hne
        | cons a r => exact Nat.succ_pos _
      refine ⟨_, rfl, _, rfl, D, _, rfl, DGet.of_dIs (s4 _ _ (s3 _ _ (s12 _ _ eD))) hpP, _, _, rfl, rfl, _, rfl, ?_⟩
      have e : decide (m ≤ f p) = (downsOf Bs p).all fun c => decide (f c ≤ f p) := by
        rw [Bool.eq_iff_iff, decide_eq_true_iff, List.all_eq_true]
        constructor
        · intro h c hc
          exact decide_eq_true (Int.le_trans (hmax _ (List.mem_map_of_mem hc)) h)
        · intro h
          obtain ⟨c, hc, rfl⟩ := List.mem_map.mp hm
          exact of_decide_eq_true (h c hc)
      rw [e]
      exact hk _ (s3.trans s4)
    intro R H' nR s e
    rw [List.filter_filter] at e
    refine q H' R (s1.trans s) (s1.free nR) ?_
    rw [e]
    congr 3
    refine List.filter_congr fun p _ => ?_
    unfold lateB
    exact Bool.and_comm _ _


set_option maxHeartbeats 4000000 in
theorem ok_moment_fault  (F : Fun K "moment_fault" "moment_fault" s_moment_fault f fd) (T : Txt w K mg)
    (O_has_form : Own P w K mg base k "_has_form" ["net", "paper"] (sp_has_form K))
    (O_first_fault : OwnR P w K mg base k "first_fault" (starSp 1 (sp_first_fault K))) : FnOk P w K mg base CX0 (k + 1) f fd ["net", "paper"] (sp_moment_fault K) := by
  refine F.ok sc_moment_fault (fun vs H Q E h => ?_) (fun cdv A outer s0 H vs Q E hr h => ?_)
  · obtain ⟨S, o, x, d, r, Bs, Ls, Ms, Pl, root, rfl, hN, hS, hx, hD, hc, h64, hP, h46, hends, q⟩ := h
    rfl
  · obtain ⟨S, o, x, d, r, Bs, Ls, Ms, Pl, root, rfl, hN, hS, hx, hD, hc, h64, hP, h46, hends, q⟩ := h
    refine ⟨_, (pss_cons (ps_if (pt_not (pt_val (pe_own O_has_form hr (by rfl) (pa_cons (pv 0) (pa_cons (pv 1) pa_nil)))))
        (pss_one (ps_ret (pe_tup (pa_cons pe_str (pa_cons pe_non pa_nil)))))
        pss_nil)
      (pss_one (ps_ret (pe_ownR O_first_fault hr (by rfl) (pa_cons (pe_callTy cr_dictW (by rfl) T.dict (by decide +kernel) (pa_cons (pe_glob (by rfl) T.MOMENT_FAULTS.1 (v := .ref (He.ga K "MOMENT_FAULTS")) rfl) pa_nil)) (pa_cons (pv 0) (pa_cons (pe_dc (own := [("place", 2), ("moment", 3)]) (by rfl) sc_moment_fault.nd (pi_list (pv 1)) (blkOk_by (own := [("place", 2), ("moment", 3)]) (N := ["net", "paper", "place", "moment"]) (sc := defScope s_moment_fault) (by decide +kernel)) (fun _ _ _ _ _ => (pg_pairK K rfl rfl (pg_name (i := 2) sc_moment_fault.nd rfl (Or.inl rfl)) (pg_name (i := 3) sc_moment_fault.nd rfl (Or.inl rfl)) (by rfl) (by rfl) (by rfl) (by rfl))) (fun _ _ _ _ _ => pts_nil) (fun _ _ _ _ _ => (pv 2)) (fun _ _ _ _ _ => (pv 3))) pa_nil))))))), ?_⟩
    have sz : 1000 < sizeLine := by decide
    obtain ⟨mt, kt, kv, d0, m0, d1, m1, d2, m2⟩ := T.MOMENT_FAULTS
    rcases hc with ⟨hf, rfl⟩ | ⟨f, rfl, rfl⟩
    · refine ⟨_, rfl, _, rfl, S, o, x, d, Bs, Ls, Ms, Pl, root, rfl, hN, hS, hx, hD, h64, fun H1 s1 => ⟨_, rfl, ?_⟩⟩
      rw [hf]
      exact ite2 (fun _ => ⟨(by show 2 ≤ sizeLine; decide), fun T nT => q _ _ (same_snoc s1 nT) (.tup ((hS.same s1).free nT) upd_same (.cons (.str _) (.one .non)))⟩) fun e => absurd rfl e
    refine ⟨_, rfl, _, rfl, S, o, x, _, Bs, Ls, Ms, Pl, root, rfl, hN, hS, hx, hD, h64, fun H1 s1 => ⟨_, rfl, ?_⟩⟩
    rw [hf_pap]
    refine ite2 (fun e => absurd e (by decide)) fun _ => ?_
    refine next_h ?_
    dsimp only
    refine ret_h ?_
    dsimp only
    obtain ⟨a, xs, rfl, nSa, ea, hA⟩ := hx.list
    refine ⟨_, _, _, rfl, kt, kv, rfl, by decide, fun D3 nD3 => ?_⟩
    refine ⟨_, rfl, ?_⟩
    generalize eH3 : upd H1 D3 _ = H3
    have s3 : Same H1 H3 := by rw [← eH3]; exact same_snoc (Same.refl H1) nD3
    have eD3 := congrFun eH3 D3
    rw [upd_same] at eD3
    have eD3 := eD3.symm
    have s13 : Same H H3 := s1.trans s3
    have hnd : ((papD Pl f).map (·.1)).Nodup := by rw [papD_fst]; exact hP.imp Int.ne_of_lt
    refine dc_pairs (K := K) rfl (s13 _ _ ea) (hA.same s13) hnd (by rw [List.length_map]; omega) (fun _ _ => rfl) (fun p H1 B h => ⟨_, rfl, _, rfl, h⟩) ?_
    intro DT H4 nDT s4 eDT
    rw [dIs_pairs (g := f) (fun p hp => ((papD_mem hp).2).symm), papD_fst] at eDT
    have eD4 := s4 _ _ eD3
    refine ⟨[.ref D3], [.ref o, .ref DT], rfl, rfl, (by show 2 ≤ sizeLine; decide), fun G nG => ?_⟩
    have nGD : D3 ≠ G := fun e => by rw [← e, eD4] at nG; cases nG
    have nTD : DT ≠ D3 := fun e => by rw [e, eD3] at nDT; cases nDT
    let H0 : Hp := fun b => if b = D3 then none else H4 b
    have g0 : ∀ b, b ≠ D3 → H0 b = H4 b := fun b hb => if_neg hb
    have s14 : Same H H4 := s13.trans s4
    have s0 : Same H H0 := fun b o e => by rw [g0 _ (fun z => by have := s1 _ _ e; rw [z, nD3] at this; cases this)]; exact s14 _ _ e
    have s04 : Same H0 H4 := fun b o e => by
      by_cases z : b = D3
      · rw [show H0 b = none from if_pos z] at e; cases e
      · rw [g0 _ z] at e; exact e
    have al0 := hS.same s0
    refine ⟨S, H0, D3, G, _, _, [.ref o, .ref DT], _, rfl, .inr (.inr ⟨o, DT, Bs, Ls, Ms, Pl, root, f, rfl, rfl, rfl, hN.go fun b u hb e => ⟨hb, s0 _ _ e⟩, al0, by rw [g0 _ nTD]; exact eDT, h64, h46, hends, rfl⟩), same_snoc s04 nG, if_pos rfl, by rw [upd_ne nGD]; exact eD4, upd_same, fun e H' s' => ?_, fun wd d e H' R v s' n' e' hv => ?_⟩
    · exact q H' .non (fun b o eb => s' _ _ (s0 _ _ eb)) (by unfold mfD; rw [e]; exact .non)
    · exact q H' (.ref R) (fun b o eb => s' _ _ (s0 _ _ eb)) (by unfold mfD; rw [e]; exact .tup (al0.free n') e' (.cons (.str _) (.one hv)))


set_option maxHeartbeats 4000000 in
theorem ok_is_moments  (F : Fun K "is_moments" "is_moments" s_is_moments f fd) (T : Txt w K mg)
    (O_moment_fault : Own P w K mg base k "moment_fault" ["net", "paper"] (sp_moment_fault K)) : FnOk P w K mg base CX0 (k + 1) f fd ["net", "paper"] (sp_is_moments K) := by
  refine F.ok sc_is_moments (fun vs H Q E h => ?_) (fun cdv A outer s0 H vs Q E hr h => ?_)
  · obtain ⟨S, o, x, d, r, Bs, Ls, Ms, Pl, root, rfl, hN, hS, hx, hD, hc, h64, hP, h46, hends, q⟩ := h
    rfl
  · obtain ⟨S, o, x, d, r, Bs, Ls, Ms, Pl, root, rfl, hN, hS, hx, hD, hc, h64, hP, h46, hends, q⟩ := h
    refine ⟨_, (pss_one (ps_ret (pe_cmpR op_isN (pe_own O_moment_fault hr (by rfl) (pa_cons (pv 0) (pa_cons (pv 1) pa_nil))) pe_non (nomark _)))), ?_⟩
    refine ⟨_, rfl, _, rfl, S, o, x, d, r, Bs, Ls, Ms, Pl, root, rfl, hN, hS, hx, hD, hc, h64, hP, h46, hends, fun H1 v s1 hv => ?_⟩
    refine ⟨rfl, q _ _ s1 ?_⟩
    rw [decide_eq_true_iff]
    cases hv <;> simp


set_option maxHeartbeats 4000000 in
theorem ok_Net___init  (F : Fun K "__init__" "Net.__init__" s_Net___init f fd) (T : Txt w K mg)
    (O_net_fault : Own P w K mg base k "net_fault" ["arrows", "leaves"] (sp_net_fault K))
    (O_relatives : Own P w K mg base k "relatives" ["arrows", "leaves"] (sp_relatives)) : FnOk P w K mg base CX0 (k + 1) f fd ["self", "arrows", "leaves"] (sp_Net___init K) := by
  refine F.ok sc_Net___init (fun vs H Q E h => ?_) (fun cdv A outer s0 H vs Q E hr h => ?_)
  · obtain ⟨S, o, dx, x, y, As, Bs, Ls, Pl, ring, root, rfl, eo, nSo, hS, ⟨a, xs, rfl, ea, hA⟩, ⟨b, ys, rfl, eb, hL⟩, hl, hl64, hP, h64, hB, hring, hz, hlf, hpf, nd1, nd2, hroot, q⟩ := h
    rfl
  · obtain ⟨S, o, dx, x, y, As, Bs, Ls, Pl, ring, root, rfl, eo, nSo, hS, ⟨a, xs, rfl, ea, hA⟩, ⟨b, ys, rfl, eb, hL⟩, hl, hl64, hP, h64, hB, hring, hz, hlf, hpf, nd1, nd2, hroot, q⟩ := h
    refine ⟨_, (pss_cons (ps_set (i := 3) sc_Net___init.nd rfl (Or.inl rfl) (pe_own O_net_fault hr (by rfl) (pa_cons (pv 1) (pa_cons (pv 2) pa_nil))))
      (pss_cons (ps_if (pt_cmpR op_notN (pv 3) pe_non (nomark _))
        (pss_cons (ps_asg (pv 3) (pg_pairK K rfl rfl (pg_name (i := 4) sc_Net___init.nd rfl (Or.inl rfl)) (pg_name (i := 5) sc_Net___init.nd rfl (Or.inl rfl)) (by rfl) (by rfl) (by rfl) (by rfl)))
        (pss_one ps_never))
        pss_nil)
      (pss_cons (ps_asg (pe_own O_relatives hr (by rfl) (pa_cons (pv 1) (pa_cons (pv 2) pa_nil))) (pg_pairK K rfl rfl (pg_name (i := 6) sc_Net___init.nd rfl (Or.inr rfl)) (pg_name (i := 7) sc_Net___init.nd rfl (Or.inl rfl)) (by rfl) (by rfl) (by rfl) (by rfl)))
      (pss_cons (ps_fld (pv 0) (pe_callB cr_sortedPO (by rfl) T.sorted (by decide +kernel) (pa_cons (pv 1) pa_nil)) rfl)
      (pss_cons (ps_fld (pv 0) (pe_callB cr_sortedPS (by rfl) T.sorted (by decide +kernel) (pa_cons (pv 2) pa_nil)) rfl)
      (pss_cons (ps_fld (pv 0) (pv 6) rfl)
      (pss_cons (ps_fld (pv 0) (pv 7) rfl)
      (pss_cons (ps_fld (pv 0) (pe_dc (own := [("place", 8), ("name", 9)]) (by rfl) sc_Net___init.nd (pi_list (pv 2)) (blkOk_by (own := [("place", 8), ("name", 9)]) (N := ["self", "arrows", "leaves", "fault", "word", "at", "mothers", "children", "place", "name"]) (sc := defScope s_Net___init) (by decide +kernel)) (fun _ _ _ _ _ => (pg_pairK K rfl rfl (pg_name (i := 8) sc_Net___init.nd rfl (Or.inl rfl)) (pg_name (i := 9) sc_Net___init.nd rfl (Or.inl rfl)) (by rfl) (by rfl) (by rfl) (by rfl))) (fun _ _ _ _ _ => pts_nil) (fun _ _ _ _ _ => (pv 8)) (fun _ _ _ _ _ => (pv 9))) rfl)
      (pss_cons (ps_fld (pv 0) (pe_dc (own := [("place", 8), ("name", 9)]) (by rfl) sc_Net___init.nd (pi_list (pv 2)) (blkOk_by (own := [("place", 8), ("name", 9)]) (N := ["self", "arrows", "leaves", "fault", "word", "at", "mothers", "children", "place", "name"]) (sc := defScope s_Net___init) (by decide +kernel)) (fun _ _ _ _ _ => (pg_pairK K rfl rfl (pg_name (i := 8) sc_Net___init.nd rfl (Or.inl rfl)) (pg_name (i := 9) sc_Net___init.nd rfl (Or.inl rfl)) (by rfl) (by rfl) (by rfl) (by rfl))) (fun _ _ _ _ _ => pts_nil) (fun _ _ _ _ _ => (pv 9)) (fun _ _ _ _ _ => (pv 8))) rfl)
      (pss_cons (ps_fld (pv 0) (pe_callB (call_sortedD rfl) (by rfl) T.sorted (by decide +kernel) (pa_cons (pe_fld (pv 0) (by rfl)) pa_nil)) rfl)
      (pss_one (ps_fld (pv 0) (pe_ix ix_list (pe_lock (pe_lc (own := [("place", 8)]) (by rfl) sc_Net___init.nd (pi_keys (pv 6)) (blkOk_by (own := [("place", 8)]) (N := ["self", "arrows", "leaves", "fault", "word", "at", "mothers", "children", "place", "name"]) (sc := defScope s_Net___init) (by decide +kernel)) (fun _ _ _ _ _ => pg_name (i := 8) sc_Net___init.nd rfl (Or.inl rfl)) (fun _ _ _ _ _ => (pts_one (pt_not (pt_tru K rfl (pe_dget (u1 hr) (pv 6) (pv 8) (fun _ _ => rfl)) (fun _ => rfl))))) (fun _ _ _ _ _ => (pv 8)))) pe_int (fun _ _ => rfl)) rfl)))))))))))), ?_⟩
    have hx : Da (fun _ => False) H (.ref a) (.list (As.map pd)) := .lst id ea (hA.go fun b o _ e => ⟨id, e⟩)
    have hy : Da (fun _ => False) H (.ref b) (.list (Ls.map ld)) := .lst id eb (hL.go fun b o _ e => ⟨id, e⟩)
    have sz : 1000 < sizeLine := by decide
    have no : ∀ f ∈ (["_arrows", "_leaves", "_mothers", "_children", "_name_at", "_place_at", "_names", "_root"] : List Str), NoAttr K (He.ga K "Net") f := T.Net_no
    have oa : o ≠ a := fun e => by rw [e, ea] at eo; cases eo
    have ob : o ≠ b := fun e => by rw [e, eb] at eo; cases eo
    refine ⟨_, rfl, _, rfl, (fun _ => False), .ref a, .ref b, As, Bs, Ls, Pl, ring, rfl, hx, hy, hl, hP, h64, hB, hring, hz, hlf, fun _ H1 s1 => ?_, fun wd i e => by rw [hpf] at e; cases e⟩
    refine ⟨_, rfl, rfl, _, rfl, ?_⟩
    refine ⟨_, rfl, _, rfl, (fun _ => False), .ref a, .ref b, As, Bs, Ls, Pl, rfl, hx.same s1, hy.same s1, hl, hP, h64, hB, fun H2 D M C am ac s2 n2 e2 hM hC dis => ?_⟩
    have s12 : Same H H2 := fun b o e => s2 _ _ (s1 _ _ e)
    refine ⟨D, _, rfl, .of e2, rfl, _, _, rfl, _, _, rfl, rfl, ?_⟩
    have hM := hM.base s1
    have hC := hC.base s1
    have hA2 := hA.same s12
    have hL2 := hL.same s12
    dsimp only
    refine seq_fld ?_
    refine ⟨_, rfl, a, xs, pairAt H2, rfl, .of (s12 _ _ ea), fun x hx => ?_, fun As1 A hs1 hs2 nA => ?_⟩
    · obtain ⟨i, hi⟩ := List.mem_iff_getElem?.mp hx
      obtain ⟨p, t, _, rfl, _, et⟩ := hA2.pd hi
      rw [pairAt_eq et]
      exact ⟨t, rfl, et⟩
    have hA3 := sorted_pdA hA2 hB hs1 hs2
    have b2 : But o H H2 := fun b u _ e => s12 _ _ e
    have eo2 := s12 _ _ eo
    refine ⟨_, rfl, o, _, dx, [], rfl, (by rw [upd_ne (fun e => by rw [← e, eo2] at nA; cases nA)]; exact eo2), T.Net_cls, no _ (by simp), by decide, ?_⟩
    have fA : ¬ S A := fun h => by
      obtain ⟨u, hu⟩ := hS _ h
      rw [s12 _ _ hu] at nA
      cases nA
    show tSeq _ _ _ _ (upd (upd H2 A (.lst As1)) o (.ins (He.ga K "Net") dx [("_arrows", .ref A)]))
    obtain ⟨b3, k3, eo3, eA3, nAo⟩ := stage [("_arrows", .ref A)] (.lst As1) b2 eo2 nA
    generalize upd (upd H2 A (.lst As1)) o (.ins (He.ga K "Net") dx [("_arrows", .ref A)]) = H3 at b3 k3 eo3 eA3
    have hA4 := hA3.kp k3
    have hL3 := hL2.kp k3
    have eM3 := k3.dK hM.at_
    have eC3 := k3.dK hC.at_
    have rM3 := hM.r.kp hM.at_ k3
    have rC3 := hC.r.kp hC.at_ k3
    have eb3 := k3.lst (s12 _ _ eb)
    refine seq_fld ?_
    refine ⟨_, rfl, b, ys, isAt H3, rfl, .of eb3, fun x hx => ?_, fun Ls1 L hs1 hs2 nL => ?_⟩
    · obtain ⟨i, hi⟩ := List.mem_iff_getElem?.mp hx
      obtain ⟨p, t, _, rfl, _, et⟩ := hL3.ld hi
      rw [isAt_eq et]
      exact ⟨t, rfl, et⟩
    obtain ⟨Ms, hMs, hL4⟩ := sorted_ldA hL3 hs1 hs2
    have fL := b3.fresh hS (fun e => by rw [e, eo3] at nL; cases nL) nL
    refine ⟨_, rfl, o, _, dx, _, rfl, (by rw [upd_ne (fun e => by rw [← e, eo3] at nL; cases nL)]; exact eo3), T.Net_cls, no _ (by simp), by simp, ?_⟩
    show tSeq _ _ _ _ (upd (upd H3 L (.lst Ls1)) o (.ins (He.ga K "Net") dx [("_arrows", .ref A), ("_leaves", .ref L)]))
    obtain ⟨b4, k4, eo4, eL4, nLo⟩ := stage [("_arrows", .ref A), ("_leaves", .ref L)] (.lst Ls1) b3 eo3 nL
    generalize upd (upd H3 L (.lst Ls1)) o (.ins (He.ga K "Net") dx [("_arrows", .ref A), ("_leaves", .ref L)]) = H4 at b4 k4 eo4 eL4
    refine seq_fld ⟨_, rfl, _, rfl, o, _, dx, _, rfl, eo4, T.Net_cls, no _ (by simp), by simp, ?_⟩
    show tSeq _ _ _ _ (upd H4 o (.ins (He.ga K "Net") dx [("_arrows", .ref A), ("_leaves", .ref L), ("_mothers", .ref M)]))
    obtain ⟨b5, k5, eo5⟩ := stage0 [("_arrows", .ref A), ("_leaves", .ref L), ("_mothers", .ref M)] b4 eo4
    generalize upd H4 o (.ins (He.ga K "Net") dx [("_arrows", .ref A), ("_leaves", .ref L), ("_mothers", .ref M)]) = H5 at b5 k5 eo5
    refine seq_fld ⟨_, rfl, _, rfl, o, _, dx, _, rfl, eo5, T.Net_cls, no _ (by simp), by simp, ?_⟩
    show tSeq _ _ _ _ (upd H5 o (.ins (He.ga K "Net") dx [("_arrows", .ref A), ("_leaves", .ref L), ("_mothers", .ref M), ("_children", .ref C)]))
    obtain ⟨b6, k6, eo6⟩ := stage0 [("_arrows", .ref A), ("_leaves", .ref L), ("_mothers", .ref M), ("_children", .ref C)] b5 eo5
    generalize upd H5 o (.ins (He.ga K "Net") dx [("_arrows", .ref A), ("_leaves", .ref L), ("_mothers", .ref M), ("_children", .ref C)]) = H6 at b6 k6 eo6
    have k36 : Kp H3 H6 := (k4.trans k5).trans k6
    have k46 : Kp H4 H6 := k5.trans k6
    have eb6 := k36.lst eb3
    have hL6 := hL3.kp k36
    have hNA : (Ls.map fun p => ((.inl p.1 : Key))).Nodup := List.pairwise_map.mpr ((List.pairwise_map.mp nd1).imp fun h e => h (Sum.inl.inj e))
    have hPA : (Ls.map fun p => ((.inr p.2 : Key))).Nodup := List.pairwise_map.mpr ((List.pairwise_map.mp nd2).imp fun h e => h (Sum.inr.inj e))
    refine seq_fld ?_
    refine dc_leaves (K := K) rfl eb6 hL6 (fun p => ((.inl p.1 : Key), V.str p.2)) hNA (by omega) (fun _ _ => rfl) (fun p H1 B hB => ⟨_, rfl, _, rfl, hB⟩) ?_
    intro NA H7 nNA s7 eNA7
    have nNAo : NA ≠ o := fun e => by rw [e, eo6] at nNA; cases nNA
    have fNA := b6.fresh hS nNAo nNA
    have b7 := b6.same s7
    have eo7 := s7 _ _ eo6
    refine ⟨_, rfl, o, _, dx, _, rfl, eo7, T.Net_cls, no _ (by simp), by simp, ?_⟩
    show tSeq _ _ _ _ (upd H7 o (.ins (He.ga K "Net") dx [("_arrows", .ref A), ("_leaves", .ref L), ("_mothers", .ref M), ("_children", .ref C), ("_name_at", .ref NA)]))
    obtain ⟨b8, k8, eo8⟩ := stage0 [("_arrows", .ref A), ("_leaves", .ref L), ("_mothers", .ref M), ("_children", .ref C), ("_name_at", .ref NA)] b7 eo7
    generalize upd H7 o (.ins (He.ga K "Net") dx [("_arrows", .ref A), ("_leaves", .ref L), ("_mothers", .ref M), ("_children", .ref C), ("_name_at", .ref NA)]) = H8 at b8 k8 eo8
    have k68 : Kp H6 H8 := (Same.kp s7).trans k8
    refine seq_fld ?_
    refine dc_leaves (K := K) rfl (k68.lst eb6) (hL6.kp k68) (fun p => ((.inr p.2 : Key), V.int p.1)) hPA (by omega) (fun _ _ => rfl) (fun p H1 B hB => ⟨_, rfl, _, rfl, hB⟩) ?_
    intro PA H9 nPA s9 ePA9
    have nPAo : PA ≠ o := fun e => by rw [e, eo8] at nPA; cases nPA
    have fPA := b8.fresh hS nPAo nPA
    have b9 := b8.same s9
    have eo9 := s9 _ _ eo8
    refine ⟨_, rfl, o, _, dx, _, rfl, eo9, T.Net_cls, no _ (by simp), by simp, ?_⟩
    show tSeq _ _ _ _ (upd H9 o (.ins (He.ga K "Net") dx [("_arrows", .ref A), ("_leaves", .ref L), ("_mothers", .ref M), ("_children", .ref C), ("_name_at", .ref NA), ("_place_at", .ref PA)]))
    obtain ⟨b10, k10, eo10⟩ := stage0 [("_arrows", .ref A), ("_leaves", .ref L), ("_mothers", .ref M), ("_children", .ref C), ("_name_at", .ref NA), ("_place_at", .ref PA)] b9 eo9
    generalize upd H9 o (.ins (He.ga K "Net") dx [("_arrows", .ref A), ("_leaves", .ref L), ("_mothers", .ref M), ("_children", .ref C), ("_name_at", .ref NA), ("_place_at", .ref PA)]) = H10 at b10 k10 eo10
    have ePA10 := k10.dK ePA9
    refine seq_fld ?_
    refine ⟨_, rfl, o, _, dx, _, .ref PA, rfl, eo10, T.Net_cls, no _ (by simp), rfl, PA, _, Ls.map (·.2), rfl, .inl ePA10, by rw [List.map_map, List.map_map]; rfl, by rw [List.length_map]; exact hl64, fun ns NM hns hss nNM => ?_⟩
    have nNMo : NM ≠ o := fun e => by rw [e, eo10] at nNM; cases nNM
    have fNM := b10.fresh hS nNMo nNM
    refine ⟨_, rfl, o, _, dx, _, rfl, (by rw [upd_ne nNMo.symm]; exact eo10), T.Net_cls, no _ (by simp), by simp, ?_⟩
    show (sFld _ _ _ _) _ _ (upd (upd H10 NM (.lst (ns.map V.str))) o (.ins (He.ga K "Net") dx [("_arrows", .ref A), ("_leaves", .ref L), ("_mothers", .ref M), ("_children", .ref C), ("_name_at", .ref NA), ("_place_at", .ref PA), ("_names", .ref NM)]))
    obtain ⟨b11, k11, eo11, eNM11, _⟩ := stage [("_arrows", .ref A), ("_leaves", .ref L), ("_mothers", .ref M), ("_children", .ref C), ("_name_at", .ref NA), ("_place_at", .ref PA), ("_names", .ref NM)] (.lst (ns.map V.str)) b10 eo10 nNM
    generalize upd (upd H10 NM (.lst (ns.map V.str))) o (.ins (He.ga K "Net") dx [("_arrows", .ref A), ("_leaves", .ref L), ("_mothers", .ref M), ("_children", .ref C), ("_name_at", .ref NA), ("_place_at", .ref PA), ("_names", .ref NM)]) = H11 at b11 k11 eo11 eNM11
    have k8_11 : Kp H8 H11 := (Same.kp s9).trans (k10.trans k11)
    have k3_11 : Kp H3 H11 := k36.trans (k68.trans k8_11)
    have k4_11 : Kp H4 H11 := k46.trans (k68.trans k8_11)
    have rM11 := rM3.kp eM3 k3_11
    have rC11 := rC3.kp eC3 k3_11
    have eM11 := k3_11.dK eM3
    have eC11 := k3_11.dK eC3
    refine fld_h (op_h ?_)
    refine lc_dict (j := 6) rfl eM11 (fun p => (upsOf Bs p).isEmpty) (Nat.lt_trans h64 (by decide)) (fun _ => rfl) (fun _ => rfl) ?_ ?_
    · intro x hx od H1 kk sm hk
      refine ⟨_, rfl, _, rfl, M, .ref (am x), rfl, ((rM11.lock (od := od) eM11).same sm).get hx, _, .inl ⟨_, .of (((rM11.lock (od := od) eM11).same sm).val x hx), rfl⟩, ?_⟩
      have e : (!(!((upsOf Bs x).map V.int).isEmpty)) = (upsOf Bs x).isEmpty := by cases upsOf Bs x <;> rfl
      show kk (!(!((upsOf Bs x).map V.int).isEmpty)) H1
      rw [e]
      exact hk _ (Same.refl _)
    intro R H12 nR s12' eR
    rw [hroot] at eR
    have b12 := b11.same s12'
    have eo12 := s12' _ _ eo11
    refine ⟨R, _, ((0 : Nat) : Int), .int root, rfl, rfl, .of eR, atI_nat (j := 0) rfl, _, rfl, o, _, dx, _, rfl, eo12, T.Net_cls, no _ (by simp), by simp, ?_⟩
    show Q .non (upd H12 o (.ins (He.ga K "Net") dx [("_arrows", .ref A), ("_leaves", .ref L), ("_mothers", .ref M), ("_children", .ref C), ("_name_at", .ref NA), ("_place_at", .ref PA), ("_names", .ref NM), ("_root", .int root)]))
    obtain ⟨b13, k13, eo13⟩ := stage0 [("_arrows", .ref A), ("_leaves", .ref L), ("_mothers", .ref M), ("_children", .ref C), ("_name_at", .ref NA), ("_place_at", .ref PA), ("_names", .ref NM), ("_root", .int root)] b12 eo12
    generalize upd H12 o (.ins (He.ga K "Net") dx [("_arrows", .ref A), ("_leaves", .ref L), ("_mothers", .ref M), ("_children", .ref C), ("_name_at", .ref NA), ("_place_at", .ref PA), ("_names", .ref NM), ("_root", .int root)]) = H13 at b13 k13 eo13
    have kl : Kp H11 H13 := (Same.kp s12').trans k13
    have fr : ∀ b, H b = none → ¬ S b := fun b n h => by
      obtain ⟨u, hu⟩ := hS b h
      rw [n] at hu
      cases hu
    refine q H13 Ms b13 ⟨hMs, dx, A, L, M, C, NA, PA, NM, am, ac, As1, Ls1, ns, eo13, ⟨(k3_11.trans kl).lst eA3, hA4.kp (k3_11.trans kl)⟩, ⟨(k4_11.trans kl).lst eL4, ?_⟩, ⟨kl.dK eM11, rM11.kp eM11 kl⟩, ⟨kl.dK eC11, rC11.kp eC11 kl⟩,
      ((k8.trans k8_11).trans kl).dK eNA7, ((k10.trans k11).trans kl).dK ePA9, ⟨kl.lst eNM11, hns, hss⟩, ?_, fun p hp => ⟨fr _ (hM.na p hp), fr _ (hC.na p hp)⟩⟩
    · exact hL4.kp (k3_11.trans kl)
    · intro b hb
      simp only [List.mem_cons, List.not_mem_nil, or_false] at hb
      rcases hb with rfl | rfl | rfl | rfl | rfl | rfl | rfl | rfl
      · exact nSo
      · exact fA
      · exact fL
      · exact fr _ hM.nd
      · exact fr _ hC.nd
      · exact fNA
      · exact fPA
      · exact fNM


set_option maxHeartbeats 4000000 in
theorem ok_Net_places  (F : Fun K "places" "Net.places" s_Net_places f fd) (T : Txt w K mg) : FnOk P w K mg base CX0 (k + 1) f fd ["self"] (sp_Net_places K) := by
  refine F.ok sc_Net_places (fun vs H Q E h => ?_) (fun cdv A outer s0 H vs Q E hr h => ?_)
  · obtain ⟨S, o, Bs, Ls, Ms, Pl, root, rfl, hN, q⟩ := h
    rfl
  · obtain ⟨S, o, Bs, Ls, Ms, Pl, root, rfl, hN, q⟩ := h
    refine ⟨_, (pss_one (ps_ret (pe_callTy (call_list_dK rfl) (by rfl) T.list (by decide +kernel) (pa_cons (pe_fld (pv 0) (by rfl)) pa_nil)))), ?_⟩
    obtain ⟨dx, A1, L1, M, C, NA, PA, NM, am, ac, ys, zs, ns, eo, _, _, ⟨eM, hM⟩, ⟨eC, hC⟩, _⟩ := hN.ex
    have no : ∀ f ∈ (["_arrows", "_leaves", "_mothers", "_children", "_name_at", "_place_at", "_names", "_root"] : List Str), NoAttr K (He.ga K "Net") f := T.Net_no
    refine ⟨_, rfl, o, _, dx, _, .ref C, rfl, eo, T.Net_cls, no _ (by simp), rfl, C, _, rfl, eC, fun R nR => ?_⟩
    refine q _ R (same_snoc (Same.refl _) nR) nR ?_
    rw [upd_same, List.map_map]
    rfl


set_option maxHeartbeats 4000000 in
theorem ok_Net_inner  (F : Fun K "inner" "Net.inner" s_Net_inner f fd) (T : Txt w K mg) : FnOk P w K mg base CX0 (k + 1) f fd ["self"] (sp_Net_inner K) := by
  refine F.ok sc_Net_inner (fun vs H Q E h => ?_) (fun cdv A outer s0 H vs Q E hr h => ?_)
  · obtain ⟨S, o, Bs, Ls, Ms, Pl, root, rfl, hN, h64, q⟩ := h
    rfl
  · obtain ⟨S, o, Bs, Ls, Ms, Pl, root, rfl, hN, h64, q⟩ := h
    refine ⟨_, (pss_one (ps_ret (pe_lock (pe_lc (own := [("place", 1)]) (by rfl) sc_Net_inner.nd (pi_keys (pe_fld (pv 0) (by rfl))) (blkOk_by (own := [("place", 1)]) (N := ["self", "place"]) (sc := defScope s_Net_inner) (by decide +kernel)) (fun _ _ _ _ _ => pg_name (i := 1) sc_Net_inner.nd rfl (Or.inl rfl)) (fun _ _ _ _ _ => (pts_one (pt_tru K rfl (pe_dget (u1 hr) (pe_fldK K rfl (pv 0) (by rfl)) (pv 1) (fun _ _ => rfl)) (fun _ => rfl)))) (fun _ _ _ _ _ => (pv 1)))))), ?_⟩
    obtain ⟨dx, A1, L1, M, C, NA, PA, NM, am, ac, ys, zs, ns, eo, ⟨eA, hA⟩, ⟨eL, hL⟩, ⟨eM, hM⟩, ⟨eC, hC⟩, eNA, ePA, ⟨eNM, hn1, hn2⟩, hSx, hPx⟩ := hN.ex
    have no : ∀ f ∈ (["_arrows", "_leaves", "_mothers", "_children", "_name_at", "_place_at", "_names", "_root"] : List Str), NoAttr K (He.ga K "Net") f := T.Net_no
    have oC : o ≠ C := fun e => by rw [e, eC] at eo; cases eo
    have oM : o ≠ M := fun e => by rw [e, eM] at eo; cases eo
    refine lc_dictT eC (fun p => !(downsOf Bs p).isEmpty) (Nat.lt_trans h64 (by decide)) (fun od R h => ⟨_, rfl, o, _, dx, _, .ref C, rfl, by rw [upd_ne oC]; exact eo, T.Net_cls, no _ (by simp), rfl, h⟩) (fun _ => rfl) (fun _ => rfl) ?_ (fun R H' nR sm e => q H' R sm nR e)
    intro x hx od H1 k sm hk
    have hC1 := (hC.lock (od := od) eC).same sm
    have eo1 := sm _ _ ((upd_ne (o := .frz od _) oC).trans eo)
    have e : (!((downsOf Bs x).map V.int).isEmpty) = !(downsOf Bs x).isEmpty := by cases downsOf Bs x <;> rfl
    refine ⟨_, rfl, o, _, dx, _, .ref C, rfl, eo1, T.Net_cls, no _ (by simp), rfl, _, rfl, C, .ref (ac x), rfl, hC1.get hx, _, .inl ⟨_, .of (hC1.val x hx), rfl⟩, ?_⟩
    rw [e]
    exact hk _ (Same.refl _)


set_option maxHeartbeats 4000000 in
theorem ok_Net_splits  (F : Fun K "splits" "Net.splits" s_Net_splits f fd) (T : Txt w K mg) : FnOk P w K mg base CX0 (k + 1) f fd ["self"] (sp_Net_splits K) := by
  refine F.ok sc_Net_splits (fun vs H Q E h => ?_) (fun cdv A outer s0 H vs Q E hr h => ?_)
  · obtain ⟨S, o, Bs, Ls, Ms, Pl, root, rfl, hN, h64, q⟩ := h
    rfl
  · obtain ⟨S, o, Bs, Ls, Ms, Pl, root, rfl, hN, h64, q⟩ := h
    refine ⟨_, (pss_one (ps_ret (pe_lock (pe_lc (own := [("place", 1)]) (by rfl) sc_Net_splits.nd (pi_keys (pe_fld (pv 0) (by rfl))) (blkOk_by (own := [("place", 1)]) (N := ["self", "place"]) (sc := defScope s_Net_splits) (by decide +kernel)) (fun _ _ _ _ _ => pg_name (i := 1) sc_Net_splits.nd rfl (Or.inl rfl)) (fun _ _ _ _ _ => (pts_one (pt_cmpR op_eq (pe_callB (call_len_seqK K rfl) (by rfl) T.len PySem.boot_len (pa_cons (pe_dget (u1 hr) (pe_fldK K rfl (pv 0) (by rfl)) (pv 1) (fun _ _ => rfl)) pa_nil)) pe_int (nomark _)))) (fun _ _ _ _ _ => (pv 1)))))), ?_⟩
    obtain ⟨dx, A1, L1, M, C, NA, PA, NM, am, ac, ys, zs, ns, eo, ⟨eA, hA⟩, ⟨eL, hL⟩, ⟨eM, hM⟩, ⟨eC, hC⟩, eNA, ePA, ⟨eNM, hn1, hn2⟩, hSx, hPx⟩ := hN.ex
    have no : ∀ f ∈ (["_arrows", "_leaves", "_mothers", "_children", "_name_at", "_place_at", "_names", "_root"] : List Str), NoAttr K (He.ga K "Net") f := T.Net_no
    have oC : o ≠ C := fun e => by rw [e, eC] at eo; cases eo
    have oM : o ≠ M := fun e => by rw [e, eM] at eo; cases eo
    refine lc_dictT eC (fun p => (downsOf Bs p).length == 2) (Nat.lt_trans h64 (by decide)) (fun od R h => ⟨_, rfl, o, _, dx, _, .ref C, rfl, by rw [upd_ne oC]; exact eo, T.Net_cls, no _ (by simp), rfl, h⟩) (fun _ => rfl) (fun _ => rfl) ?_ (fun R H' nR sm e => q H' R sm nR e)
    intro x hx od H1 k sm hk
    have hC1 := (hC.lock (od := od) eC).same sm
    have eo1 := sm _ _ ((upd_ne (o := .frz od _) oC).trans eo)
    have e : decide (V.int ((((downsOf Bs x).map V.int).length : Nat) : Int) = V.int 2) = ((downsOf Bs x).length == 2) := by
      rw [List.length_map, Bool.eq_iff_iff, decide_eq_true_iff, beq_iff_eq]
      exact ⟨fun h => by have := V.int.inj h; omega, fun h => by rw [h]; rfl⟩
    refine ⟨_, rfl, o, _, dx, _, .ref C, rfl, eo1, T.Net_cls, no _ (by simp), rfl, _, rfl, C, .ref (ac x), rfl, hC1.get hx, _, _, rfl, .inl (.of (hC1.val x hx)), rfl, _, rfl, ?_⟩
    rw [e]
    exact hk _ (Same.refl _)


set_option maxHeartbeats 4000000 in
theorem ok_Net_mixings  (F : Fun K "mixings" "Net.mixings" s_Net_mixings f fd) (T : Txt w K mg) : FnOk P w K mg base CX0 (k + 1) f fd ["self"] (sp_Net_mixings K) := by
  refine F.ok sc_Net_mixings (fun vs H Q E h => ?_) (fun cdv A outer s0 H vs Q E hr h => ?_)
  · obtain ⟨S, o, Bs, Ls, Ms, Pl, root, rfl, hN, h64, q⟩ := h
    rfl
  · obtain ⟨S, o, Bs, Ls, Ms, Pl, root, rfl, hN, h64, q⟩ := h
    refine ⟨_, (pss_one (ps_ret (pe_lock (pe_lc (own := [("place", 1)]) (by rfl) sc_Net_mixings.nd (pi_keys (pe_fld (pv 0) (by rfl))) (blkOk_by (own := [("place", 1)]) (N := ["self", "place"]) (sc := defScope s_Net_mixings) (by decide +kernel)) (fun _ _ _ _ _ => pg_name (i := 1) sc_Net_mixings.nd rfl (Or.inl rfl)) (fun _ _ _ _ _ => (pts_one (pt_cmpR op_eq (pe_callB (call_len_seqK K rfl) (by rfl) T.len PySem.boot_len (pa_cons (pe_dget (u1 hr) (pe_fldK K rfl (pv 0) (by rfl)) (pv 1) (fun _ _ => rfl)) pa_nil)) pe_int (nomark _)))) (fun _ _ _ _ _ => (pv 1)))))), ?_⟩
    obtain ⟨dx, A1, L1, M, C, NA, PA, NM, am, ac, ys, zs, ns, eo, ⟨eA, hA⟩, ⟨eL, hL⟩, ⟨eM, hM⟩, ⟨eC, hC⟩, eNA, ePA, ⟨eNM, hn1, hn2⟩, hSx, hPx⟩ := hN.ex
    have no : ∀ f ∈ (["_arrows", "_leaves", "_mothers", "_children", "_name_at", "_place_at", "_names", "_root"] : List Str), NoAttr K (He.ga K "Net") f := T.Net_no
    have oC : o ≠ C := fun e => by rw [e, eC] at eo; cases eo
    have oM : o ≠ M := fun e => by rw [e, eM] at eo; cases eo
    refine lc_dictT eM (fun p => (upsOf Bs p).length == 2) (Nat.lt_trans h64 (by decide)) (fun od R h => ⟨_, rfl, o, _, dx, _, .ref M, rfl, by rw [upd_ne oM]; exact eo, T.Net_cls, no _ (by simp), rfl, h⟩) (fun _ => rfl) (fun _ => rfl) ?_ (fun R H' nR sm e => q H' R sm nR e)
    intro x hx od H1 k sm hk
    have hC1 := (hM.lock (od := od) eM).same sm
    have eo1 := sm _ _ ((upd_ne (o := .frz od _) oM).trans eo)
    have e : decide (V.int ((((upsOf Bs x).map V.int).length : Nat) : Int) = V.int 2) = ((upsOf Bs x).length == 2) := by
      rw [List.length_map, Bool.eq_iff_iff, decide_eq_true_iff, beq_iff_eq]
      exact ⟨fun h => by have := V.int.inj h; omega, fun h => by rw [h]; rfl⟩
    refine ⟨_, rfl, o, _, dx, _, .ref M, rfl, eo1, T.Net_cls, no _ (by simp), rfl, _, rfl, M, .ref (am x), rfl, hC1.get hx, _, _, rfl, .inl (.of (hC1.val x hx)), rfl, _, rfl, ?_⟩
    rw [e]
    exact hk _ (Same.refl _)


set_option maxHeartbeats 4000000 in
theorem ok_Net_arrows  (F : Fun K "arrows" "Net.arrows" s_Net_arrows f fd) (T : Txt w K mg) : FnOk P w K mg base CX0 (k + 1) f fd ["self"] (sp_Net_arrows K) := by
  refine F.ok sc_Net_arrows (fun vs H Q E h => ?_) (fun cdv A outer s0 H vs Q E hr h => ?_)
  · obtain ⟨S, o, Bs, Ls, Ms, Pl, root, rfl, hN, q⟩ := h
    rfl
  · obtain ⟨S, o, Bs, Ls, Ms, Pl, root, rfl, hN, q⟩ := h
    refine ⟨_, (pss_one (ps_ret (pe_callTy call_list_of (by rfl) T.list (by decide +kernel) (pa_cons (pe_fld (pv 0) (by rfl)) pa_nil)))), ?_⟩
    obtain ⟨dx, A1, L1, M, C, NA, PA, NM, am, ac, ys, zs, ns, eo, ⟨eA, hA⟩, ⟨eL, hL⟩, _⟩ := hN.ex
    have no : ∀ f ∈ (["_arrows", "_leaves", "_mothers", "_children", "_name_at", "_place_at", "_names", "_root"] : List Str), NoAttr K (He.ga K "Net") f := T.Net_no
    refine ⟨_, rfl, o, _, dx, _, .ref A1, rfl, eo, T.Net_cls, no _ (by simp), rfl, A1, ys, rfl, .inl (.of eA), fun R nR => ?_⟩
    exact q _ R ys (same_snoc (Same.refl _) nR) nR upd_same (hA.new nR)


set_option maxHeartbeats 4000000 in
theorem ok_Net_leaves  (F : Fun K "leaves" "Net.leaves" s_Net_leaves f fd) (T : Txt w K mg) : FnOk P w K mg base CX0 (k + 1) f fd ["self"] (sp_Net_leaves K) := by
  refine F.ok sc_Net_leaves (fun vs H Q E h => ?_) (fun cdv A outer s0 H vs Q E hr h => ?_)
  · obtain ⟨S, o, Bs, Ls, Ms, Pl, root, rfl, hN, q⟩ := h
    rfl
  · obtain ⟨S, o, Bs, Ls, Ms, Pl, root, rfl, hN, q⟩ := h
    refine ⟨_, (pss_one (ps_ret (pe_callTy call_list_of (by rfl) T.list (by decide +kernel) (pa_cons (pe_fld (pv 0) (by rfl)) pa_nil)))), ?_⟩
    obtain ⟨dx, A1, L1, M, C, NA, PA, NM, am, ac, ys, zs, ns, eo, ⟨eA, hA⟩, ⟨eL, hL⟩, _⟩ := hN.ex
    have no : ∀ f ∈ (["_arrows", "_leaves", "_mothers", "_children", "_name_at", "_place_at", "_names", "_root"] : List Str), NoAttr K (He.ga K "Net") f := T.Net_no
    refine ⟨_, rfl, o, _, dx, _, .ref L1, rfl, eo, T.Net_cls, no _ (by simp), rfl, L1, zs, rfl, .inl (.of eL), fun R nR => ?_⟩
    exact q _ R zs (same_snoc (Same.refl _) nR) nR upd_same (hL.new nR)


set_option maxHeartbeats 4000000 in
theorem ok_Net_names  (F : Fun K "names" "Net.names" s_Net_names f fd) (T : Txt w K mg) : FnOk P w K mg base CX0 (k + 1) f fd ["self"] (sp_Net_names K) := by
  refine F.ok sc_Net_names (fun vs H Q E h => ?_) (fun cdv A outer s0 H vs Q E hr h => ?_)
  · obtain ⟨S, o, Bs, Ls, Ms, Pl, root, rfl, hN, q⟩ := h
    rfl
  · obtain ⟨S, o, Bs, Ls, Ms, Pl, root, rfl, hN, q⟩ := h
    refine ⟨_, (pss_one (ps_ret (pe_callTy call_list_of (by rfl) T.list (by decide +kernel) (pa_cons (pe_fld (pv 0) (by rfl)) pa_nil)))), ?_⟩
    obtain ⟨dx, A1, L1, M, C, NA, PA, NM, am, ac, ys, zs, ns, eo, ⟨eA, hA⟩, ⟨eL, hL⟩, ⟨eM, hM⟩, ⟨eC, hC⟩, eNA, ePA, ⟨eNM, hn1, hn2⟩, hSx, hPx⟩ := hN.ex
    have no : ∀ f ∈ (["_arrows", "_leaves", "_mothers", "_children", "_name_at", "_place_at", "_names", "_root"] : List Str), NoAttr K (He.ga K "Net") f := T.Net_no
    refine ⟨_, rfl, o, _, dx, _, .ref NM, rfl, eo, T.Net_cls, no _ (by simp), rfl, NM, _, rfl, .inl (.of eNM), fun R nR => ?_⟩
    exact q _ R ns (same_snoc (Same.refl _) nR) nR upd_same hn1 hn2


set_option maxHeartbeats 4000000 in
theorem ok_Net_mothers  (F : Fun K "mothers" "Net.mothers" s_Net_mothers f fd) (T : Txt w K mg)
    (O_Net__demand : OwnM P w K mg base k (He.ga K "Net") "_demand" ["self", "place"] (sp_Net__demand K)) : FnOk P w K mg base CX0 (k + 1) f fd ["self", "place"] (sp_Net_mothers K) := by
  refine F.ok sc_Net_mothers (fun vs H Q E h => ?_) (fun cdv A outer s0 H vs Q E hr h => ?_)
  · obtain ⟨S, o, Bs, Ls, Ms, Pl, root, p, rfl, hN, hp, q⟩ := h
    rfl
  · obtain ⟨S, o, Bs, Ls, Ms, Pl, root, p, rfl, hN, hp, q⟩ := h
    refine ⟨_, (pss_cons (ps_expr (pe_ownM O_Net__demand hr T.Net_cls (pv 0) (pa_cons (pv 1) pa_nil)))
      (pss_one (ps_ret (pe_callTy call_list_of (by rfl) T.list (by decide +kernel) (pa_cons (pe_dget (u1 hr) (pe_fld (pv 0) (by rfl)) (pv 1) (fun _ _ => rfl)) pa_nil))))), ?_⟩
    obtain ⟨dx, A1, L1, M, C, NA, PA, NM, am, ac, ys, zs, ns, eo, ⟨eA, hA⟩, ⟨eL, hL⟩, ⟨eM, hM⟩, ⟨eC, hC⟩, eNA, ePA, ⟨eNM, hn1, hn2⟩, hSx, hPx⟩ := hN.ex
    have no : ∀ f ∈ (["_arrows", "_leaves", "_mothers", "_children", "_name_at", "_place_at", "_names", "_root"] : List Str), NoAttr K (He.ga K "Net") f := T.Net_no
    refine ⟨_, rfl, o, dx, _, rfl, eo, rfl, _, rfl, S, o, Bs, Ls, Ms, Pl, root, p, rfl, hN, hp, fun H1 s1 => ?_⟩
    have h1 := hM.go (s1 _ _ eM) fun p hp u e => s1 _ _ e
    refine ⟨_, rfl, o, _, dx, _, .ref M, rfl, s1 _ _ eo, T.Net_cls, no _ (by simp), rfl, _, rfl, M, .ref (am p), rfl, h1.get hp, am p, _, rfl, .inl (.of (h1.val p hp)), fun R nR => ?_⟩
    exact q _ R (same_snoc s1 nR) (s1.free nR) upd_same


set_option maxHeartbeats 4000000 in
theorem ok_Net_children  (F : Fun K "children" "Net.children" s_Net_children f fd) (T : Txt w K mg)
    (O_Net__demand : OwnM P w K mg base k (He.ga K "Net") "_demand" ["self", "place"] (sp_Net__demand K)) : FnOk P w K mg base CX0 (k + 1) f fd ["self", "place"] (sp_Net_children K) := by
  refine F.ok sc_Net_children (fun vs H Q E h => ?_) (fun cdv A outer s0 H vs Q E hr h => ?_)
  · obtain ⟨S, o, Bs, Ls, Ms, Pl, root, p, rfl, hN, hp, q⟩ := h
    rfl
  · obtain ⟨S, o, Bs, Ls, Ms, Pl, root, p, rfl, hN, hp, q⟩ := h
    refine ⟨_, (pss_cons (ps_expr (pe_ownM O_Net__demand hr T.Net_cls (pv 0) (pa_cons (pv 1) pa_nil)))
      (pss_one (ps_ret (pe_callTy call_list_of (by rfl) T.list (by decide +kernel) (pa_cons (pe_dget (u1 hr) (pe_fld (pv 0) (by rfl)) (pv 1) (fun _ _ => rfl)) pa_nil))))), ?_⟩
    obtain ⟨dx, A1, L1, M, C, NA, PA, NM, am, ac, ys, zs, ns, eo, ⟨eA, hA⟩, ⟨eL, hL⟩, ⟨eM, hM⟩, ⟨eC, hC⟩, eNA, ePA, ⟨eNM, hn1, hn2⟩, hSx, hPx⟩ := hN.ex
    have no : ∀ f ∈ (["_arrows", "_leaves", "_mothers", "_children", "_name_at", "_place_at", "_names", "_root"] : List Str), NoAttr K (He.ga K "Net") f := T.Net_no
    refine ⟨_, rfl, o, dx, _, rfl, eo, rfl, _, rfl, S, o, Bs, Ls, Ms, Pl, root, p, rfl, hN, hp, fun H1 s1 => ?_⟩
    have h1 := hC.go (s1 _ _ eC) fun p hp u e => s1 _ _ e
    refine ⟨_, rfl, o, _, dx, _, .ref C, rfl, s1 _ _ eo, T.Net_cls, no _ (by simp), rfl, _, rfl, C, .ref (ac p), rfl, h1.get hp, ac p, _, rfl, .inl (.of (h1.val p hp)), fun R nR => ?_⟩
    exact q _ R (same_snoc s1 nR) (s1.free nR) upd_same


set_option maxHeartbeats 4000000 in
theorem ok_Net___eq  (F : Fun K "__eq__" "Net.__eq__" s_Net___eq f fd) (T : Txt w K mg) : FnOk P w K mg base CX0 (k + 1) f fd ["self", "other"] (sp_Net___eq K) := by
  refine F.ok sc_Net___eq (fun vs H Q E h => ?_) (fun cdv A outer s0 H vs Q E hr h => ?_)
  · obtain ⟨o1, y, rfl, h⟩ := h
    rfl
  · obtain ⟨o1, y, rfl, h⟩ := h
    refine ⟨_, (pss_one (ps_ret (pe_and (pe_callB (call_isX (C := He.ga K "Net")) (by rfl) T.isinstance (by decide +kernel) (pa_cons (pv 1) (pa_cons (pe_glob (by rfl) T.Net_glo (v := .ref (He.ga K "Net")) rfl) pa_nil))) (pe_and (pe_cmpR (op_eqD hr.units) (pe_fld (pv 0) (by rfl)) (pe_fld (pv 1) (by rfl)) (nomark _)) (pe_one (pe_cmpR (op_eqD hr.units) (pe_fld (pv 0) (by rfl)) (pe_fld (pv 1) (by rfl)) (nomark _))))))), ?_⟩
    rcases h with ⟨S, o2, Bs1, Bs2, Ls1, Ms1, Ls2, Ms2, P1, P2, r1, r2, rfl, hN1, hN2, hn1, hn2, q⟩ | ⟨S, d, hd, q⟩
    rotate_left
    · exact ⟨_, rfl, y, _, false, rfl, hd.ty, T.Net_ixs.kit _ (six_of hd), _, rfl, ite2 (fun e => absurd e (by decide)) fun _ => q⟩
    obtain ⟨dx, A, L, M, C, NA, PA, NM, am, ac, ys, zs, ns, eo, ⟨eA, hA⟩, ⟨eL, hL⟩, _, _, _, _, _, hSS, _⟩ := hN1.ex
    obtain ⟨dx', A', L', M', C', NA', PA', NM', am', ac', ys', zs', ns', eo', ⟨eA', hA'⟩, ⟨eL', hL'⟩, _, _, _, _, _, hSS', _⟩ := hN2.ex
    have no : ∀ f ∈ (["_arrows", "_leaves", "_mothers", "_children", "_name_at", "_place_at", "_names", "_root"] : List Str), NoAttr K (He.ga K "Net") f := T.Net_no
    have dA : Da S H (.ref A) (.list (Bs1.map pd)) := .lst (hSS A (by simp)) eA hA
    have dA' : Da S H (.ref A') (.list (Bs2.map pd)) := .lst (hSS' A' (by simp)) eA' hA'
    have dL : Da S H (.ref L) (.list (Ms1.map ld)) := .lst (hSS L (by simp)) eL hL
    have dL' : Da S H (.ref L') (.list (Ms2.map ld)) := .lst (hSS' L' (by simp)) eL' hL'
    refine ⟨_, rfl, .ref o2, _, true, rfl, T.Net_ixs.ty eo', T.Net_ixs.ins.me, _, rfl, ?_⟩
    refine ite2 (fun _ => ?_) fun e => absurd rfl e
    refine ⟨_, rfl, o1, _, dx, _, .ref A, rfl, eo, T.Net_cls, no _ (by simp), rfl, _, rfl, o2, _, dx', _, .ref A', rfl, eo', T.Net_cls, no _ (by simp), rfl, _, _, dA.dp, dA'.dp, shaped_pds _, shaped_pds _, _, rfl, ?_⟩
    rw [eqv_pds]
    cases hb : decide (Bs1 = Bs2) with
    | false =>
      rw [hb] at q
      exact ite2 (fun e => absurd e (by decide)) fun _ => q
    | true =>
      rw [hb] at q
      refine ite2 (fun _ => ?_) fun e => absurd rfl e
      refine ⟨_, rfl, o1, _, dx, _, .ref L, rfl, eo, T.Net_cls, no _ (by simp), rfl, _, rfl, o2, _, dx', _, .ref L', rfl, eo', T.Net_cls, no _ (by simp), rfl, _, _, dL.dp, dL'.dp, shaped_lds hn1, shaped_lds hn2, ?_⟩
      rw [eqv_lds]
      exact q


set_option maxHeartbeats 4000000 in
theorem ok_Net__demand  (F : Fun K "_demand" "Net._demand" s_Net__demand f fd) (T : Txt w K mg) : FnOk P w K mg base CX0 (k + 1) f fd ["self", "place"] (sp_Net__demand K) := by
  refine F.ok sc_Net__demand (fun vs H Q E h => ?_) (fun cdv A outer s0 H vs Q E hr h => ?_)
  · obtain ⟨S, o, Bs, Ls, Ms, Pl, root, p, rfl, hN, hp, q⟩ := h
    rfl
  · obtain ⟨S, o, Bs, Ls, Ms, Pl, root, p, rfl, hN, hp, q⟩ := h
    refine ⟨_, (pss_one (ps_if (pt_cmp (pc_dnotin (u1 hr) (pv 1) (pe_fld (pv 0) (by rfl))))
        (pss_one ps_never)
        pss_nil)), ?_⟩
    obtain ⟨dx, A1, L1, M, C, NA, PA, NM, am, ac, ys, zs, ns, eo, ⟨eA, hA⟩, ⟨eL, hL⟩, ⟨eM, hM⟩, ⟨eC, hC⟩, eNA, ePA, ⟨eNM, hn1, hn2⟩, hSx, hPx⟩ := hN.ex
    have no : ∀ f ∈ (["_arrows", "_leaves", "_mothers", "_children", "_name_at", "_place_at", "_names", "_root"] : List Str), NoAttr K (He.ga K "Net") f := T.Net_no
    refine ⟨_, rfl, _, rfl, o, _, dx, _, .ref C, rfl, eo, T.Net_cls, no _ (by simp), rfl, C, _, rfl, hC.get hp, _, rfl, ite2 (fun e => by simp at e) fun _ => ?_⟩
    exact q _ (Same.refl _)


set_option maxHeartbeats 4000000 in
theorem ok_law_mix  (F : Fun K "_law_mix" "_law_mix" s_law_mix f fd) (T : Txt w K mg) : FnOk P w K mg base CX0 (k + 1) f fd ["cell", "turn"] (sp_law_mix) := by
  refine F.ok sc_law_mix (fun vs H Q E h => ?_) (fun cdv A outer s0 H vs Q E hr h => ?_)
  · obtain ⟨a, b, rfl, q⟩ := h
    rfl
  · obtain ⟨a, b, rfl, q⟩ := h
    refine ⟨_, (pss_cons (ps_set (i := 2) sc_law_mix.nd rfl (Or.inl rfl) (pe_op op_mod (pe_callTy call_int1 (by rfl) T.int (by decide +kernel) (pa_cons (pe_op op_add (pe_op op_add (pe_op op_mul (pe_op op_mod (pe_callTy call_int1 (by rfl) T.int (by decide +kernel) (pa_cons (pv 0) pa_nil)) pe_int) pe_int) (pe_op op_mul (pv 1) pe_int)) pe_int) pa_nil)) pe_int))
      (pss_cons (ps_set (i := 2) sc_law_mix.nd rfl (Or.inl rfl) (pe_op op_mod (pe_callTy call_int1 (by rfl) T.int (by decide +kernel) (pa_cons (pe_op op_mul (pe_op op_xor (pv 2) (pe_op op_fdiv (pv 2) pe_int)) pe_int) pa_nil)) pe_int))
      (pss_cons (ps_set (i := 2) sc_law_mix.nd rfl (Or.inl rfl) (pe_op op_mod (pe_callTy call_int1 (by rfl) T.int (by decide +kernel) (pa_cons (pe_op op_mul (pe_op op_xor (pv 2) (pe_op op_fdiv (pv 2) pe_int)) pe_int) pa_nil)) pe_int))
      (pss_one (ps_ret (pe_op op_xor (pv 2) (pe_op op_fdiv (pv 2) pe_int))))))), ?_⟩
    walk_at "go"
    exact q _


set_option maxHeartbeats 4000000 in
theorem ok_law_store  (F : Fun K "_law_store" "_law_store" s_law_store f fd) (T : Txt w K mg)
    (O_law_mix : Own P w K mg base k "_law_mix" ["cell", "turn"] (sp_law_mix)) : FnOk P w K mg base CX0 (k + 1) f fd ["script"] (sp_law_store K) := by
  refine F.ok sc_law_store (fun vs H Q E h => ?_) (fun cdv A outer s0 H vs Q E hr h => ?_)
  · obtain ⟨a, ns, rfl, hS, hlen, q⟩ := h
    rfl
  · obtain ⟨a, ns, rfl, hS, hlen, q⟩ := h
    refine ⟨_, (pss_cons (ps_setLc (i := 2) (own := [("cell", 1)]) (by rfl) sc_law_store.nd rfl rfl (sw_true rfl rfl rfl (by decide +kernel)) (pi_list (pv 0)) (blkOk_by (own := [("cell", 1)]) (N := ["script", "cell", "cells", "seed"]) (sc := defScope s_law_store) (by decide +kernel)) (fun _ _ _ _ _ => pg_name (i := 1) sc_law_store.nd rfl (Or.inl rfl)) (fun _ _ _ _ _ => pts_nil) (fun _ _ _ _ _ => (pe_callTy call_int1 (by rfl) T.int (by decide +kernel) (pa_cons (pv 1) pa_nil))))
      (pss_cons (ps_set (i := 3) sc_law_store.nd rfl (Or.inl rfl) (pe_op op_add (pe_callB call_len_seq (by rfl) T.len PySem.boot_len (pa_cons (pv 2) pa_nil)) pe_int))
      (pss_cons (ps_for PassesOwn.never rfl (pi_list (pv 2)) (pg_name (i := 1) sc_law_store.nd rfl (Or.inl rfl))
        (pss_one (ps_set (i := 3) sc_law_store.nd rfl (Or.inl rfl) (pe_own O_law_mix hr (by rfl) (pa_cons (pe_op op_add (pv 1) (pv 3)) (pa_cons (pv 3) pa_nil))))))
      (pss_one (ps_ret (pe_lst (pa_cons (pv 2) (pa_cons pe_int (pa_cons pe_int (pa_cons (pv 3) (pa_cons pe_int pa_nil))))))))))), ?_⟩
    refine ⟨_, rfl, a, rfl, ⟨_, hS⟩, fun D nD => ?_⟩
    have hm : (ns.map V.int).length = ns.length := List.length_map ..
    refine lc_list (K := K) (a := a) (xs := ns.map V.int) (fun i H' => Same H H' ∧ H' D = some (.lst ((ns.take i).map V.int))) ⟨same_new (Same.refl H) nD, upd_same⟩ (fun i H' _ hp => hp.1.seq hS) ?_ ?_
    · rintro i x H' hi ⟨sm, eD⟩
      obtain ⟨n, hn, rfl⟩ := int_at hi
      refine ⟨rfl, ?_⟩
      refine ⟨_, rfl, .inl ⟨n, rfl, _, eD, ?_, ?_, ?_⟩⟩
      · rw [List.length_map, List.length_take]
        exact Nat.lt_of_le_of_lt (Nat.min_le_right _ _) (line_lt (by omega))
      · intro b o e
        rw [upd_ne (ne_of_none e nD)]
        exact sm b o e
      · rw [upd_same, ← take_snoc hn, List.map_append]
        rfl
    rintro H1 ⟨sm, eD⟩
    rw [hm, List.take_length] at eD
    refine ⟨_, rfl, D, _, rfl, .inl (SqL.of eD), _, _, rfl, rfl, ?_⟩
    refine ⟨_, rfl, D, rfl, ⟨_, SqL.of eD⟩, for_list (K := K) (a := D) (xs := ns.map V.int) (fun i σ H' => H' = H1 ∧ ∃ c v, σ = [some (.ref a), c, some (.ref D), some (.int v)]) ⟨rfl, _, _, rfl⟩ (fun i σ H' _ hp => by rw [hp.1]; exact SqL.of eD) ?_ ?_⟩
    · rintro i x σ H' hi ⟨rfl, c, v, rfl⟩
      obtain ⟨n, hn, rfl⟩ := int_at hi
      refine ⟨_, rfl, _, rfl, _, _, rfl, rfl, _, rfl, _, _, rfl, fun r => ⟨rfl, _, _, rfl⟩⟩
    rintro σ H' ⟨rfl, c, v, rfl⟩
    refine ⟨_, rfl, _, rfl, (by show 5 ≤ sizeLine; decide), fun p np => ?_⟩
    refine q _ (fun b => b = p ∨ b = D) p (same_new sm (sm.free np)) (fun b hb => ?_) ⟨.inl rfl, D, ns, 0, 0, v, 0, upd_same, ne_of_none eD np, ?_, by decide, by decide, .inr rfl⟩
    · rcases hb with rfl | rfl
      · exact ⟨_, upd_same⟩
      · exact ⟨_, by rw [upd_ne (ne_of_none eD np)]; exact eD⟩
    rw [upd_ne (ne_of_none eD np)]
    exact eD


set_option maxHeartbeats 4000000 in
theorem ok_law_take  (F : Fun K "_law_take" "_law_take" s_law_take f fd) (T : Txt w K mg)
    (O_law_mix : Own P w K mg base k "_law_mix" ["cell", "turn"] (sp_law_mix)) : FnOk P w K mg base CX0 (k + 1) f fd ["store", "many"] (sp_law_take) := by
  refine F.ok sc_law_take (fun vs H Q E h => ?_) (fun cdv A outer s0 H vs Q E hr h => ?_)
  · obtain ⟨S, s, m, rfl, hS, hm, q⟩ := h
    rfl
  · obtain ⟨S, s, m, rfl, hS, hm, q⟩ := h
    refine ⟨_, (pss_cons (ps_set (i := 1) sc_law_take.nd rfl (Or.inl rfl) (pe_callB (call_max2 rfl) (by rfl) T.max (by decide +kernel) (pa_cons pe_int (pa_cons (pe_callTy call_int1 (by rfl) T.int (by decide +kernel) (pa_cons (pv 1) pa_nil)) pa_nil))))
      (pss_cons (ps_if (pt_cmpR op_eq (pv 1) pe_int (nomark _))
        (pss_one (ps_ret pe_int))
        pss_nil)
      (pss_cons (ps_asg (pe_op op_add (pe_ix ix_list (pv 0) pe_int (fun _ _ => rfl)) pe_int) (pg_sub (pv 0) pe_int set_list))
      (pss_cons (ps_if (PW.pt (pw_and (pt_cmpR op_eq (pe_ix ix_list (pv 0) pe_int (fun _ _ => rfl)) pe_int (nomark _)) (pw_and1 (pt_cmpR op_lt (pe_ix ix_list (pv 0) pe_int (fun _ _ => rfl)) (pe_callB call_len_seq (by rfl) T.len PySem.boot_len (pa_cons (pe_ix ix_list (pv 0) pe_int (fun _ _ => rfl)) pa_nil)) (nomark _)))))
        (pss_cons (ps_set (i := 2) sc_law_take.nd rfl (Or.inl rfl) (pe_ix ix_list (pe_ix ix_list (pv 0) pe_int (fun _ _ => rfl)) (pe_ix ix_list (pv 0) pe_int (fun _ _ => rfl)) (fun _ _ => rfl)))
        (pss_cons (ps_asg (pe_op op_add (pe_ix ix_list (pv 0) pe_int (fun _ _ => rfl)) pe_int) (pg_sub (pv 0) pe_int set_list))
        (pss_cons (ps_if (pt_cmpR op_lt (pe_callB call_abs (by rfl) T.abs (by decide +kernel) (pa_cons (pv 2) pa_nil)) (pe_op op_pow pe_int pe_int) (nomark _))
          (pss_one (ps_ret (pe_op op_mod (pe_callTy call_int1 (by rfl) T.int (by decide +kernel) (pa_cons (pe_own O_law_mix hr (by rfl) (pa_cons (pv 2) (pa_cons (pe_ix ix_list (pv 0) pe_int (fun _ _ => rfl)) pa_nil))) pa_nil)) (pv 1))))
          pss_nil)
        (pss_one (ps_asg (pe_callB call_abs (by rfl) T.abs (by decide +kernel) (pa_cons (pv 2) pa_nil)) (pg_sub (pv 0) pe_int set_list))))))
        pss_nil)
      (pss_cons (ps_if (pt_cmpR op_gt (pe_ix ix_list (pv 0) pe_int (fun _ _ => rfl)) pe_int (nomark _))
        (pss_cons (ps_set (i := 3) sc_law_take.nd rfl (Or.inl rfl) (pe_op op_mod (pe_callTy call_int1 (by rfl) T.int (by decide +kernel) (pa_cons (pe_ix ix_list (pv 0) pe_int (fun _ _ => rfl)) pa_nil)) (pv 1)))
        (pss_cons (ps_asg (pe_op op_fdiv (pe_ix ix_list (pv 0) pe_int (fun _ _ => rfl)) (pv 1)) (pg_sub (pv 0) pe_int set_list))
        (pss_one (ps_ret (pv 3)))))
        pss_nil)
      (pss_one (ps_ret (pe_op op_mod (pe_callTy call_int1 (by rfl) T.int (by decide +kernel) (pa_cons (pe_own O_law_mix hr (by rfl) (pa_cons (pe_ix ix_list (pv 0) pe_int (fun _ _ => rfl)) (pa_cons (pe_ix ix_list (pv 0) pe_int (fun _ _ => rfl)) pa_nil))) pa_nil)) (pv 1))))))))), ?_⟩
    obtain ⟨zS, c, ns, p, r, sd, t, eS, nc, ec, hp, hr0, zc⟩ := hS
    refine ⟨_, rfl, Or.inl ⟨m, rfl, _, _, rfl, ?_⟩⟩
    have hM : (if m > 1 then m else 1) = max 1 m := by split <;> omega
    rw [hM]
    generalize hMM : max 1 m = M at q
    have hM1 : 1 ≤ M := by omega
    refine ⟨_, rfl, rfl, _, rfl, ite2 (fun e => ?_) (fun e => ?_)⟩
    · exact q H 0 (Keep.refl s H) ⟨zS, c, ns, p, r, sd, t, eS, nc, ec, hp, hr0, zc⟩ (by decide) (by omega)
    have hM2 : 1 < M := by
      rcases Int.lt_or_eq_of_le hM1 with h | h
      · exact h
      · exact absurd (by rw [← h]; rfl) e
    have up : ∀ (x0 x1 x2 x3 x4 : V), upd H s (.lst [x0, x1, x2, x3, x4]) s = some (.lst [x0, x1, x2, x3, x4]) := fun _ _ _ _ _ => upd_same
    have upc : ∀ o, upd H s o c = some (.lst (ns.map V.int)) := fun o => by rw [upd_ne nc]; exact ec
    refine ⟨_, rfl, s, _, 4, _, rfl, rfl, SqL.of eS, rfl, _, _, rfl, rfl, _, rfl, s, _, 4, 4, rfl, rfl, eS, rfl, ?_⟩
    show tSeq _ _ _ _ (upd H s (.lst [.ref c, .int p, .int r, .int sd, .int (t + 1)]))
    generalize eH1 : upd H s (.lst [.ref c, .int p, .int r, .int sd, .int (t + 1)]) = H1
    have eS1 : H1 s = some (.lst [.ref c, .int p, .int r, .int sd, .int (t + 1)]) := by rw [← eH1]; exact upd_same
    have ec1 : H1 c = some (.lst (ns.map V.int)) := by rw [← eH1]; exact upc _
    have k1 : Keep s H H1 := by rw [← eH1]; exact (Keep.refl s H).put eS hp hr0
    have qm : ∀ (H' : Hp) (x : Int), Keep s H1 H' → SO S s H' → Q (.int (x % M)) H' := fun H' x kk so => q H' _ (k1.trans kk) so (Int.emod_nonneg _ (by omega)) (Int.emod_lt_of_pos _ (by omega))
    -- what stands behind the first if
    have rest : ∀ (H' : Hp) (p' r' : Int) (y2 y3 : Option V), Keep s H1 H' → H' s = some (.lst [.ref c, .int p', .int r', .int sd, .int (t + 1)]) → H' c = some (.lst (ns.map V.int)) → 0 ≤ p' → 0 ≤ r' →
        (tSeq (tIfS (tTest (tOp (rI0 fun i j => .bl (decide (j < i))) (tOp (rIxL K) (tVar 0) (tC (.int 2))) (tC (.int 0))))
          (tSeq (tAsg (tOp (rI (fun _ j => 0 < j) fun i j => .int (i % j)) (tCB (fun xs H Q => (∃ i, xs = [V.int i] ∧ Q (V.int i) H) ∨ ∃ k, xs = [V.bl k] ∧ Q (V.int (if k = true then 1 else 0)) H) (tCons (tOp (rIxL K) (tVar 0) (tC (.int 2))) tNil)) (tVar 1)) (gName 3))
            (tSeq (tAsg (tOp (rI CDiv fun i j => .int (i / j)) (tOp (rIxL K) (tVar 0) (tC (.int 2))) (tVar 1)) (gSub (tVar 0) (tC (.int 2)) rSetL)) (tRet (tVar 3)))) tNext)
          (tRet (tOp (rI (fun _ j => 0 < j) fun i j => .int (i % j)) (tCB (fun xs H Q => (∃ i, xs = [V.int i] ∧ Q (V.int i) H) ∨ ∃ k, xs = [V.bl k] ∧ Q (V.int (if k = true then 1 else 0)) H) (tCons (tCall sp_law_mix [] E0 (tCons (tOp (rIxL K) (tVar 0) (tC (.int 3))) (tCons (tOp (rIxL K) (tVar 0) (tC (.int 4))) tNil))) tNil)) (tVar 1))))
          { nx := fun _ H' => Q .non H', rt := Q } [some (.ref s), some (.int M), y2, y3] H' := by
      intro H' p' r' y2 y3 kk eS' ec' hp' hr'
      refine ⟨_, rfl, s, _, 2, _, rfl, rfl, SqL.of eS', rfl, _, _, rfl, rfl, _, rfl, ite2 (fun h0 => ?_) (fun h0 => ?_)⟩
      · have h1 : 0 < r' := of_decide_eq_true h0
        refine ⟨_, rfl, s, _, 2, _, rfl, rfl, SqL.of eS', rfl, Or.inl ⟨_, rfl, _, rfl, _, _, rfl, rfl, (show (0 : Int) < M by omega), ?_⟩⟩
        refine ⟨_, rfl, s, _, 2, _, rfl, rfl, SqL.of eS', rfl, _, rfl, _, _, rfl, rfl, ⟨by omega, by omega⟩, _, rfl, s, _, 2, 2, rfl, rfl, eS', rfl, ?_⟩
        refine ⟨_, rfl, qm _ _ (kk.put eS' hp' (Int.ediv_nonneg hr' (by omega))) ⟨zS, c, ns, p', r' / M, sd, t + 1, upd_same, nc, by rw [upd_ne nc]; exact ec', hp', ?_, zc⟩⟩
        exact Int.ediv_nonneg hr' (by omega)
      · refine ⟨_, rfl, s, _, 3, _, rfl, rfl, SqL.of eS', rfl, _, rfl, s, _, 4, _, rfl, rfl, SqL.of eS', rfl, _, _, rfl, fun x => Or.inl ⟨x, rfl, _, rfl, _, _, rfl, rfl, (show (0 : Int) < M by omega), ?_⟩⟩
        exact qm _ _ kk ⟨zS, c, ns, p', r', sd, t + 1, eS', nc, ec', hp', hr', zc⟩
    refine ⟨_, rfl, s, _, 2, _, rfl, rfl, SqL.of eS1, rfl, rfl, _, rfl, ite2 (fun h2 => ?_) (fun h2 => ?_)⟩
    · refine ⟨_, rfl, s, _, 1, _, rfl, rfl, SqL.of eS1, rfl, _, rfl, s, _, 0, _, rfl, rfl, SqL.of eS1, rfl, c, _, rfl, .inl (SqL.of ec1), _, _, rfl, rfl, _, rfl, ite2 (fun h3 => ?_) (fun h3 => ?_)⟩
      · have h4 : p < ((ns.map V.int).length : Int) := of_decide_eq_true h3
        rw [List.length_map] at h4
        obtain ⟨j, rfl⟩ : ∃ j : Nat, p = (j : Int) := ⟨p.toNat, by omega⟩
        have hj : j < ns.length := by omega
        have hx : (ns.map V.int)[j]? = some (.int ns[j]) := by
          rw [List.getElem?_map, List.getElem?_eq_getElem hj]
          rfl
        refine ⟨_, rfl, s, _, 0, _, rfl, rfl, SqL.of eS1, rfl, _, rfl, s, _, 1, _, rfl, rfl, SqL.of eS1, rfl, c, _, _, _, rfl, rfl, SqL.of ec1, atI_nat hx, ?_⟩
        refine ⟨_, rfl, s, _, 1, _, rfl, rfl, SqL.of eS1, rfl, _, _, rfl, rfl, _, rfl, s, _, 1, 1, rfl, rfl, eS1, rfl, ?_⟩
        show tSeq _ _ _ _ (upd H1 s (.lst [.ref c, .int ((j : Int) + 1), .int r, .int sd, .int (t + 1)]))
        generalize eH2 : upd H1 s (.lst [.ref c, .int ((j : Int) + 1), .int r, .int sd, .int (t + 1)]) = H2
        have eS2 : H2 s = some (.lst [.ref c, .int ((j : Int) + 1), .int r, .int sd, .int (t + 1)]) := by rw [← eH2]; exact upd_same
        have ec2 : H2 c = some (.lst (ns.map V.int)) := by rw [← eH2, upd_ne nc]; exact ec1
        have k2 : Keep s H1 H2 := by rw [← eH2]; exact (Keep.refl s H1).put eS1 (by omega) hr0
        refine ⟨_, rfl, _, rfl, _, _, rfl, rfl, ⟨by decide, by decide, by decide⟩, _, _, rfl, rfl, _, rfl, ite2 (fun h5 => ?_) (fun h5 => ?_)⟩
        · refine ⟨_, rfl, _, rfl, s, _, 4, _, rfl, rfl, SqL.of eS2, rfl, _, _, rfl, fun x => Or.inl ⟨x, rfl, _, rfl, _, _, rfl, rfl, (show (0 : Int) < M by omega), ?_⟩⟩
          exact qm _ _ k2 ⟨zS, c, ns, (j : Int) + 1, r, sd, t + 1, eS2, nc, ec2, by omega, hr0, zc⟩
        · refine ⟨_, rfl, _, rfl, _, rfl, s, _, 2, 2, rfl, rfl, eS2, rfl, ?_⟩
          exact rest _ ((j : Int) + 1) _ _ _ (k2.put eS2 (by omega) (by split <;> omega)) upd_same (by rw [upd_ne nc]; exact ec2) (by omega) (by split <;> omega)
      · exact rest H1 p r none none (Keep.refl s H1) eS1 ec1 hp hr0
    · exact rest H1 p r none none (Keep.refl s H1) eS1 ec1 hp hr0


set_option maxHeartbeats 4000000 in
theorem ok_law_pick  (F : Fun K "_law_pick" "_law_pick" s_law_pick f fd) (T : Txt w K mg)
    (O_law_take : Own P w K mg base k "_law_take" ["store", "many"] (sp_law_take)) : FnOk P w K mg base CX0 (k + 1) f fd ["store", "things"] (sp_law_pick K) := by
  refine F.ok sc_law_pick (fun vs H Q E h => ?_) (fun cdv A outer s0 H vs Q E hr h => ?_)
  · obtain ⟨S, s, x, rfl, hS, q⟩ := h
    rfl
  · obtain ⟨S, s, x, rfl, hS, q⟩ := h
    refine ⟨_, (pss_one (ps_ret (pe_ix ix_seq (pv 1) (pe_own O_law_take hr (by rfl) (pa_cons (pv 0) (pa_cons (pe_callB (CallR.or call_len_seq call_len_str) (by rfl) T.len PySem.boot_len (pa_cons (pv 1) pa_nil)) pa_nil))) (fun _ _ => rfl)))), ?_⟩
    rcases q with ⟨a, xs, rfl, na, hA, hne, hle, q⟩ | ⟨z, rfl, h0, hle, q⟩
    · refine ⟨_, rfl, _, rfl, _, rfl, Or.inl ⟨a, xs, rfl, .inl hA, S, s, _, rfl, hS, by omega, fun H' r kk so r0 r1 => ?_⟩⟩
      have hl : 0 < xs.length := List.length_pos_iff.mpr hne
      obtain ⟨j, rfl⟩ : ∃ j : Nat, r = (j : Int) := ⟨r.toNat, by omega⟩
      have hj : j < xs.length := by omega
      exact Or.inl ⟨a, xs, _, _, rfl, rfl, kk.seq na hA, atI_nat (List.getElem?_eq_getElem hj), q H' _ kk so (List.getElem_mem hj)⟩
    · refine ⟨_, rfl, _, rfl, _, rfl, Or.inr ⟨z, rfl, line_le hle, S, s, _, rfl, hS, by omega, fun H' r kk so r0 r1 => ?_⟩⟩
      obtain ⟨j, rfl⟩ : ∃ j : Nat, r = (j : Int) := ⟨r.toNat, by omega⟩
      have hj : j < z.cps.toList.length := by
        have : z.length = z.cps.toList.length := rfl
        omega
      exact Or.inr (Or.inr ⟨z, _, _, rfl, rfl, line_le hle, atI_nat (List.getElem?_eq_getElem hj), q H' _ kk so (List.getElem_mem hj)⟩)


set_option maxHeartbeats 4000000 in
theorem ok_law_mixed  (F : Fun K "_law_mixed" "_law_mixed" s_law_mixed f fd) (T : Txt w K mg)
    (O_law_take : Own P w K mg base k "_law_take" ["store", "many"] (sp_law_take)) : FnOk P w K mg base CX0 (k + 1) f fd ["store", "things"] (sp_law_mixed) := by
  refine F.ok sc_law_mixed (fun vs H Q E h => ?_) (fun cdv A outer s0 H vs Q E hr h => ?_)
  · obtain ⟨S, s, x, ds, rfl, hS, hx, hl, q⟩ := h
    rfl
  · obtain ⟨S, s, x, ds, rfl, hS, hx, hl, q⟩ := h
    refine ⟨_, (pss_cons (ps_set (i := 2) sc_law_mixed.nd rfl (Or.inl rfl) (pe_own O_law_take hr (by rfl) (pa_cons (pv 0) (pa_cons pe_int pa_nil))))
      (pss_cons (ps_set (i := 3) sc_law_mixed.nd rfl (Or.inl rfl) (pe_callTy call_list_of (by rfl) T.list (by decide +kernel) (pa_cons (pv 1) pa_nil)))
      (pss_cons (ps_if (pt_cmpR op_eq (pv 2) pe_int (nomark _))
        (pss_one (ps_ret (pv 3)))
        pss_nil)
      (pss_cons (ps_if (pt_cmpR op_eq (pv 2) pe_int (nomark _))
        (pss_one (ps_ret (pe_revL (pv 3))))
        pss_nil)
      (pss_cons (ps_set (i := 4) sc_law_mixed.nd rfl (Or.inl rfl) (pe_lst pa_nil))
      (pss_cons (ps_for PassesOwn.never rfl (pi_range1 (by rfl) T.range (pa_cons (pe_callB call_len_seq (by rfl) T.len PySem.boot_len (pa_cons (pv 1) pa_nil)) pa_nil)) (pg_name (i := 5) sc_law_mixed.nd rfl (Or.inl rfl))
        (pss_one (ps_expr (pe_bm PySem.F.plainAttrs_list PySem.F.slot_list_append PySem.F.type_list_append mt_append (pv 4) (pa_cons (pe_bm PySem.F.plainAttrs_list PySem.F.slot_list_pop PySem.F.type_list_pop mt_popAt (pv 3) (pa_cons (pe_own O_law_take hr (by rfl) (pa_cons (pv 0) (pa_cons (pe_callB call_len_seq (by rfl) T.len PySem.boot_len (pa_cons (pv 3) pa_nil)) pa_nil))) pa_nil)) pa_nil)))))
      (pss_one (ps_ret (pv 4))))))))), ?_⟩
    obtain ⟨a, xs, rfl, na, ea, hA⟩ := hx.list
    have nas : a ≠ s := fun z => na (z ▸ hS.at_)
    have sz : 1000 < sizeLine := by decide
    have lx : xs.length = ds.length := hA.length
    refine ⟨_, rfl, S, s, _, rfl, hS.so, by decide, fun H1 how k1 so1 _ _ => ?_⟩
    have S1 := hS.keep k1 so1
    have ea1 := k1 _ _ nas ea
    refine ⟨_, rfl, a, xs, rfl, .inl (.of ea1), fun D nD => ?_⟩
    obtain ⟨H2, e2, S2, k2, sm2, h2, f2, nDs⟩ := fresh (.lst xs) S1 k1 nD
    rw [e2]
    clear e2
    have hA2 : DaAll S H2 xs ds := (hA.keep k1 hS.at_).same sm2
    refine ⟨_, rfl, rfl, _, rfl, ite2 (fun _ => ⟨_, rfl, q H2 _ ds k2 S2.so (.refl _) (.lst f2 h2 hA2) ⟨D, rfl, k1.free nDs nD⟩⟩) fun _ => ?_⟩
    refine ⟨_, rfl, rfl, _, rfl, ite2 (fun _ => ⟨_, rfl, D, xs, rfl, .of h2, fun R nR => ?_⟩) fun _ => ?_⟩
    · obtain ⟨H3, e3, S3, k3, sm3, h3, f3, nRs⟩ := fresh (.lst xs.reverse) S2 k2 nR
      rw [e3]
      exact q H3 _ ds.reverse k3 S3.so (List.reverse_perm ds) (.lst f3 h3 (hA2.same sm3).reverse) ⟨R, rfl, k2.free nRs nR⟩
    refine ⟨(by show 0 ≤ sizeLine; decide), fun O nO => ?_⟩
    have nDO : D ≠ O := fun e => by rw [← e, h2] at nO; cases nO
    obtain ⟨H3, e3, S3, k3, sm3, h3, f3, nOs⟩ := fresh (.lst []) S2 k2 nO
    rw [e3]
    clear e3
    have S3' : SS (addA (addA S D) O) s H3 := (S3.add (sm3 _ _ h2)).add h3
    have ea3 := k3 _ _ nas ea
    refine ⟨_, rfl, a, xs, rfl, .inl (.of ea3), _, rfl, by omega, by omega, ?_⟩
    have nD0 : H1 D = none := nD
    have hA3 : DaAll (addA (addA S D) O) H3 xs ds := (((hA.keep k1 hS.at_).more nD).same sm2 |>.more nO).same sm3
    refine for_range (n := xs.length) (fun i σ H' => Keep s H H' ∧ SO S s H' ∧ ∃ (le ou : List V) (de do_ : List PyData) (t : Option V), σ = [some (.ref s), some (.ref a), some (.int how), some (.ref D), some (.ref O), t] ∧ H' D = some (.lst le) ∧ H' O = some (.lst ou) ∧ H' a = some (.lst xs) ∧
        DaAll (addA (addA S D) O) H' le de ∧ DaAll (addA (addA S D) O) H' ou do_ ∧ (do_ ++ de).Perm ds ∧ do_.length = i) ⟨k3, S3.so, xs, [], ds, [], _, rfl, sm3 _ _ h2, h3, ea3, hA3, .nil, .refl _, rfl⟩ ?_ ?_
    · rintro i σ H4 hi ⟨k4, so4, le, ou, de, do_, t, rfl, eD, eO, ea4, hle, hou, hp, hi2⟩
      have hlen := hp.length_eq
      rw [List.length_append] at hlen
      have l1 : le.length = de.length := hle.length
      have l2 : ou.length = do_.length := hou.length
      refine ⟨_, rfl, .inl ⟨rfl, _, .of eO⟩, _, rfl, .inl ⟨rfl, _, .of eD⟩, _, rfl, _, rfl, D, le, rfl, (.inl (.of eD)), S, s, _, rfl, so4, by omega, fun H5 r k5 so5 r0 r1 => ?_⟩
      obtain ⟨j, rfl⟩ : ∃ j : Nat, r = (j : Int) := ⟨r.toNat, by omega⟩
      have hj : j < le.length := by omega
      have eD5 := k5 _ _ nDs eD
      have eO5 := k5 _ _ nOs eO
      have hat : addA (addA S D) O s := .inl (.inl hS.at_)
      have hle5 := hle.keep k5 hat
      have hou5 := hou.keep k5 hat
      refine ⟨D, le, _, j, le[j], rfl, rfl, eD5, by omega, by omega, ix_some hj, List.getElem?_eq_getElem hj, ?_⟩
      obtain ⟨dj, edj, hdj⟩ := hle5.get (List.getElem?_eq_getElem hj)
      refine ⟨O, ou, le[j], rfl, rfl, by rw [upd_ne nDO.symm]; exact eO5, by omega, ?_⟩
      have nD0 : H D = none := k1.free nDs nD
      have nO0 : H O = none := k2.free nOs nO
      have wr : ∀ {vs : List V} {es : List PyData} (u w : HO), DaAll (addA (addA S D) O) H5 vs es → DaAll (addA (addA S D) O) (upd (upd H5 D u) O w) vs es := fun u w h => h.go fun b o n e => ⟨n, by rw [upd_ne (fun z => n (.inr z)), upd_ne (fun z => n (.inl (.inr z)))]; exact e⟩
      refine ⟨((k4.trans k5).new nD0).new nO0, (so5.put f2).put f3, _, _, de.eraseIdx j, do_ ++ [dj], _, rfl, by rw [upd_ne nDO]; exact upd_same, upd_same, ?_, wr _ _ (hle5.erase j), wr _ _ (hou5.app (.one hdj)), ?_, by rw [List.length_append, hi2]; rfl⟩
      · rw [upd_ne (fun z => by rw [z, nO0] at ea; cases ea), upd_ne (fun z => by rw [z, nD0] at ea; cases ea)]
        exact k5 _ _ nas ea4
      · refine List.Perm.trans ?_ hp
        rw [List.append_assoc]
        exact (List.Perm.append_left _ (perm_eraseIdx edj).symm)
    rintro σ H4 ⟨k4, so4, le, ou, de, do_, t, rfl, eD, eO, ea4, hle, hou, hp, hi2⟩
    have hlen := hp.length_eq
    rw [List.length_append] at hlen
    have : de = [] := List.length_eq_zero_iff.mp (by omega)
    subst this
    rw [List.append_nil] at hp
    exact ⟨_, rfl, q H4 _ do_ k4 (k4.so S hS.so) hp (.lst f3 eO hou.less.less) ⟨O, rfl, k2.free nOs nO⟩⟩


set_option maxHeartbeats 4000000 in
theorem ok_law_number  (F : Fun K "_law_number" "_law_number" s_law_number f fd) (T : Txt w K mg)
    (O_law_take : Own P w K mg base k "_law_take" ["store", "many"] (sp_law_take))
    (O_law_pick : Own P w K mg base k "_law_pick" ["store", "things"] (sp_law_pick K)) : FnOk P w K mg base CX0 (k + 1) f fd ["store"] (sp_law_number) := by
  refine F.ok sc_law_number (fun vs H Q E h => ?_) (fun cdv A outer s0 H vs Q E hr h => ?_)
  · obtain ⟨S, s, rfl, hS, q⟩ := h
    rfl
  · obtain ⟨S, s, rfl, hS, q⟩ := h
    refine ⟨_, (pss_cons (ps_set (i := 1) sc_law_number.nd rfl (Or.inl rfl) (pe_own O_law_take hr (by rfl) (pa_cons (pv 0) (pa_cons pe_int pa_nil))))
      (pss_cons (ps_if (pt_cmpR op_eq (pv 1) pe_int (nomark _))
        (pss_one (ps_ret (pe_own O_law_pick hr (by rfl) (pa_cons (pv 0) (pa_cons (pe_lst (pa_cons pe_int (pa_cons pe_int (pa_cons (pe_un un_neg pe_int) (pa_cons pe_int (pa_cons pe_int (pa_cons pe_int (pa_cons (pe_un un_neg pe_int) pa_nil)))))))) pa_nil)))))
        pss_nil)
      (pss_cons (ps_if (pt_cmpR op_eq (pv 1) pe_int (nomark _))
        (pss_one (ps_ret (pe_own O_law_pick hr (by rfl) (pa_cons (pv 0) (pa_cons (pe_lst (pa_cons (pe_op op_sub (pe_op op_pow pe_int pe_int) pe_int) (pa_cons (pe_op op_sub pe_int (pe_op op_pow pe_int pe_int)) (pa_cons (pe_op op_pow pe_int pe_int) (pa_cons pe_int (pa_cons pe_int (pa_cons (pe_un un_neg pe_int) pa_nil))))))) pa_nil)))))
        pss_nil)
      (pss_cons (ps_if (pt_cmpR op_eq (pv 1) pe_int (nomark _))
        (pss_one (ps_ret (pe_op op_sub (pe_own O_law_take hr (by rfl) (pa_cons (pv 0) (pa_cons pe_int pa_nil))) pe_int)))
        pss_nil)
      (pss_cons (ps_set (i := 2) sc_law_number.nd rfl (Or.inl rfl) pe_int)
      (pss_cons (ps_for PassesOwn.never rfl (pi_range1 (by rfl) T.range (pa_cons (pe_op op_add pe_int (pe_own O_law_take hr (by rfl) (pa_cons (pv 0) (pa_cons pe_int pa_nil)))) pa_nil)) (pg_name (i := 3) sc_law_number.nd rfl (Or.inl rfl))
        (pss_one (ps_set (i := 2) sc_law_number.nd rfl (Or.inl rfl) (pe_op op_add (pe_op op_mul (pv 2) (pe_op op_pow pe_int pe_int)) (pe_own O_law_take hr (by rfl) (pa_cons (pv 0) (pa_cons (pe_op op_pow pe_int pe_int) pa_nil)))))))
      (pss_cons (ps_if (pt_cmpR op_eq (pv 1) pe_int (nomark _))
        (pss_one (ps_ret (pe_op op_sub pe_int (pv 2))))
        pss_nil)
      (pss_one (ps_ret (pv 2)))))))))), ?_⟩
    walk_at "go"
    intro H1 how k1 so1 h0 h1
    walk_at "go"
    refine ite2 (fun _ => ?_) (fun _ => ?_)
    · walk_at "go"
      intro p np
      refine pick_list so1 np (by simp) (by simp) (fun H2 v k2 _ so2 hv => ?_)
      obtain ⟨n, rfl⟩ : ∃ n, v = V.int n := by
        simp only [List.mem_cons, List.not_mem_nil, or_false] at hv
        rcases hv with rfl | rfl | rfl | rfl | rfl | rfl | rfl <;> exact ⟨_, rfl⟩
      exact q H2 n (k1.trans k2) so2
    walk_at "go"
    refine ite2 (fun _ => ?_) (fun _ => ?_)
    · walk_at "go"
      intro p np
      refine pick_list so1 np (by simp) (by simp) (fun H2 v k2 _ so2 hv => ?_)
      obtain ⟨n, rfl⟩ : ∃ n, v = V.int n := by
        simp only [List.mem_cons, List.not_mem_nil, or_false] at hv
        rcases hv with rfl | rfl | rfl | rfl | rfl | rfl <;> exact ⟨_, rfl⟩
      exact q H2 n (k1.trans k2) so2
    walk_at "go"
    refine ite2 (fun _ => ?_) (fun _ => ?_)
    · walk_at "go"
      intro H2 r k2 so2 _ _
      walk_at "go"
      exact q H2 _ (k1.trans k2) so2
    walk_at "go"
    intro H2 r k2 so2 r0 r1
    refine ⟨_, _, rfl, rfl, _, rfl, by omega, by omega, for_range (n := (1 + r).toNat) (fun i σ H' => Keep s H H' ∧ SO S s H' ∧ ∃ num t, σ = [some (.ref s), some (.int how), some (.int num), t]) ⟨k1.trans k2, so2, _, _, rfl⟩ ?_ ?_⟩
    · rintro i σ H3 _ ⟨k3, so3, num, t, rfl⟩
      walk_at "go"
      intro H4 r4 k4 so4 _ _
      walk_at "go"
      exact k3.trans k4
    rintro σ H3 ⟨k3, so3, num, t, rfl⟩
    walk_at "go"
    refine ite2 (fun _ => ?_) (fun _ => ?_)
    · walk_at "go"
      exact q H3 _ k3 so3
    walk_at "go"
    exact q H3 _ k3 so3


set_option maxHeartbeats 4000000 in
theorem ok_law_same {n : Nat} (F : Fun K "_law_same" "_law_same" s_law_same f fd) (T : Txt w K mg)
    (O_law_same : Own P w K mg base k "_law_same" ["given", "due"] (sp_law_same n)) : FnOk P w K mg base CX0 (k + 1) f fd ["given", "due"] (sp_law_same (n + 1)) := by
  refine F.ok sc_law_same (fun vs H Q E h => ?_) (fun cdv A outer s0 H vs Q E hr h => ?_)
  · obtain ⟨S, x, y, d, e, L, m, rfl, hS, hd, he, hD, hm, hL, q⟩ := h
    rfl
  · obtain ⟨S, x, y, d, e, L, m, rfl, hS, hd, he, hD, hm, hL, q⟩ := h
    refine ⟨_, (pss_cons (ps_if (pt_val (pe_callB call_isLT (by rfl) T.isinstance (by decide +kernel) (pa_cons (pv 1) (pa_cons (pe_tup (pa_cons (pe_bltn (v := .ty "list") (by rfl) T.list (by decide +kernel) rfl) (pa_cons (pe_bltn (v := .ty "tuple") (by rfl) T.tuple (by decide +kernel) rfl) pa_nil))) pa_nil))))
        (C8.pss_cut (ps_if (PW.pt (pw_and (pt_val (pe_callB call_isD (by rfl) T.isinstance (by decide +kernel) (pa_cons (pv 1) (pa_cons (pe_bltn (v := .ty "list") (by rfl) T.list (by decide +kernel) rfl) pa_nil)))) (pw_and1 (pt_not (pt_val (pe_callB call_isD (by rfl) T.isinstance (by decide +kernel) (pa_cons (pv 0) (pa_cons (pe_bltn (v := .ty "list") (by rfl) T.list (by decide +kernel) rfl) pa_nil))))))))
          (pss_one (ps_ret pe_bl))
          pss_nil)
        (C8.pss_cut (ps_if (PW.pt (pw_and (pt_val (pe_callB call_isD (by rfl) T.isinstance (by decide +kernel) (pa_cons (pv 1) (pa_cons (pe_bltn (v := .ty "tuple") (by rfl) T.tuple (by decide +kernel) rfl) pa_nil)))) (pw_and1 (pt_not (pt_val (pe_callB call_isD (by rfl) T.isinstance (by decide +kernel) (pa_cons (pv 0) (pa_cons (pe_bltn (v := .ty "tuple") (by rfl) T.tuple (by decide +kernel) rfl) pa_nil))))))))
          (pss_one (ps_ret pe_bl))
          pss_nil)
        (pss_cons (ps_if (pt_cmpR op_ne (pe_callB call_len_seq (by rfl) T.len PySem.boot_len (pa_cons (pv 0) pa_nil)) (pe_callB call_len_seq (by rfl) T.len PySem.boot_len (pa_cons (pv 1) pa_nil)) (nomark _))
          (pss_one (ps_ret pe_bl))
          pss_nil)
        (pss_cons (ps_for PassesOwn.never rfl (pi_range1 (by rfl) T.range (pa_cons (pe_callB call_len_seq (by rfl) T.len PySem.boot_len (pa_cons (pv 1) pa_nil)) pa_nil)) (pg_name (i := 2) sc_law_same.nd rfl (Or.inl rfl))
          (pss_one (ps_if (pt_not (pt_val (pe_own O_law_same hr (by rfl) (pa_cons (pe_ix ix_seq (pv 0) (pv 2) (fun _ _ => rfl)) (pa_cons (pe_ix ix_seq (pv 1) (pv 2) (fun _ _ => rfl)) pa_nil)))))
            (pss_one (ps_ret pe_bl))
            pss_nil)))
        (pss_one (ps_ret pe_bl))))))
        pss_nil)
      (pss_cons (ps_if (pt_cmpR op_isN (pv 1) pe_non (nomark _))
        (pss_one (ps_ret (pe_cmpR op_isN (pv 0) pe_non (nomark _))))
        pss_nil)
      (pss_cons (ps_if (pt_cmpR op_isB (pv 1) pe_bl (nomark _))
        (pss_one (ps_ret (pe_cmpR op_isB (pv 0) pe_bl (nomark _))))
        pss_nil)
      (pss_cons (ps_if (pt_cmpR op_isB (pv 1) pe_bl (nomark _))
        (pss_one (ps_ret (pe_cmpR op_isB (pv 0) pe_bl (nomark _))))
        pss_nil)
      (pss_cons (ps_if (pt_val (pe_callB call_isD (by rfl) T.isinstance (by decide +kernel) (pa_cons (pv 1) (pa_cons (pe_bltn (v := .ty "int") (by rfl) T.int (by decide +kernel) rfl) pa_nil))))
        (pss_one (ps_ret (pe_and (pe_callB call_isD (by rfl) T.isinstance (by decide +kernel) (pa_cons (pv 0) (pa_cons (pe_bltn (v := .ty "int") (by rfl) T.int (by decide +kernel) rfl) pa_nil))) (pe_and (pe_not (pe_callB call_isD (by rfl) T.isinstance (by decide +kernel) (pa_cons (pv 0) (pa_cons (pe_bltn (v := .ty "bool") (by rfl) T.bool (by decide +kernel) rfl) pa_nil)))) (pe_one (pe_cmpR op_eq (pv 0) (pv 1) (nomark _)))))))
        pss_nil)
      (pss_one (ps_ret (pe_and (pe_callB call_isD (by rfl) T.isinstance (by decide +kernel) (pa_cons (pv 0) (pa_cons (pe_bltn (v := .ty "str") (by rfl) T.str (by decide +kernel) rfl) pa_nil))) (pe_one (pe_cmpR op_eq (pv 0) (pv 1) (nomark _))))))))))), ?_⟩
    refine ⟨_, rfl, ?_⟩
    walk_at "go"
    intro tp ntp
    have sm1 : Same H (upd H tp (.tup [.ty "list", .ty "tuple"])) := same_new (Same.refl H) ntp
    refine ⟨y, tp, S, e, rfl, upd_same, he.same sm1, ?_⟩
    generalize upd H tp (.tup [.ty "list", .ty "tuple"]) = H1 at sm1
    have qB : ∀ (H' : Hp) (b : Bool), Same H1 H' → (b = true ↔ d = e) → Q (.bl b) H' := fun H' b k h => q H' b (sm1.trans k) h
    have qF : ∀ H', Same H1 H' → d ≠ e → Q (.bl false) H' := fun H' k ne => qB H' false k ⟨fun z => (nomatch z), fun z => absurd z ne⟩
    have hS1 := hS.same sm1
    have hd1 := hd.same sm1
    have he1 := he.same sm1
    clear hd he hS sm1 ntp
    refine ⟨_, rfl, ite2 (fun h => ?_) (fun h => ?_)⟩
    · refine ⟨fun σ' H' => σ' = [some x, some y, none] ∧ H' = H1 ∧ (isD "list" e = true → isD "list" d = true), ?_, ?_⟩
      · refine ⟨_, rfl, y, "list", S, e, rfl, rfl, he1, _, rfl, ite2 (fun h1 => ?_) (fun h1 => ?_)⟩
        · refine ⟨_, rfl, x, "list", S, d, rfl, rfl, hd1, _, rfl, ?_⟩
          cases h2 : isD "list" d with
          | true => exact ⟨rfl, rfl, fun _ => rfl⟩
          | false => exact qF _ (Same.refl _) (by rintro rfl; rw [h1] at h2; cases h2)
        · exact ⟨rfl, rfl, fun z => absurd z h1⟩
      rintro σ' H' ⟨rfl, rfl, hl⟩
      refine ⟨fun σ' H'' => σ' = [some x, some y, none] ∧ H'' = H' ∧ (isD "tuple" e = true → isD "tuple" d = true), ?_, ?_⟩
      · refine ⟨_, rfl, y, "tuple", S, e, rfl, rfl, he1, _, rfl, ite2 (fun h1 => ?_) (fun h1 => ?_)⟩
        · refine ⟨_, rfl, x, "tuple", S, d, rfl, rfl, hd1, _, rfl, ?_⟩
          cases h2 : isD "tuple" d with
          | true => exact ⟨rfl, rfl, fun _ => rfl⟩
          | false => exact qF _ (Same.refl _) (by rintro rfl; rw [h1] at h2; cases h2)
        · exact ⟨rfl, rfl, fun z => absurd z h1⟩
      rintro σ' H1 ⟨rfl, rfl, ht⟩
      obtain ⟨a, c, xs, ys, ds, es, m', rfl, rfl, ha, hc, hxs, hys, hel, rfl, hu, heq⟩ := rows_of (K := K) h hl ht hd1 he1 hD
      refine ⟨_, rfl, a, xs, rfl, ha _ (Same.refl _), _, rfl, c, ys, rfl, hc _ (Same.refl _), rfl, _, rfl, ?_⟩
      have lx := hxs.length
      have ly := hys.length
      by_cases hne : V.int (xs.length : Int) = V.int (ys.length : Int)
      case neg =>
        rw [decide_eq_false hne]
        exact qF _ (Same.refl _) fun z => hne (by rw [lx, ly, heq.mp z])
      rw [decide_eq_true hne]
      have hl : ds.length = es.length := by
        have := V.int.inj hne
        omega
      refine ⟨_, rfl, c, ys, rfl, hc _ (Same.refl _), _, rfl, by omega, by omega, for_range (n := (ys.length : Int).toNat) (fun i σ H' => Same H1 H' ∧ (∃ z, σ = [some (.ref a), some (.ref c), z]) ∧ ∀ j, j < i → ds[j]? = es[j]?) ⟨Same.refl _, ⟨_, rfl⟩, fun j hj => absurd hj (Nat.not_lt_zero _)⟩ ?_ ?_⟩
      · rintro i σ H2 hi ⟨sm2, ⟨z, rfl⟩, hall⟩
        have hi2 : i < ys.length := by omega
        have hi1 : i < xs.length := by omega
        obtain ⟨di, edi, hdi⟩ := hxs.get (List.getElem?_eq_getElem hi1)
        obtain ⟨ei, eei, hei⟩ := hys.get (List.getElem?_eq_getElem hi2)
        refine ⟨_, rfl, _, rfl, ix_row (ha _ sm2) (List.getElem?_eq_getElem hi1) ?_⟩
        refine ⟨_, rfl, _, rfl, ix_row (hc _ sm2) (List.getElem?_eq_getElem hi2) ?_⟩
        refine ⟨S, _, _, di, ei, L, m', rfl, hS1.same sm2, hdi.same sm2, hei.same sm2, hu ei (List.mem_of_getElem? eei), by omega, hL, fun H3 b sm3 hb => ⟨_, rfl, ?_⟩⟩
        cases b with
        | false =>
          refine qF _ (sm2.trans sm3) fun zz => ?_
          have e1 := heq.mp zz
          rw [e1, eei] at edi
          exact nomatch hb.mpr (Option.some.inj edi).symm
        | true =>
          refine ⟨sm2.trans sm3, ⟨_, rfl⟩, fun j hj => ?_⟩
          by_cases ej : j = i
          · rw [ej, edi, eei, hb.mp rfl]
          · exact hall j (by omega)
      · rintro σ H2 ⟨sm2, ⟨z, rfl⟩, hall⟩
        exact qB _ true sm2 ⟨fun _ => heq.mpr (ext_upto hl fun j hj => hall j (by omega)), fun _ => rfl⟩
    refine ⟨_, rfl, rfl, _, rfl, ?_⟩
    cases he1 with
    | @lst c ys es nc ec re => exact absurd rfl h
    | @tup c ys es nc ec re => exact absurd rfl h
    | non =>
      refine ⟨_, rfl, rfl, qB _ _ (Same.refl _) ?_⟩
      cases hd1 <;> simp
    | bl b =>
      refine ⟨_, rfl, _, rfl, _, rfl, ?_⟩
      cases b with
      | true =>
        refine ⟨_, rfl, _, rfl, qB _ _ (Same.refl _) ?_⟩
        cases hd1 <;> simp
      | false =>
        refine ⟨_, rfl, _, rfl, _, rfl, ?_⟩
        refine ⟨_, rfl, _, rfl, qB _ _ (Same.refl _) ?_⟩
        cases hd1 <;> simp
    | int i =>
      refine ⟨_, rfl, _, rfl, _, rfl, ?_⟩
      refine ⟨_, rfl, _, rfl, _, rfl, ?_⟩
      refine ⟨_, rfl, _, "int", S, _, rfl, rfl, .int i, _, rfl, ?_⟩
      refine ⟨_, rfl, _, "int", S, d, rfl, rfl, hd1, _, rfl, ?_⟩
      cases hd1 with
      | int j =>
        refine ⟨_, rfl, _, "bool", S, _, rfl, rfl, .int j, _, rfl, _, rfl, ?_⟩
        refine ⟨_, rfl, _, rfl, rfl, qB _ _ (Same.refl _) ?_⟩
        simp
      | bl b =>
        refine ⟨_, rfl, _, "bool", S, _, rfl, rfl, .bl b, _, rfl, _, rfl, ?_⟩
        exact qF _ (Same.refl _) (fun z => nomatch z)
      | _ => exact qF _ (Same.refl _) (fun z => nomatch z)
    | str z =>
      refine ⟨_, rfl, _, rfl, _, rfl, ?_⟩
      refine ⟨_, rfl, _, rfl, _, rfl, ?_⟩
      refine ⟨_, rfl, _, "int", S, _, rfl, rfl, .str z, _, rfl, ?_⟩
      refine ⟨_, rfl, _, "str", S, d, rfl, rfl, hd1, _, rfl, ?_⟩
      cases hd1 with
      | str z2 =>
        refine ⟨_, rfl, _, rfl, rfl, qB _ _ (Same.refl _) ?_⟩
        simp
      | _ => exact qF _ (Same.refl _) (fun z => nomatch z)


set_option maxHeartbeats 4000000 in
theorem ok_law_copy {n : Nat} (F : Fun K "_law_copy" "_law_copy" s_law_copy f fd) (T : Txt w K mg)
    (O_law_copy : Own P w K mg base k "_law_copy" ["value"] (sp_law_copy n)) : FnOk P w K mg base CX0 (k + 1) f fd ["value"] (sp_law_copy (n + 1)) := by
  refine F.ok sc_law_copy (fun vs H Q E h => ?_) (fun cdv A outer s0 H vs Q E hr h => ?_)
  · obtain ⟨S, x, d, L, m, rfl, hS, hd, hD, hm, hL, q⟩ := h
    rfl
  · obtain ⟨S, x, d, L, m, rfl, hS, hd, hD, hm, hL, q⟩ := h
    refine ⟨_, (pss_cons (ps_if (pt_val (pe_callB call_isD (by rfl) T.isinstance (by decide +kernel) (pa_cons (pv 0) (pa_cons (pe_bltn (v := .ty "list") (by rfl) T.list (by decide +kernel) rfl) pa_nil))))
        (pss_one (ps_ret (pe_lc (own := [("part", 1)]) (by rfl) sc_law_copy.nd (pi_list (pv 0)) (blkOk_by (own := [("part", 1)]) (N := ["value", "part"]) (sc := defScope s_law_copy) (by decide +kernel)) (fun _ _ _ _ _ => pg_name (i := 1) sc_law_copy.nd rfl (Or.inl rfl)) (fun _ _ _ _ _ => pts_nil) (fun _ _ _ _ _ => (pe_own O_law_copy hr (by rfl) (pa_cons (pv 1) pa_nil))))))
        pss_nil)
      (pss_cons (ps_if (pt_val (pe_callB call_isD (by rfl) T.isinstance (by decide +kernel) (pa_cons (pv 0) (pa_cons (pe_bltn (v := .ty "tuple") (by rfl) T.tuple (by decide +kernel) rfl) pa_nil))))
        (pss_one (ps_ret (pe_tupleOf (by rfl) T.tuple (pe_lc (own := [("part", 1)]) (by rfl) sc_law_copy.nd (pi_tup (pv 0)) (blkOk_by (own := [("part", 1)]) (N := ["value", "part"]) (sc := defScope s_law_copy) (by decide +kernel)) (fun _ _ _ _ _ => pg_name (i := 1) sc_law_copy.nd rfl (Or.inl rfl)) (fun _ _ _ _ _ => pts_nil) (fun _ _ _ _ _ => (pe_own O_law_copy hr (by rfl) (pa_cons (pv 1) pa_nil)))))))
        pss_nil)
      (pss_one (ps_ret (pv 0))))), ?_⟩
    refine ⟨_, rfl, ?_⟩
    refine ⟨x, "list", S, d, rfl, rfl, hd, ?_⟩
    refine ⟨_, rfl, ite2 (fun h => ?_) (fun _ => ?_)⟩
    · obtain ⟨ds, rfl⟩ := isD_list h
      cases hd with
      | @lst a xs _ na ea r =>
      cases hD with
      | @lst m _ hl hds =>
      refine ⟨_, rfl, a, rfl, ⟨_, SqL.of ea⟩, fun D nD => ?_⟩
      have nSD : ¬ S D := hS.free nD
      have hx : xs.length = ds.length := r.length
      refine lc_list (K := K) (a := a) (xs := xs) (fun i H' => Same H H' ∧ ∃ acc, H' D = some (.lst acc) ∧ DaAll (addA S D) H' acc (ds.take i)) ⟨same_new (Same.refl H) nD, _, upd_same, .nil⟩ (fun i H' _ hp => SqL.of (hp.1 _ _ ea)) ?_ ?_
      · rintro i x H' hi ⟨sm, acc, eD, hacc⟩
        obtain ⟨e, he, hde⟩ := r.get hi
        refine ⟨rfl, ?_⟩
        refine ⟨_, rfl, addA S D, x, e, L, m, rfl, (hS.same sm).add eD, (hde.more nD).same sm, hds e (List.mem_of_getElem? he), by omega, hL, fun H2 v sm2 hv => ?_⟩
        refine ⟨acc, sm2 _ _ eD, ?_, fun b o eb => ?_, _, upd_same, ?_⟩
        · rw [hacc.length]
          exact line_lt (by rw [List.length_take]; omega)
        · rw [upd_ne (ne_of_none eb nD)]
          exact sm2 _ _ (sm _ _ eb)
        · rw [← take_snoc he]
          exact ((hacc.same sm2).app (.one hv)).at
      · rintro H' ⟨sm, acc, eD, hacc⟩
        rw [hx, List.take_length] at hacc
        exact q H' _ sm (.lst nSD eD hacc.less)
    refine ⟨_, rfl, ?_⟩
    refine ⟨x, "tuple", S, d, rfl, rfl, hd, ?_⟩
    refine ⟨_, rfl, ite2 (fun h => ?_) (fun _ => ?_)⟩
    · obtain ⟨ds, rfl⟩ := isD_tuple h
      cases hd with
      | @tup a xs _ na ea r =>
      cases hD with
      | @tup m _ hl hds =>
      refine ⟨_, rfl, a, rfl, ⟨_, SqT.of ea⟩, fun D nD => ?_⟩
      have nSD : ¬ S D := hS.free nD
      have hx : xs.length = ds.length := r.length
      refine lc_tup (K := K) (a := a) (xs := xs) (fun i H' => Same H H' ∧ ∃ acc, H' D = some (.lst acc) ∧ DaAll (addA S D) H' acc (ds.take i)) ⟨same_new (Same.refl H) nD, _, upd_same, .nil⟩ (fun i H' _ hp => SqT.of (hp.1 _ _ ea)) ?_ ?_
      · rintro i x H' hi ⟨sm, acc, eD, hacc⟩
        obtain ⟨e, he, hde⟩ := r.get hi
        refine ⟨rfl, ?_⟩
        refine ⟨_, rfl, addA S D, x, e, L, m, rfl, (hS.same sm).add eD, (hde.more nD).same sm, hds e (List.mem_of_getElem? he), by omega, hL, fun H2 v sm2 hv => ?_⟩
        refine ⟨acc, sm2 _ _ eD, ?_, fun b o eb => ?_, _, upd_same, ?_⟩
        · rw [hacc.length]
          exact line_lt (by rw [List.length_take]; omega)
        · rw [upd_ne (ne_of_none eb nD)]
          exact sm2 _ _ (sm _ _ eb)
        · rw [← take_snoc he]
          exact ((hacc.same sm2).app (.one hv)).at
      · rintro H' ⟨sm, acc, eD, hacc⟩
        rw [hx, List.take_length] at hacc
        refine .inl ⟨D, acc, rfl, SqL.of eD, fun p np => ?_⟩
        exact q _ _ (same_new sm (sm.free np)) (.tup ((hS.same sm).free np) upd_same (hacc.less.new np))
    refine ⟨_, rfl, q H x (Same.refl H) hd⟩


set_option maxHeartbeats 4000000 in
theorem ok_law_whole  (F : Fun K "_law_whole" "_law_whole" s_law_whole f fd) (T : Txt w K mg) : FnOk P w K mg base CX0 (k + 1) f fd ["value"] (sp_law_whole) := by
  refine F.ok sc_law_whole (fun vs H Q E h => ?_) (fun cdv A outer s0 H vs Q E hr h => ?_)
  · obtain ⟨S, x, d, rfl, hd, q⟩ := h
    rfl
  · obtain ⟨S, x, d, rfl, hd, q⟩ := h
    refine ⟨_, (pss_one (ps_ret (pe_and (pe_callB call_isD (by rfl) T.isinstance (by decide +kernel) (pa_cons (pv 0) (pa_cons (pe_bltn (v := .ty "int") (by rfl) T.int (by decide +kernel) rfl) pa_nil))) (pe_one (pe_not (pe_callB call_isD (by rfl) T.isinstance (by decide +kernel) (pa_cons (pv 0) (pa_cons (pe_bltn (v := .ty "bool") (by rfl) T.bool (by decide +kernel) rfl) pa_nil)))))))), ?_⟩
    refine ⟨_, rfl, x, "int", S, d, rfl, rfl, hd, ?_⟩
    cases d <;> first | exact ⟨_, rfl, _, rfl, x, "bool", S, _, rfl, rfl, hd, _, rfl, q⟩ | exact ⟨_, rfl, q⟩


set_option maxHeartbeats 4000000 in
theorem ok_law_sign  (F : Fun K "_law_sign" "_law_sign" s_law_sign f fd) (T : Txt w K mg)
    (O_law_pick : Own P w K mg base k "_law_pick" ["store", "things"] (sp_law_pick K)) : FnOk P w K mg base CX0 (k + 1) f fd ["store"] (sp_law_sign) := by
  refine F.ok sc_law_sign (fun vs H Q E h => ?_) (fun cdv A outer s0 H vs Q E hr h => ?_)
  · obtain ⟨S, s, rfl, hS, q⟩ := h
    rfl
  · obtain ⟨S, s, rfl, hS, q⟩ := h
    refine ⟨_, (pss_cons (ps_set (i := 1) sc_law_sign.nd rfl (Or.inl rfl) pe_str)
      (pss_cons (ps_set (i := 1) sc_law_sign.nd rfl (Or.inl rfl) (pe_op op_add_str (pv 1) pe_str))
      (pss_one (ps_ret (pe_own O_law_pick hr (by rfl) (pa_cons (pv 0) (pa_cons (pv 1) pa_nil))))))), ?_⟩
    refine ⟨_, rfl, _, _, rfl, rfl, by decide +kernel, ?_⟩
    refine ⟨_, rfl, _, rfl, ?_⟩
    exact pick_str hS (by decide +kernel) (by decide +kernel) fun H' c k so _ => q H' c k so


set_option maxHeartbeats 4000000 in
theorem ok_law_string  (F : Fun K "_law_string" "_law_string" s_law_string f fd) (T : Txt w K mg)
    (O_law_take : Own P w K mg base k "_law_take" ["store", "many"] (sp_law_take))
    (O_law_sign : Own P w K mg base k "_law_sign" ["store"] (sp_law_sign)) : FnOk P w K mg base CX0 (k + 1) f fd ["store"] (sp_law_string) := by
  refine F.ok sc_law_string (fun vs H Q E h => ?_) (fun cdv A outer s0 H vs Q E hr h => ?_)
  · obtain ⟨S, s, rfl, hS, q⟩ := h
    rfl
  · obtain ⟨S, s, rfl, hS, q⟩ := h
    refine ⟨_, (pss_cons (ps_if (pt_cmpR op_eq (pe_own O_law_take hr (by rfl) (pa_cons (pv 0) (pa_cons pe_int pa_nil))) pe_int (nomark _))
        (pss_one (ps_ret (pe_op op_mul_str (pe_own O_law_sign hr (by rfl) (pa_cons (pv 0) pa_nil)) pe_int)))
        pss_nil)
      (pss_cons (ps_set (i := 1) sc_law_string.nd rfl (Or.inl rfl) pe_str)
      (pss_cons (ps_for PassesOwn.never rfl (pi_range1 (by rfl) T.range (pa_cons (pe_own O_law_take hr (by rfl) (pa_cons (pv 0) (pa_cons pe_int pa_nil))) pa_nil)) (pg_name (i := 2) sc_law_string.nd rfl (Or.inl rfl))
        (pss_one (ps_set (i := 1) sc_law_string.nd rfl (Or.inl rfl) (pe_op op_add_str (pv 1) (pe_own O_law_sign hr (by rfl) (pa_cons (pv 0) pa_nil))))))
      (pss_one (ps_ret (pv 1)))))), ?_⟩
    walk_at "go"
    intro H1 r k1 so1 _ _
    refine ⟨rfl, _, rfl, ite2 (fun _ => ?_) (fun _ => ?_)⟩
    · refine ⟨_, rfl, S, s, rfl, so1, fun H2 c k2 so2 => ⟨_, 4000, rfl, rfl, by decide, by decide, (by show (1 : Int) * 4000 ≤ 16777216; decide), ?_⟩⟩
      exact q H2 _ (k1.trans k2) so2 (one_mul_len c)
    refine ⟨_, rfl, S, s, _, rfl, so1, by decide, fun H2 r2 k2 so2 r0 r1 => ?_⟩
    refine ⟨_, rfl, by omega, by omega, for_range (n := r2.toNat) (fun i σ H' => Keep s H H' ∧ SO S s H' ∧ ∃ z t, z.length = i ∧ σ = [some (.ref s), some (.str z), t]) ⟨k1.trans k2, so2, _, _, rfl, rfl⟩ ?_ ?_⟩
    · rintro i σ H3 hi ⟨k3, so3, z, t, hz, rfl⟩
      refine ⟨_, rfl, _, rfl, S, s, rfl, so3, fun H4 c k4 so4 => ⟨_, _, rfl, rfl, ?_, k3.trans k4, so4, _, _, ?_, rfl⟩⟩
      · rw [hz]
        exact line_le (by show i + 1 ≤ _; omega)
      · rw [str_app_len, hz]
        rfl
    rintro σ H3 ⟨k3, so3, z, t, hz, rfl⟩
    exact ⟨_, rfl, q H3 z k3 so3 (by omega)⟩


set_option maxHeartbeats 4000000 in
theorem ok_law_atom  (F : Fun K "_law_atom" "_law_atom" s_law_atom f fd) (T : Txt w K mg)
    (O_law_take : Own P w K mg base k "_law_take" ["store", "many"] (sp_law_take))
    (O_law_number : Own P w K mg base k "_law_number" ["store"] (sp_law_number))
    (O_law_string : Own P w K mg base k "_law_string" ["store"] (sp_law_string))
    (O_law_pick : Own P w K mg base k "_law_pick" ["store", "things"] (sp_law_pick K)) : FnOk P w K mg base CX0 (k + 1) f fd ["store"] (sp_law_atom) := by
  refine F.ok sc_law_atom (fun vs H Q E h => ?_) (fun cdv A outer s0 H vs Q E hr h => ?_)
  · obtain ⟨S, s, rfl, hS, q⟩ := h
    rfl
  · obtain ⟨S, s, rfl, hS, q⟩ := h
    refine ⟨_, (pss_cons (ps_set (i := 1) sc_law_atom.nd rfl (Or.inl rfl) (pe_own O_law_take hr (by rfl) (pa_cons (pv 0) (pa_cons pe_int pa_nil))))
      (pss_cons (ps_if (pt_cmpR op_eq (pv 1) pe_int (nomark _))
        (pss_one (ps_ret (pe_own O_law_number hr (by rfl) (pa_cons (pv 0) pa_nil))))
        pss_nil)
      (pss_cons (ps_if (pt_cmpR op_eq (pv 1) pe_int (nomark _))
        (pss_one (ps_ret (pe_own O_law_string hr (by rfl) (pa_cons (pv 0) pa_nil))))
        pss_nil)
      (pss_one (ps_ret (pe_own O_law_pick hr (by rfl) (pa_cons (pv 0) (pa_cons (pe_lst (pa_cons pe_bl (pa_cons pe_bl (pa_cons pe_non (pa_cons pe_int (pa_cons pe_int (pa_cons pe_str (pa_cons pe_str pa_nil)))))))) pa_nil)))))))), ?_⟩
    walk_at "go"
    intro H1 how k1 so1 _ _
    walk_at "go"
    refine ite2 (fun _ => ?_) (fun _ => ?_)
    · walk_at "go"
      intro H2 n k2 so2
      exact q H2 _ (.int n) (k1.trans k2) so2 (fun _ _ => .int n) (.int _ n)
    walk_at "go"
    refine ite2 (fun _ => ?_) (fun _ => ?_)
    · walk_at "go"
      intro H2 z k2 so2 hz
      exact q H2 _ (.str z) (k1.trans k2) so2 (fun _ _ => .str z) (.str _ hz)
    walk_at "go"
    intro p np
    refine pick_list so1 np (by simp) (by simp) (fun H2 v k2 _ so2 hv => ?_)
    obtain ⟨d, hd, hD⟩ : ∃ d, (∀ (S : Av) (H2 : Hp), Da S H2 v d) ∧ Dd 4000 0 d := by
      simp only [List.mem_cons, List.not_mem_nil, or_false] at hv
      rcases hv with rfl | rfl | rfl | rfl | rfl | rfl | rfl
      · exact ⟨_, fun _ _ => .bl _, .bl _ _⟩
      · exact ⟨_, fun _ _ => .bl _, .bl _ _⟩
      · exact ⟨_, fun _ _ => .non, .non _⟩
      · exact ⟨_, fun _ _ => .int _, .int _ _⟩
      · exact ⟨_, fun _ _ => .int _, .int _ _⟩
      · exact ⟨_, fun _ _ => .str _, .str _ (by decide)⟩
      · exact ⟨_, fun _ _ => .str _, .str _ (by decide)⟩
    exact q H2 v d (k1.trans k2) so2 hd hD


set_option maxHeartbeats 4000000 in
theorem ok_law_plain  (F : Fun K "_law_plain" "_law_plain" s_law_plain f fd) (T : Txt w K mg)
    (O_law_take : Own P w K mg base k "_law_take" ["store", "many"] (sp_law_take))
    (O_law_pick : Own P w K mg base k "_law_pick" ["store", "things"] (sp_law_pick K))
    (O_law_atom : Own P w K mg base k "_law_atom" ["store"] (sp_law_atom)) : FnOk P w K mg base CX0 (k + 1) f fd ["store"] (sp_law_plain) := by
  refine F.ok sc_law_plain (fun vs H Q E h => ?_) (fun cdv A outer s0 H vs Q E hr h => ?_)
  · obtain ⟨S, s, rfl, hS, q⟩ := h
    rfl
  · obtain ⟨S, s, rfl, hS, q⟩ := h
    refine ⟨_, (pss_cons (ps_if (pt_cmpR op_eq (pe_own O_law_take hr (by rfl) (pa_cons (pv 0) (pa_cons pe_int pa_nil))) pe_int (nomark _))
        (pss_one (ps_ret (pe_own O_law_pick hr (by rfl) (pa_cons (pv 0) (pa_cons (pe_lst (pa_cons (pe_lst pa_nil) (pa_cons (pe_tup pa_nil) (pa_cons (pe_lst (pa_cons (pe_lst pa_nil) pa_nil)) (pa_cons (pe_tup (pa_cons (pe_tup pa_nil) pa_nil)) (pa_cons (pe_lst (pa_cons (pe_tup pa_nil) pa_nil)) (pa_cons (pe_tup (pa_cons (pe_lst pa_nil) pa_nil)) pa_nil))))))) pa_nil)))))
        pss_nil)
      (pss_cons (ps_set (i := 1) sc_law_plain.nd rfl (Or.inl rfl) (pe_own O_law_atom hr (by rfl) (pa_cons (pv 0) pa_nil)))
      (pss_cons (ps_set (i := 2) sc_law_plain.nd rfl (Or.inl rfl) (pe_own O_law_take hr (by rfl) (pa_cons (pv 0) (pa_cons pe_int pa_nil))))
      (C8.pss_cut (ps_if (pt_cmpR op_eq (pe_own O_law_take hr (by rfl) (pa_cons (pv 0) (pa_cons pe_int pa_nil))) pe_int (nomark _))
        (pss_one (ps_set (i := 2) sc_law_plain.nd rfl (Or.inl rfl) pe_int))
        pss_nil)
      (pss_cons (ps_for PassesOwn.never rfl (pi_range1 (by rfl) T.range (pa_cons (pv 2) pa_nil)) (pg_name (i := 3) sc_law_plain.nd rfl (Or.inl rfl))
        (pss_cons (ps_set (i := 4) sc_law_plain.nd rfl (Or.inl rfl) (pe_lst (pa_cons (pv 1) pa_nil)))
        (pss_cons (ps_for PassesOwn.never rfl (pi_range1 (by rfl) T.range (pa_cons (pe_own O_law_take hr (by rfl) (pa_cons (pv 0) (pa_cons pe_int pa_nil))) pa_nil)) (pg_name (i := 5) sc_law_plain.nd rfl (Or.inl rfl))
          (pss_one (ps_expr (pe_bm PySem.F.plainAttrs_list PySem.F.slot_list_insert PySem.F.type_list_insert mt_insert (pv 4) (pa_cons (pe_own O_law_take hr (by rfl) (pa_cons (pv 0) (pa_cons (pe_op op_add (pe_callB call_len_seq (by rfl) T.len PySem.boot_len (pa_cons (pv 4) pa_nil)) pe_int) pa_nil))) (pa_cons (pe_own O_law_atom hr (by rfl) (pa_cons (pv 0) pa_nil)) pa_nil))))))
        (pss_cons (ps_set (i := 1) sc_law_plain.nd rfl (Or.inl rfl) (pv 4))
        (pss_one (ps_if (pt_cmpR op_eq (pe_own O_law_take hr (by rfl) (pa_cons (pv 0) (pa_cons pe_int pa_nil))) pe_int (nomark _))
          (pss_one (ps_set (i := 1) sc_law_plain.nd rfl (Or.inl rfl) (pe_tupleOf (by rfl) T.tuple (pv 4))))
          pss_nil))))))
      (pss_one (ps_ret (pv 1)))))))), ?_⟩
    have so0 := hS.so
    walk_at "go"
    intro H1 r k1 so1 _ _
    have S1 : SS S s H1 := hS.keep k1 so1
    refine ⟨rfl, _, rfl, ite2 (fun _ => ?_) (fun _ => ?_)⟩
    · refine ⟨_, rfl, ?_⟩
      walk_at "go"
      intro p1 n1
      obtain ⟨H2, e2, S2, k2, sm2, h2, f2, _⟩ := fresh (.lst []) S1 k1 n1
      rw [e2]
      have a1 : Da S H2 (.ref p1) (.list []) := .lst f2 h2 .nil
      walk_at "go"
      intro p2 n2
      obtain ⟨H3, e3, S3, k3, sm3, h3, f3, _⟩ := fresh (.tup []) S2 k2 n2
      rw [e3]
      have a2 : Da S H3 (.ref p2) (.tuple []) := .tup f3 h3 .nil
      walk_at "go"
      intro p3 n3
      obtain ⟨H4, e4, S4, k4, sm4, h4, f4, _⟩ := fresh (.lst []) S3 k3 n3
      rw [e4]
      have a3 : Da S H4 (.ref p3) (.list []) := .lst f4 h4 .nil
      walk_at "go"
      intro p4 n4
      obtain ⟨H5, e5, S5, k5, sm5, h5, f5, _⟩ := fresh (.lst [.ref p3]) S4 k4 n4
      rw [e5]
      have a4 : Da S H5 (.ref p4) (.list [.list []]) := .lst f5 h5 (.one (a3.same sm5))
      walk_at "go"
      intro p5 n5
      obtain ⟨H6, e6, S6, k6, sm6, h6, f6, _⟩ := fresh (.tup []) S5 k5 n5
      rw [e6]
      have a5 : Da S H6 (.ref p5) (.tuple []) := .tup f6 h6 .nil
      walk_at "go"
      intro p6 n6
      obtain ⟨H7, e7, S7, k7, sm7, h7, f7, _⟩ := fresh (.tup [.ref p5]) S6 k6 n6
      rw [e7]
      have a6 : Da S H7 (.ref p6) (.tuple [.tuple []]) := .tup f7 h7 (.one (a5.same sm7))
      walk_at "go"
      intro p7 n7
      obtain ⟨H8, e8, S8, k8, sm8, h8, f8, _⟩ := fresh (.tup []) S7 k7 n7
      rw [e8]
      have a7 : Da S H8 (.ref p7) (.tuple []) := .tup f8 h8 .nil
      walk_at "go"
      intro p8 n8
      obtain ⟨H9, e9, S9, k9, sm9, h9, f9, _⟩ := fresh (.lst [.ref p7]) S8 k8 n8
      rw [e9]
      have a8 : Da S H9 (.ref p8) (.list [.tuple []]) := .lst f9 h9 (.one (a7.same sm9))
      walk_at "go"
      intro p9 n9
      obtain ⟨H10, e10, S10, k10, sm10, h10, f10, _⟩ := fresh (.lst []) S9 k9 n9
      rw [e10]
      have a9 : Da S H10 (.ref p9) (.list []) := .lst f10 h10 .nil
      walk_at "go"
      intro p10 n10
      obtain ⟨H11, e11, S11, k11, sm11, h11, f11, _⟩ := fresh (.tup [.ref p9]) S10 k10 n10
      rw [e11]
      have a10 : Da S H11 (.ref p10) (.tuple [.list []]) := .tup f11 h11 (.one (a9.same sm11))
      walk_at "go"
      intro p np
      refine pick_list S11.so np (by simp) (by simp) (fun H' v kk _ so hv => ?_)
      have fin : ∀ {d : PyData}, Da S H11 v d → Dd 4000 60 d → Q v H' := fun h hD => q H' v _ (k11.trans kk) so (h.keep kk S11.at_) hD
      simp only [List.mem_cons, List.not_mem_nil, or_false] at hv
      have dn : Dd 4000 58 (.list []) := .lst (by decide) (fun d hd => nomatch hd)
      have tn : Dd 4000 58 (.tuple []) := .tup (by decide) (fun d hd => nomatch hd)
      have one : ∀ (d : PyData), Dd 4000 58 d → ∀ e ∈ [d], Dd 4000 59 e := fun d h e he => by
        rw [List.mem_singleton.mp he]
        exact h.lift (by decide)
      rcases hv with rfl | rfl | rfl | rfl | rfl | rfl
      · exact fin ((((((((((a1.same sm3).same sm4).same sm5).same sm6).same sm7).same sm8).same sm9).same sm10).same sm11)) (dn.lift (by decide))
      · exact fin (((((((((a2.same sm4).same sm5).same sm6).same sm7).same sm8).same sm9).same sm10).same sm11)) (tn.lift (by decide))
      · exact fin (((((((a4.same sm6).same sm7).same sm8).same sm9).same sm10).same sm11)) (.lst (by decide) (one _ dn))
      · exact fin (((((a6.same sm8).same sm9).same sm10).same sm11)) (.tup (by decide) (one _ tn))
      · exact fin (((a8.same sm10).same sm11)) (.lst (by decide) (one _ tn))
      · exact fin a10 (.tup (by decide) (one _ dn))
    walk_at "go"
    intro H2 v d k2 so2 hd hD
    have k2 := k1.trans k2
    have S2 := hS.keep k2 so2
    walk_at "go"
    intro H3 many k3 so3 m0 m1
    have k3 := k2.trans k3
    have S3 := hS.keep k3 so3
    refine ⟨fun σ H' => Keep s H H' ∧ SO S s H' ∧ ∃ (m : Int), 0 ≤ m ∧ m ≤ 59 ∧ σ = [some (.ref s), some v, some (.int m), none, none, none], ?_, ?_⟩
    · walk_at "go"
      intro H4 r4 k4 so4 _ _
      refine ⟨rfl, _, rfl, ite2 (fun _ => ?_) (fun _ => ?_)⟩
      · exact ⟨k3.trans k4, so4, 50, by decide, by decide, rfl⟩
      · exact ⟨k3.trans k4, so4, many, by omega, by omega, rfl⟩
    rintro σ H4 ⟨k4, so4, m, hm0, hm, rfl⟩
    refine ⟨_, rfl, _, rfl, by omega, by omega, for_range (n := m.toNat) (fun i σ H' => Keep s H H' ∧ SO S s H' ∧ ∃ (v : V) (d : PyData) (y3 y4 y5 : Option V), Da S H' v d ∧ Dd 4000 i d ∧ σ = [some (.ref s), some v, some (.int m), y3, y4, y5]) ⟨k4, so4, v, d, _, _, _, hd S _, hD, rfl⟩ ?_ ?_⟩
    · rintro i σ H5 hi ⟨k5, so5, v, d, y3, y4, y5, hd, hD, rfl⟩
      have S5 := hS.keep k5 so5
      walk_at "go"
      intro p np
      obtain ⟨H6, e6, S6, k6, sm6, h6, f6, nps⟩ := fresh (.lst [v]) S5 (Keep.refl s H5) np
      rw [e6]
      have so6 := S6.so
      walk_at "go"
      intro H7 r7 k7 so7 r70 r71
      refine ⟨_, rfl, by omega, by omega, for_range (n := r7.toNat) (fun j σ H' => Keep s H5 H' ∧ SO S s H' ∧ ∃ (xs : List V) (ds : List PyData) (z5 : Option V), H' p = some (.lst xs) ∧ DaAll (addA S p) H' xs ds ∧ (∀ d ∈ ds, Dd 4000 i d) ∧ xs.length = 1 + j ∧ σ = [some (.ref s), some v, some (.int m), some (.int (0 + i)), some (.ref p), z5])
        ⟨k6.trans k7, so7, [v], [d], _, k7 _ _ nps h6, .one (((hd.more np).same sm6).keep k7 (.inl S5.at_)), fun e he => by rw [List.mem_singleton.mp he]; exact hD, rfl, rfl⟩ ?_ ?_⟩
      · rintro j σ H8 hj ⟨k8, so8, xs, ds, z5, hp, hall, hDs, hlen, rfl⟩
        have S8 := S5.keep k8 so8
        refine ⟨_, rfl, .inl ⟨rfl, _, SqL.of hp⟩, _, rfl, _, rfl, p, xs, rfl, .inl (SqL.of hp), _, _, rfl, rfl, S, s, _, rfl, so8, by omega, fun H9 r9 k9 so9 r90 r91 => ?_⟩
        refine ⟨_, rfl, S, s, rfl, so9, fun H10 va da k10 so10 hda hDda => ?_⟩
        have h10 : H10 p = some (.lst xs) := k10 _ _ nps (k9 _ _ nps hp)
        refine ⟨p, xs, r9, va, rfl, rfl, h10, line_lt (by omega), r90, by omega, ?_⟩
        have hall10 : DaAll (addA S p) H10 xs ds := hall.keep (k9.trans k10) (.inl S5.at_)
        refine ⟨(k8.trans (k9.trans k10)).new np, so10.put f6, xs.take r9.toNat ++ [va] ++ xs.drop r9.toNat, ds.take r9.toNat ++ [da] ++ ds.drop r9.toNat, _, upd_same, (((hall10.take _).app (.one (hda _ _))).app (hall10.drop _)).at, fun e he => ?_, ?_, rfl⟩
        · rcases List.mem_append.mp he with he | he
          · rcases List.mem_append.mp he with he | he
            · exact hDs e (List.mem_of_mem_take he)
            · rw [List.mem_singleton.mp he]; exact hDda.lift (Nat.zero_le _)
          · exact hDs e (List.mem_of_mem_drop he)
        · rw [List.length_append, List.length_append, List.length_take, List.length_drop, List.length_singleton]
          omega
      rintro σ H8 ⟨k8, so8, xs, ds, z5, hp, hall, hDs, hlen, rfl⟩
      refine ⟨_, rfl, _, rfl, S, s, _, rfl, so8, by decide, fun H9 r9 k9 so9 r90 r91 => ?_⟩
      have h9 := k9 _ _ nps hp
      have hall9 : DaAll (addA S p) H9 xs ds := hall.keep k9 (.inl S5.at_)
      have hl : ds.length ≤ 4000 := by
        rw [← hall.length]
        omega
      refine ⟨rfl, _, rfl, ite2 (fun _ => ?_) (fun _ => ?_)⟩
      · refine ⟨_, rfl, .inl ⟨p, xs, rfl, SqL.of h9, fun t nt => ?_⟩⟩
        have S9 := S5.keep (k8.trans k9) so9
        exact ⟨(k5.trans (k8.trans k9)).new ((k5.trans (k8.trans k9)).free (S9.ne nt) nt), so9.new nt, _, .tuple ds, _, _, _, .tup (S9.free nt) upd_same (hall9.less.new nt), .tup hl hDs, rfl⟩
      · exact ⟨k5.trans (k8.trans k9), so9, _, .list ds, _, _, _, .lst f6 h9 hall9.less, .lst hl hDs, rfl⟩
    rintro σ H5 ⟨k5, so5, v, d, y3, y4, y5, hd, hD, rfl⟩
    exact ⟨_, rfl, q H5 v d k5 so5 hd (hD.lift (by omega))⟩


set_option maxHeartbeats 4000000 in
theorem ok_law_all  (F : Fun K "_law_all" "_law_all" s_law_all f fd) (T : Txt w K mg) : FnOk P w K mg base CX0 (k + 1) f fd ["net"] (sp_law_all) := by
  refine F.ok sc_law_all (fun vs H Q E h => ?_) (fun cdv A outer s0 H vs Q E hr h => ?_)
  · obtain ⟨S, x, As, Ls, Pl, rfl, hx, hl, hP, h64, q⟩ := h
    rfl
  · obtain ⟨S, x, As, Ls, Pl, rfl, hx, hl, hP, h64, q⟩ := h
    refine ⟨_, (pss_cons (ps_set (i := 1) sc_law_all.nd rfl (Or.inl rfl) (pe_op op_cat (pe_op op_cat (pe_lc (own := [("arrow", 3)]) (by rfl) sc_law_all.nd (pi_list (pe_ix ix_list (pv 0) pe_int (fun _ _ => rfl))) (blkOk_by (own := [("arrow", 3)]) (N := ["net", "out", "leaf", "arrow"]) (sc := defScope s_law_all) (by decide +kernel)) (fun _ _ _ _ _ => pg_name (i := 3) sc_law_all.nd rfl (Or.inl rfl)) (fun _ _ _ _ _ => pts_nil) (fun _ _ _ _ _ => (pe_ix (ix_tupK K rfl) (pv 3) pe_int (fun _ _ => rfl)))) (pe_lc (own := [("arrow", 3)]) (by rfl) sc_law_all.nd (pi_list (pe_ix ix_list (pv 0) pe_int (fun _ _ => rfl))) (blkOk_by (own := [("arrow", 3)]) (N := ["net", "out", "leaf", "arrow"]) (sc := defScope s_law_all) (by decide +kernel)) (fun _ _ _ _ _ => pg_name (i := 3) sc_law_all.nd rfl (Or.inl rfl)) (fun _ _ _ _ _ => pts_nil) (fun _ _ _ _ _ => (pe_ix (ix_tupK K rfl) (pv 3) pe_int (fun _ _ => rfl))))) (pe_lc (own := [("leaf", 2)]) (by rfl) sc_law_all.nd (pi_list (pe_ix ix_list (pv 0) pe_int (fun _ _ => rfl))) (blkOk_by (own := [("leaf", 2)]) (N := ["net", "out", "leaf", "arrow"]) (sc := defScope s_law_all) (by decide +kernel)) (fun _ _ _ _ _ => pg_name (i := 2) sc_law_all.nd rfl (Or.inl rfl)) (fun _ _ _ _ _ => pts_nil) (fun _ _ _ _ _ => (pe_ix (ix_tupK K rfl) (pv 2) pe_int (fun _ _ => rfl))))))
      (pss_one (ps_ret (pe_callB (cr_sortedSet rfl) (by rfl) T.sorted (by decide +kernel) (pa_cons (pe_callTy (cr_setL rfl) (by rfl) T.set (by decide +kernel) (pa_cons (pv 1) pa_nil)) pa_nil))))), ?_⟩
    obtain ⟨N, A, L, xs, ys, rfl, _, eN, _, eA, hA, _, eL, hL⟩ := da_net hx
    have lx : xs.length = As.length := by rw [hA.length, List.length_map]
    have ly : ys.length = Ls.length := by rw [hL.length, List.length_map]
    have sz : 1000 < sizeLine := by decide
    refine seq_asg (op_h (op_h ?_))
    refine lc_listG (K := K) (fun R h => ⟨_, rfl, N, _, ((0 : Nat) : Int), .ref A, rfl, rfl, .of eN, atI_nat (j := 0) rfl, h⟩) eA (As.map fun p => V.int p.1) (by rw [List.length_map, lx]) (by omega) ?_ ?_
    · rintro i x H2 N' B z hz sm hx hB
      obtain ⟨p, t, ed, rfl, nt, et⟩ := hA.pdS sm hx
      rw [List.getElem?_map, ed] at hz
      cases hz
      exact ⟨rfl, _, rfl, t, _, 0, _, rfl, rfl, .of et, rfl, hB _ (Same.refl _)⟩
    intro D1 H1 nD1 s1 e1
    refine lc_listG (K := K) (fun R h => ⟨_, rfl, N, _, ((0 : Nat) : Int), .ref A, rfl, rfl, .of (s1 _ _ eN), atI_nat (j := 0) rfl, h⟩) (s1 _ _ eA) (As.map fun p => V.int p.2) (by rw [List.length_map, lx]) (by omega) ?_ ?_
    · rintro i x H2 N' B z hz sm hx hB
      obtain ⟨p, t, ed, rfl, nt, et⟩ := hA.pdS (fun b o e => sm _ _ (s1 _ _ e)) hx
      rw [List.getElem?_map, ed] at hz
      cases hz
      exact ⟨rfl, _, rfl, t, _, 1, _, rfl, rfl, .of et, rfl, hB _ (Same.refl _)⟩
    intro D2 H2 nD2 s2 e2
    refine ⟨D1, D2, _, _, rfl, rfl, s2 _ _ e1, e2, by rw [List.length_map, List.length_map]; omega, fun p3 n3 => ?_⟩
    have s3 : Same H (upd H2 p3 (.lst ((As.map fun p => V.int p.1) ++ As.map fun p => V.int p.2))) := same_snoc (fun b o e => s2 _ _ (s1 _ _ e)) n3
    generalize eH3 : upd H2 p3 (.lst ((As.map fun p => V.int p.1) ++ As.map fun p => V.int p.2)) = H3 at s3
    have e3 : H3 p3 = some (.lst ((As.map fun p => V.int p.1) ++ As.map fun p => V.int p.2)) := by rw [← eH3]; exact upd_same
    refine lc_listG (K := K) (fun R h => ⟨_, rfl, N, _, ((1 : Nat) : Int), .ref L, rfl, rfl, .of (s3 _ _ eN), atI_nat (j := 1) rfl, h⟩) (s3 _ _ eL) (Ls.map fun p => V.int p.1) (by rw [List.length_map, ly]) (by omega) ?_ ?_
    · rintro i x H2 N' B z hz sm hx hB
      obtain ⟨p, t, ed, rfl, nt, et⟩ := hL.ldS (fun b o e => sm _ _ (s3 _ _ e)) hx
      rw [List.getElem?_map, ed] at hz
      cases hz
      exact ⟨rfl, _, rfl, t, _, 0, _, rfl, rfl, .of et, rfl, hB _ (Same.refl _)⟩
    intro D4 H4 nD4 s4 e4
    refine ⟨p3, D4, _, _, rfl, rfl, s4 _ _ e3, e4, by simp only [List.length_append, List.length_map]; omega, fun p5 n5 => ?_⟩
    have s5 : Same H H4 := fun b o e => s4 _ _ (s3 _ _ e)
    have s6 := same_snoc (o := .lst (((As.map fun p => V.int p.1) ++ As.map fun p => V.int p.2) ++ Ls.map fun p => V.int p.1)) s5 n5
    refine ⟨_, rfl, p5, ((As.map (·.1)) ++ As.map (·.2)) ++ Ls.map (·.1), rfl, .of (by rw [upd_same, List.map_append, List.map_append, List.map_map, List.map_map, List.map_map]; rfl), by simp only [List.length_append, List.length_map]; omega, fun p6 Lz n6 nd hLz => ?_⟩
    have hme : ∀ k, k ∈ ((As.map (·.1)) ++ As.map (·.2)) ++ Ls.map (·.1) ↔ k ∈ Pl := fun k => by
      rw [hP.2, List.mem_append, List.mem_append, List.mem_append, List.mem_flatMap]
      refine or_congr ?_ Iff.rfl
      constructor
      · rintro (h | h) <;> obtain ⟨a, ha, rfl⟩ := List.mem_map.mp h <;> exact ⟨a, ha, by simp⟩
      · rintro ⟨a, ha, h⟩
        simp only [List.mem_cons, List.not_mem_nil, or_false] at h
        rcases h with rfl | rfl
        · exact .inl (List.mem_map_of_mem ha)
        · exact .inr (List.mem_map_of_mem ha)
    refine ⟨p6, _, _, rfl, upd_same, ?_, fun ns p7 hp hm _ n7 => ?_⟩
    · refine Nat.lt_of_le_of_lt ?_ h64
      exact nodup_le nd fun k hk => (hme k).mp ((hLz k).mp hk)
    have e : ns = Pl := asc_uniq hp hP.1 fun k => by rw [hm, decide_eq_true_eq, hme]
    subst e
    exact q _ p7 (same_snoc (same_snoc s6 n6) n7) ((same_snoc s6 n6).free n7) upd_same


set_option maxHeartbeats 4000000 in
theorem ok_law_ups  (F : Fun K "_law_ups" "_law_ups" s_law_ups f fd) (T : Txt w K mg)
    (O_law_all : Own P w K mg base k "_law_all" ["net"] (sp_law_all)) : FnOk P w K mg base CX0 (k + 1) f fd ["net"] (sp_law_ups) := by
  refine F.ok sc_law_ups (fun vs H Q E h => ?_) (fun cdv A outer s0 H vs Q E hr h => ?_)
  · obtain ⟨S, x, As, Bs, Ls, Pl, rfl, hx, hl, hP, h64, hB, q⟩ := h
    rfl
  · obtain ⟨S, x, As, Bs, Ls, Pl, rfl, hx, hl, hP, h64, hB, q⟩ := h
    refine ⟨_, (pss_cons (ps_set (i := 1) sc_law_ups.nd rfl (Or.inl rfl) pe_dnewK)
      (pss_cons (ps_for PassesOwn.never rfl (pi_list (pe_own O_law_all hr (by rfl) (pa_cons (pv 0) pa_nil))) (pg_name (i := 2) sc_law_ups.nd rfl (Or.inl rfl))
        (pss_one (ps_dput (u1 hr) (pv 1) (pv 2) (pe_lst pa_nil) rfl)))
      (pss_cons (ps_for PassesOwn.never rfl (pi_list (pe_callB cr_sortedPO (by rfl) T.sorted (by decide +kernel) (pa_cons (pe_ix ix_list (pv 0) pe_int (fun _ _ => rfl)) pa_nil))) (pg_name (i := 3) sc_law_ups.nd rfl (Or.inl rfl))
        (pss_one (ps_expr (pe_bm PySem.F.plainAttrs_list PySem.F.slot_list_append PySem.F.type_list_append mt_append (pe_dget (u1 hr) (pv 1) (pe_ix ix_tup (pv 3) pe_int (fun _ _ => rfl)) (fun _ _ => rfl)) (pa_cons (pe_ix ix_tup (pv 3) pe_int (fun _ _ => rfl)) pa_nil)))))
      (pss_one (ps_ret (pv 1)))))), ?_⟩
    obtain ⟨N, A, L, xs, ys, rfl, _, eN, _, eA, hA, _, eL, hL⟩ := da_net hx
    have sz : 1000 < sizeLine := by decide
    refine fun D nD => ?_
    have s1 := same_snoc (o := .dK []) (Same.refl H) nD
    refine ⟨_, rfl, S, .ref N, As, Ls, Pl, rfl, hx.same s1, hl, hP, h64, fun H2 R s2 nR e2 => ?_⟩
    have eD2 := s2 _ _ (show upd H D (.dK []) D = _ from upd_same)
    have s12 : Same H H2 := fun b o e => s2 _ _ (s1 _ _ e)
    have nRD : R ≠ D := fun e => by rw [e, upd_same] at nR; cases nR
    have nR0 : H R = none := by rw [upd_ne nRD] at nR; exact nR
    refine ⟨R, rfl, ⟨_, .of e2⟩, ?_⟩
    refine for_it (walk_list (K := K) (a := R) (xs := Pl.map V.int)) (fun i σ H' => ∃ (am : Int → Addr) (pv : Option V), σ = [some (.ref N), some (.ref D), pv, none] ∧ Same H H' ∧ H' R = some (.lst (Pl.map V.int)) ∧ DiN H H' D (Pl.take i) am fun _ => [])
      ⟨fun _ => 0, _, rfl, s12, e2, ⟨nD, by simp, by simp, eD2, by simp⟩⟩ (fun i σ H' _ ⟨_, _, _, _, e, _⟩ => .of e) ?_ ?_
    · rintro i x σ H4 H5 hi ⟨am, pv, rfl, sm, eR, hM⟩ ⟨rfl, hx⟩
      rw [List.getElem?_map] at hx
      obtain ⟨p, hp, rfl⟩ := Option.map_eq_some_iff.mp hx
      refine ⟨(by show 0 ≤ sizeLine; decide), fun a na => ?_⟩
      have hpn : p ∉ Pl.take i := notin_take hP.nodup hp
      have naD : D ≠ a := fun e => by rw [← e, hM.at_] at na; cases na
      refine ⟨_, rfl, _, rfl, D, _, rfl, .inl ⟨_, .inl p, by rw [upd_ne naD]; exact hM.at_, rfl, ?_, rfl⟩, ?_⟩
      · rw [List.length_map, List.length_take]
        omega
      refine ⟨fun z => if z = p then a else am z, _, rfl, fun b o e => ?_, ?_, ?_⟩
      · rw [upd_ne (fun z => by rw [z, nD] at e; cases e), upd_ne (fun z => by rw [z, sm.free na] at e; cases e)]
        exact sm _ _ e
      · rw [upd_ne nRD, upd_ne (fun z => by rw [← z, eR] at na; cases na)]
        exact eR
      · rw [← take_snoc hp]
        exact hM.grow hpn na sm
    rintro σ H3 ⟨am, pv, rfl, sm, eR, hM⟩
    rw [List.length_map, List.take_length] at hM
    refine ⟨_, rfl, N, _, ((0 : Nat) : Int), .ref A, rfl, rfl, .of (sm _ _ eN), atI_nat (j := 0) rfl, ?_⟩
    refine ⟨A, xs, pairAt H, rfl, .of (sm _ _ eA), fun x hx => ?_, fun ys Y hs1 hs2 nY => ?_⟩
    · obtain ⟨i, hi⟩ := List.mem_iff_getElem?.mp hx
      obtain ⟨p, t, _, rfl, _, et⟩ := hA.pd hi
      rw [pairAt_eq et]
      exact ⟨t, rfl, sm _ _ et⟩
    obtain ⟨hyl, hys⟩ := sorted_pd hA hB hs1 hs2
    refine ⟨Y, rfl, ⟨_, .of upd_same⟩, ?_⟩
    have m4 := hM.new (o := .lst ys) nY
    have nYM : ∀ p ∈ Pl, am p ≠ Y := fun p hp e => by rw [← e, hM.val p hp] at nY; cases nY
    have nYD : Y ≠ D := fun e => by rw [e, hM.at_] at nY; cases nY
    have hmem : ∀ b ∈ Bs, b.1 ∈ Pl ∧ b.2 ∈ Pl := fun b hb => by
      have hb := hB.1.mem_iff.mp hb
      have h1 : ∀ k, k ∈ [b.1, b.2] → k ∈ Pl := fun k hk => (hP.2 k).mpr (List.mem_append_left _ (List.mem_flatMap.mpr ⟨b, hb, hk⟩))
      exact ⟨h1 _ (by simp), h1 _ (by simp)⟩
    have bl : Bs.length ≤ 1000 := by rw [hB.1.length_eq]; omega
    have m0 : DiN H (upd H3 Y (.lst ys)) D Pl am (upsOf (Bs.take 0)) := m4
    refine for_it (walk_list (K := K) (a := Y) (xs := ys)) (fun i σ H' => ∃ pv u, σ = [some (.ref N), some (.ref D), pv, u] ∧ Same H H' ∧ H' Y = some (.lst ys) ∧ DiN H H' D Pl am (upsOf (Bs.take i)))
      ⟨_, _, rfl, same_snoc sm nY, upd_same, m0⟩ (fun i σ H' _ ⟨_, _, _, _, e, _⟩ => .of e) ?_ ?_
    · rintro i x σ H4 H5 hi ⟨pv, u, rfl, sm, eY, hM⟩ ⟨rfl, hx⟩
      obtain ⟨b, t, eb, rfl, nt, et⟩ := hys i x hx
      obtain ⟨b1, b2⟩ := hmem b (List.mem_of_getElem? eb)
      have tl : (Bs.take i).length ≤ 1000 := Nat.le_trans (by rw [List.length_take]; exact Nat.min_le_right _ _) bl
      refine ⟨_, rfl, _, rfl, t, _, 1, _, rfl, rfl, .of (sm _ _ et), rfl, D, .ref (am b.2), rfl, hM.get b2, .inl ⟨rfl, _, .of (hM.val _ b2)⟩, _, rfl, t, _, 0, _, rfl, rfl, .of (sm _ _ et), rfl, am b.2, _, .int b.1, rfl, rfl, hM.val _ b2, ?_, ?_⟩
      · rw [List.length_map]
        exact Nat.lt_of_le_of_lt (upsOf_len _ _) (by omega)
      refine ⟨_, _, rfl, fun c o e => ?_, ?_, ?_⟩
      · rw [upd_ne (fun z => by rw [z, hM.na _ b2] at e; cases e)]
        exact sm _ _ e
      · rw [upd_ne (nYM _ b2).symm]
        exact eY
      · rw [← take_snoc eb, upsOf_snoc]
        exact hM.app (x := b.1) b2
    rintro σ H4 ⟨pv, u, rfl, sm, eY, hM⟩
    rw [hyl, List.take_length] at hM
    exact ⟨_, rfl, q _ D am sm hM⟩


set_option maxHeartbeats 4000000 in
theorem ok_law_downs  (F : Fun K "_law_downs" "_law_downs" s_law_downs f fd) (T : Txt w K mg)
    (O_law_all : Own P w K mg base k "_law_all" ["net"] (sp_law_all)) : FnOk P w K mg base CX0 (k + 1) f fd ["net"] (sp_law_downs) := by
  refine F.ok sc_law_downs (fun vs H Q E h => ?_) (fun cdv A outer s0 H vs Q E hr h => ?_)
  · obtain ⟨S, x, As, Bs, Ls, Pl, rfl, hx, hl, hP, h64, hB, q⟩ := h
    rfl
  · obtain ⟨S, x, As, Bs, Ls, Pl, rfl, hx, hl, hP, h64, hB, q⟩ := h
    refine ⟨_, (pss_cons (ps_set (i := 1) sc_law_downs.nd rfl (Or.inl rfl) pe_dnewK)
      (pss_cons (ps_for PassesOwn.never rfl (pi_list (pe_own O_law_all hr (by rfl) (pa_cons (pv 0) pa_nil))) (pg_name (i := 2) sc_law_downs.nd rfl (Or.inl rfl))
        (pss_one (ps_dput (u1 hr) (pv 1) (pv 2) (pe_lst pa_nil) rfl)))
      (pss_cons (ps_for PassesOwn.never rfl (pi_list (pe_callB cr_sortedPO (by rfl) T.sorted (by decide +kernel) (pa_cons (pe_ix ix_list (pv 0) pe_int (fun _ _ => rfl)) pa_nil))) (pg_name (i := 3) sc_law_downs.nd rfl (Or.inl rfl))
        (pss_one (ps_expr (pe_bm PySem.F.plainAttrs_list PySem.F.slot_list_append PySem.F.type_list_append mt_append (pe_dget (u1 hr) (pv 1) (pe_ix ix_tup (pv 3) pe_int (fun _ _ => rfl)) (fun _ _ => rfl)) (pa_cons (pe_ix ix_tup (pv 3) pe_int (fun _ _ => rfl)) pa_nil)))))
      (pss_one (ps_ret (pv 1)))))), ?_⟩
    obtain ⟨N, A, L, xs, ys, rfl, _, eN, _, eA, hA, _, eL, hL⟩ := da_net hx
    have sz : 1000 < sizeLine := by decide
    refine fun D nD => ?_
    have s1 := same_snoc (o := .dK []) (Same.refl H) nD
    refine ⟨_, rfl, S, .ref N, As, Ls, Pl, rfl, hx.same s1, hl, hP, h64, fun H2 R s2 nR e2 => ?_⟩
    have eD2 := s2 _ _ (show upd H D (.dK []) D = _ from upd_same)
    have s12 : Same H H2 := fun b o e => s2 _ _ (s1 _ _ e)
    have nRD : R ≠ D := fun e => by rw [e, upd_same] at nR; cases nR
    have nR0 : H R = none := by rw [upd_ne nRD] at nR; exact nR
    refine ⟨R, rfl, ⟨_, .of e2⟩, ?_⟩
    refine for_it (walk_list (K := K) (a := R) (xs := Pl.map V.int)) (fun i σ H' => ∃ (am : Int → Addr) (pv : Option V), σ = [some (.ref N), some (.ref D), pv, none] ∧ Same H H' ∧ H' R = some (.lst (Pl.map V.int)) ∧ DiN H H' D (Pl.take i) am fun _ => [])
      ⟨fun _ => 0, _, rfl, s12, e2, ⟨nD, by simp, by simp, eD2, by simp⟩⟩ (fun i σ H' _ ⟨_, _, _, _, e, _⟩ => .of e) ?_ ?_
    · rintro i x σ H4 H5 hi ⟨am, pv, rfl, sm, eR, hM⟩ ⟨rfl, hx⟩
      rw [List.getElem?_map] at hx
      obtain ⟨p, hp, rfl⟩ := Option.map_eq_some_iff.mp hx
      refine ⟨(by show 0 ≤ sizeLine; decide), fun a na => ?_⟩
      have hpn : p ∉ Pl.take i := notin_take hP.nodup hp
      have naD : D ≠ a := fun e => by rw [← e, hM.at_] at na; cases na
      refine ⟨_, rfl, _, rfl, D, _, rfl, .inl ⟨_, .inl p, by rw [upd_ne naD]; exact hM.at_, rfl, ?_, rfl⟩, ?_⟩
      · rw [List.length_map, List.length_take]
        omega
      refine ⟨fun z => if z = p then a else am z, _, rfl, fun b o e => ?_, ?_, ?_⟩
      · rw [upd_ne (fun z => by rw [z, nD] at e; cases e), upd_ne (fun z => by rw [z, sm.free na] at e; cases e)]
        exact sm _ _ e
      · rw [upd_ne nRD, upd_ne (fun z => by rw [← z, eR] at na; cases na)]
        exact eR
      · rw [← take_snoc hp]
        exact hM.grow hpn na sm
    rintro σ H3 ⟨am, pv, rfl, sm, eR, hM⟩
    rw [List.length_map, List.take_length] at hM
    refine ⟨_, rfl, N, _, ((0 : Nat) : Int), .ref A, rfl, rfl, .of (sm _ _ eN), atI_nat (j := 0) rfl, ?_⟩
    refine ⟨A, xs, pairAt H, rfl, .of (sm _ _ eA), fun x hx => ?_, fun ys Y hs1 hs2 nY => ?_⟩
    · obtain ⟨i, hi⟩ := List.mem_iff_getElem?.mp hx
      obtain ⟨p, t, _, rfl, _, et⟩ := hA.pd hi
      rw [pairAt_eq et]
      exact ⟨t, rfl, sm _ _ et⟩
    obtain ⟨hyl, hys⟩ := sorted_pd hA hB hs1 hs2
    refine ⟨Y, rfl, ⟨_, .of upd_same⟩, ?_⟩
    have m4 := hM.new (o := .lst ys) nY
    have nYM : ∀ p ∈ Pl, am p ≠ Y := fun p hp e => by rw [← e, hM.val p hp] at nY; cases nY
    have nYD : Y ≠ D := fun e => by rw [e, hM.at_] at nY; cases nY
    have hmem : ∀ b ∈ Bs, b.1 ∈ Pl ∧ b.2 ∈ Pl := fun b hb => by
      have hb := hB.1.mem_iff.mp hb
      have h1 : ∀ k, k ∈ [b.1, b.2] → k ∈ Pl := fun k hk => (hP.2 k).mpr (List.mem_append_left _ (List.mem_flatMap.mpr ⟨b, hb, hk⟩))
      exact ⟨h1 _ (by simp), h1 _ (by simp)⟩
    have bl : Bs.length ≤ 1000 := by rw [hB.1.length_eq]; omega
    have m0 : DiN H (upd H3 Y (.lst ys)) D Pl am (downsOf (Bs.take 0)) := m4
    refine for_it (walk_list (K := K) (a := Y) (xs := ys)) (fun i σ H' => ∃ pv u, σ = [some (.ref N), some (.ref D), pv, u] ∧ Same H H' ∧ H' Y = some (.lst ys) ∧ DiN H H' D Pl am (downsOf (Bs.take i)))
      ⟨_, _, rfl, same_snoc sm nY, upd_same, m0⟩ (fun i σ H' _ ⟨_, _, _, _, e, _⟩ => .of e) ?_ ?_
    · rintro i x σ H4 H5 hi ⟨pv, u, rfl, sm, eY, hM⟩ ⟨rfl, hx⟩
      obtain ⟨b, t, eb, rfl, nt, et⟩ := hys i x hx
      obtain ⟨b1, b2⟩ := hmem b (List.mem_of_getElem? eb)
      have tl : (Bs.take i).length ≤ 1000 := Nat.le_trans (by rw [List.length_take]; exact Nat.min_le_right _ _) bl
      refine ⟨_, rfl, _, rfl, t, _, 0, _, rfl, rfl, .of (sm _ _ et), rfl, D, .ref (am b.1), rfl, hM.get b1, .inl ⟨rfl, _, .of (hM.val _ b1)⟩, _, rfl, t, _, 1, _, rfl, rfl, .of (sm _ _ et), rfl, am b.1, _, .int b.2, rfl, rfl, hM.val _ b1, ?_, ?_⟩
      · rw [List.length_map]
        exact Nat.lt_of_le_of_lt (downsOf_len _ _) (by omega)
      refine ⟨_, _, rfl, fun c o e => ?_, ?_, ?_⟩
      · rw [upd_ne (fun z => by rw [z, hM.na _ b1] at e; cases e)]
        exact sm _ _ e
      · rw [upd_ne (nYM _ b1).symm]
        exact eY
      · rw [← take_snoc eb, downsOf_snoc]
        exact hM.app (x := b.2) b1
    rintro σ H4 ⟨pv, u, rfl, sm, eY, hM⟩
    rw [hyl, List.take_length] at hM
    exact ⟨_, rfl, q _ D am sm hM⟩


set_option maxHeartbeats 4000000 in
theorem ok_law_renamed  (F : Fun K "_law_renamed" "_law_renamed" s_law_renamed f fd) (T : Txt w K mg) : FnOk P w K mg base CX0 (k + 1) f fd ["net", "number"] (sp_law_renamed) := by
  refine F.ok sc_law_renamed (fun vs H Q E h => ?_) (fun cdv A outer s0 H vs Q E hr h => ?_)
  · obtain ⟨S, x, D, As, Ls, Pl, f, rfl, hS, hx, eD, hA, hL, hl1, hl2, q⟩ := h
    rfl
  · obtain ⟨S, x, D, As, Ls, Pl, f, rfl, hS, hx, eD, hA, hL, hl1, hl2, q⟩ := h
    refine ⟨_, (pss_cons (ps_setLc (i := 2) (own := [("arrow", 4)]) (by rfl) sc_law_renamed.nd rfl rfl (sw_true rfl rfl rfl (by decide +kernel)) (pi_list (pe_ix ix_list (pv 0) pe_int (fun _ _ => rfl))) (blkOk_by (own := [("arrow", 4)]) (N := ["net", "number", "arrows", "leaves", "arrow", "leaf"]) (sc := defScope s_law_renamed) (by decide +kernel)) (fun _ _ _ _ _ => pg_name (i := 4) sc_law_renamed.nd rfl (Or.inl rfl)) (fun _ _ _ _ _ => pts_nil) (fun _ _ _ _ _ => (pe_tup (pa_cons (pe_dget (u1 hr) (pv 1) (pe_ix (ix_tupK K rfl) (pv 4) pe_int (fun _ _ => rfl)) (fun _ _ => rfl)) (pa_cons (pe_dget (u1 hr) (pv 1) (pe_ix (ix_tupK K rfl) (pv 4) pe_int (fun _ _ => rfl)) (fun _ _ => rfl)) pa_nil)))))
      (pss_cons (ps_setLc (i := 3) (own := [("leaf", 5)]) (by rfl) sc_law_renamed.nd rfl rfl (sw_true rfl rfl rfl (by decide +kernel)) (pi_list (pe_ix ix_list (pv 0) pe_int (fun _ _ => rfl))) (blkOk_by (own := [("leaf", 5)]) (N := ["net", "number", "arrows", "leaves", "arrow", "leaf"]) (sc := defScope s_law_renamed) (by decide +kernel)) (fun _ _ _ _ _ => pg_name (i := 5) sc_law_renamed.nd rfl (Or.inl rfl)) (fun _ _ _ _ _ => pts_nil) (fun _ _ _ _ _ => (pe_tup (pa_cons (pe_dget (u1 hr) (pv 1) (pe_ix (ix_tupK K rfl) (pv 5) pe_int (fun _ _ => rfl)) (fun _ _ => rfl)) (pa_cons (pe_ix (ix_tupK K rfl) (pv 5) pe_int (fun _ _ => rfl)) pa_nil)))))
      (pss_one (ps_ret (pe_lst (pa_cons (pe_callB cr_sortedPO (by rfl) T.sorted (by decide +kernel) (pa_cons (pv 2) pa_nil)) (pa_cons (pe_callB cr_sortedPS (by rfl) T.sorted (by decide +kernel) (pa_cons (pv 3) pa_nil)) pa_nil))))))), ?_⟩
    obtain ⟨N, A1, L, xs, ys, rfl, nN, eN, nA, eA, hA', nL, eL, hL'⟩ := da_net hx
    have lx : xs.length = As.length := by rw [hA'.length, List.length_map]
    have ly : ys.length = Ls.length := by rw [hL'.length, List.length_map]
    have sz : 1000 < sizeLine := by decide
    have gD : ∀ {p : Int} {H' : Hp}, p ∈ Pl → Same H H' → DGet H' D (.int p) (some (.int (f p))) := fun hp s => .inl ⟨_, .inl _, .inl (s _ _ eD), rfl, (valV_dIs hp).symm⟩
    refine seq_asg ?_
    refine lc_listD (K := K) (S := S) (fun R h => ⟨_, rfl, N, _, ((0 : Nat) : Int), .ref A1, rfl, rfl, .of eN, atI_nat (j := 0) rfl, h⟩) eA hS ((As.map fun a => (f a.1, f a.2)).map pd) (by rw [List.length_map, List.length_map, lx]) (by omega) ?_ ?_
    · rintro i x H2 N' B z hz sm hS2 hx hB
      obtain ⟨p, t, ed, rfl, nt, et⟩ := hA'.pdS sm hx
      rw [List.getElem?_map, List.getElem?_map, ed] at hz
      cases hz
      have hp := hA p (List.mem_of_getElem? ed)
      refine ⟨rfl, _, rfl, _, rfl, t, _, 0, _, rfl, rfl, .of et, rfl, D, _, rfl, gD hp.1 sm, _, rfl, _, rfl, t, _, 1, _, rfl, rfl, .of et, rfl, D, _, rfl, gD hp.2 sm, (by show 2 ≤ sizeLine; decide), fun t2 n2 => ?_⟩
      have d := da_pd2 (S := S) (p := (f p.1, f p.2)) hS2 (Same.refl _) n2
      exact hB _ _ (same_snoc (Same.refl _) n2) d.1 fun D2 h1 h2 => d.2 D2 h1
    intro D1 ys1 H1 nD1 s1 nS1 e1 hd1
    refine seq_asg ?_
    refine lc_listD (K := K) (S := S) (fun R h => ⟨_, rfl, N, _, ((1 : Nat) : Int), .ref L, rfl, rfl, .of (s1 _ _ eN), atI_nat (j := 1) rfl, h⟩) (s1 _ _ eL) (hS.same s1) ((Ls.map fun l => (f l.1, l.2)).map ld) (by rw [List.length_map, List.length_map, ly]) (by omega) ?_ ?_
    · rintro i x H2 N' B z hz sm hS2 hx hB
      have sm2 : Same H H2 := fun b o e => sm _ _ (s1 _ _ e)
      obtain ⟨p, t, ed, rfl, nt, et⟩ := hL'.ldS sm2 hx
      rw [List.getElem?_map, List.getElem?_map, ed] at hz
      cases hz
      have hp := hL p (List.mem_of_getElem? ed)
      refine ⟨rfl, _, rfl, _, rfl, t, _, 0, _, rfl, rfl, .of et, rfl, D, _, rfl, gD hp sm2, _, rfl, t, _, 1, _, rfl, rfl, .of et, rfl, (by show 2 ≤ sizeLine; decide), fun t2 n2 => ?_⟩
      have d := da_ld2 (S := S) (p := (f p.1, p.2)) hS2 (Same.refl _) n2
      exact hB _ _ (same_snoc (Same.refl _) n2) d.1 fun D2 h1 h2 => d.2 D2 h1
    intro D2 ys2 H2 nD2 s2 nS2 e2 hd2
    have s12 : Same H H2 := fun b o e => s2 _ _ (s1 _ _ e)
    have hd1' := hd1.same s2
    obtain ⟨Bs, hB⟩ := srtA_exists (As.map fun a => (f a.1, f a.2))
    refine ⟨_, rfl, D1, ys1, pairAt H2, rfl, .of (s2 _ _ e1), fun x hx => ?_, fun zs Y hs1 hs2 nY => ?_⟩
    · obtain ⟨i, hi⟩ := List.mem_iff_getElem?.mp hx
      obtain ⟨p, t, _, rfl, _, et⟩ := hd1'.pd hi
      rw [pairAt_eq et]
      exact ⟨t, rfl, et⟩
    have ha := sorted_pdA hd1' hB hs1 hs2
    have s3 : Same H2 (upd H2 Y (.lst zs)) := same_snoc (Same.refl _) nY
    have nSY : ¬ S Y := (hS.same s12).free nY
    have eY : upd H2 Y (.lst zs) Y = some (.lst zs) := upd_same
    generalize upd H2 Y (.lst zs) = H3 at s3 eY
    have ha3 := ha.same s3
    have hd2' := hd2.same s3
    refine ⟨_, rfl, D2, ys2, isAt H3, rfl, .of (s3 _ _ e2), fun x hx => ?_, fun zs2 Z hs1 hs2 nZ => ?_⟩
    · obtain ⟨i, hi⟩ := List.mem_iff_getElem?.mp hx
      obtain ⟨p, t, _, rfl, _, et⟩ := hd2'.ld hi
      rw [isAt_eq et]
      exact ⟨t, rfl, et⟩
    obtain ⟨Ms, hM, hl⟩ := sorted_ldA hd2' hs1 hs2
    have s13 : Same H H3 := fun b o e => s3 _ _ (s12 _ _ e)
    have s4 : Same H3 (upd H3 Z (.lst zs2)) := same_snoc (Same.refl _) nZ
    have nSZ : ¬ S Z := (hS.same s13).free nZ
    have eZ : upd H3 Z (.lst zs2) Z = some (.lst zs2) := upd_same
    generalize upd H3 Z (.lst zs2) = H4 at s4 eZ
    have s14 : Same H H4 := fun b o e => s4 _ _ (s13 _ _ e)
    refine ⟨(by show 2 ≤ sizeLine; decide), fun W nW => ?_⟩
    have s5 : Same H4 (upd H4 W (.lst [.ref Y, .ref Z])) := same_snoc (Same.refl _) nW
    refine q _ _ Bs Ms (same_snoc s14 nW) hB.1 hM.1 ⟨.refl _, hB.2⟩ ⟨.refl _, hM.2⟩ (.lst ((hS.same s14).free nW) upd_same (.cons (.lst nSY (s5 _ _ (s4 _ _ eY)) ((ha3.same s4).same s5)) (.one (.lst nSZ (s5 _ _ eZ) ((hl.same s4).same s5)))))


set_option maxHeartbeats 4000000 in
theorem ok_law_lists  (F : Fun K "_law_lists" "_law_lists" s_law_lists f fd) (T : Txt w K mg)
    (O_law_mixed : Own P w K mg base k "_law_mixed" ["store", "things"] (sp_law_mixed)) : FnOk P w K mg base CX0 (k + 1) f fd ["store", "net"] (sp_law_lists) := by
  refine F.ok sc_law_lists (fun vs H Q E h => ?_) (fun cdv A outer s0 H vs Q E hr h => ?_)
  · obtain ⟨S, s, x, As, Ls, rfl, hS, hx, hl1, hl2, q⟩ := h
    rfl
  · obtain ⟨S, s, x, As, Ls, rfl, hS, hx, hl1, hl2, q⟩ := h
    refine ⟨_, (pss_one (ps_ret (pe_lst (pa_cons (pe_own O_law_mixed hr (by rfl) (pa_cons (pv 0) (pa_cons (pe_ix ix_list (pv 1) pe_int (fun _ _ => rfl)) pa_nil))) (pa_cons (pe_own O_law_mixed hr (by rfl) (pa_cons (pv 0) (pa_cons (pe_ix ix_list (pv 1) pe_int (fun _ _ => rfl)) pa_nil))) pa_nil))))), ?_⟩
    obtain ⟨N, A, L, xs, ys, rfl, nN, eN, nA, eA, hA, nL, eL, hL⟩ := da_net hx
    have nNs : N ≠ s := fun z => nN (z ▸ hS.at_)
    have nLs : L ≠ s := fun z => nL (z ▸ hS.at_)
    refine ⟨_, rfl, _, rfl, N, _, ((0 : Nat) : Int), .ref A, rfl, rfl, .of eN, atI_nat (j := 0) rfl, S, s, .ref A, As.map pd, rfl, hS, .lst nA eA hA, by rw [List.length_map]; exact hl1, fun H1 v1 es1 k1 so1 p1 d1 w1 => ?_⟩
    have S1 := hS.keep k1 so1
    refine ⟨_, rfl, _, rfl, N, _, ((1 : Nat) : Int), .ref L, rfl, rfl, .of (k1 _ _ nNs eN), atI_nat (j := 1) rfl, S, s, .ref L, Ls.map ld, rfl, S1, .lst nL (k1 _ _ nLs eL) (hL.keep k1 hS.at_), by rw [List.length_map]; exact hl2, fun H2 v2 es2 k2 so2 p2 d2 w2 => ?_⟩
    obtain ⟨As', hp1, rfl⟩ := perm_pd p1
    obtain ⟨Ls', hp2, rfl⟩ := perm_ld p2
    have S2 := S1.keep k2 so2
    refine ⟨(by show 2 ≤ sizeLine; decide), fun R nR => ?_⟩
    obtain ⟨H3, e3, S3, k3, sm3, h3, f3, _⟩ := fresh (.lst [v1, v2]) S2 (k1.trans k2) nR
    rw [e3]
    refine q H3 (.ref R) As' Ls' k3 S3.so hp1 hp2 (.lst f3 h3 (.cons ((d1.keep k2 hS.at_).same sm3) (.one (d2.same sm3)))) ?_
    obtain ⟨a1, rfl, n1⟩ := w1
    obtain ⟨a2, rfl, n2⟩ := w2
    obtain ⟨_, xs1, e1, _, ea1, _⟩ := d1.list
    cases e1
    obtain ⟨_, xs2, e2, _, ea2, _⟩ := d2.list
    cases e2
    have as : a1 ≠ s := fun z => by
      obtain ⟨o, e⟩ := hS.so.there
      rw [z, e] at n1
      cases n1
    exact ⟨R, a1, a2, rfl, h3, n1, k1.free (S1.ne n2) n2, (fun z => by rw [z, n2] at ea1; cases ea1), (fun z => by rw [← z, k2.fn _ _ as ea1] at nR; cases nR), (fun z => by rw [← z, ea2] at nR; cases nR)⟩


set_option maxHeartbeats 4000000 in
theorem ok_law_is_net  (F : Fun K "_law_is_net" "_law_is_net" s_law_is_net f fd) (T : Txt w K mg)
    (O_law_same : Own P w K mg base k "_law_same" ["given", "due"] (sp_law_same 4))
    (O_Net_leaves : OwnM P w K mg base k (He.ga K "Net") "leaves" ["self"] (sp_Net_leaves K))
    (O_Net_arrows : OwnM P w K mg base k (He.ga K "Net") "arrows" ["self"] (sp_Net_arrows K)) : FnOk P w K mg base CX0 (k + 1) f fd ["given", "net"] (sp_law_is_net K) := by
  refine F.ok sc_law_is_net (fun vs H Q E h => ?_) (fun cdv A outer s0 H vs Q E hr h => ?_)
  · obtain ⟨S, o, x, As, Bs, Ls, Ls', Ms, Pl, root, rfl, al, hN, hx, g, hB, hM, q⟩ := h
    rfl
  · obtain ⟨S, o, x, As, Bs, Ls, Ls', Ms, Pl, root, rfl, al, hN, hx, g, hB, hM, q⟩ := h
    refine ⟨_, (pss_one (ps_ret (pe_and (pe_own O_law_same hr (by rfl) (pa_cons (pe_ownM0 O_Net_arrows hr T.Net_cls (pv 0)) (pa_cons (pe_callB cr_sortedPO (by rfl) T.sorted (by decide +kernel) (pa_cons (pe_ix ix_list (pv 1) pe_int (fun _ _ => rfl)) pa_nil)) pa_nil))) (pe_one (pe_own O_law_same hr (by rfl) (pa_cons (pe_ownM0 O_Net_leaves hr T.Net_cls (pv 0)) (pa_cons (pe_callB cr_sortedPS (by rfl) T.sorted (by decide +kernel) (pa_cons (pe_ix ix_list (pv 1) pe_int (fun _ _ => rfl)) pa_nil)) pa_nil))))))), ?_⟩
    have sz : 1000 < sizeLine := by decide
    have a46 := g.a46
    have l12 := g.l12
    have lB : Bs.length = As.length := hB.1.length_eq
    have lM : Ms.length = Ls.length := hM.1.length_eq
    obtain ⟨dx, A1, L1, M, C, NA, PA, NM, am, ac, ys0, zs0, ns0, eo, _⟩ := hN.ex
    obtain ⟨W, A, L, xs, ys, rfl, nW, eW, nA, eA, hA, nL, eL, hL⟩ := da_net hx
    have at_ : ∀ {H' : Hp}, Same H H' → NetAt S K H' o Bs Ls' Ms Pl root := fun s => hN.go fun b u hb e => ⟨hb, s _ _ e⟩
    have zM : ∀ p ∈ Ms, p.2.length ≤ 1000 := fun p hp => Nat.le_trans (g.nm p (hM.1.mem_iff.mp hp)).2 (by decide)
    refine ⟨_, rfl, o, dx, _, rfl, eo, rfl, S, o, Bs, Ls', Ms, Pl, root, rfl, hN, fun H1 R1 ys1 s1 nR1 eR1 hR1 => ?_⟩
    have d1 : Da S H1 (.ref R1) (.list (Bs.map pd)) := .lst (al.free nR1) eR1 hR1
    refine ⟨_, rfl, W, _, ((0 : Nat) : Int), .ref A, rfl, rfl, .of (s1 _ _ eW), atI_nat (j := 0) rfl, A, xs, pairAt H1, rfl, .of (s1 _ _ eA), fun x hx => ?_, fun As1 R2 hs1 hs2 nR2 => ?_⟩
    · obtain ⟨i, hi⟩ := List.mem_iff_getElem?.mp hx
      obtain ⟨p, tt, _, rfl, _, et⟩ := (hA.same s1).pd hi
      rw [pairAt_eq et]
      exact ⟨tt, rfl, et⟩
    have hAs := sorted_pdA (hA.same s1) hB hs1 hs2
    have s2 : Same H (upd H1 R2 (.lst As1)) := same_snoc s1 nR2
    have d2 : Da S (upd H1 R2 (.lst As1)) (.ref R2) (.list (Bs.map pd)) := .lst ((al.same s1).free nR2) upd_same (hAs.new nR2)
    have d1 := d1.new (o := .lst As1) nR2
    refine ⟨S, .ref R1, .ref R2, _, _, 1000, 3, rfl, al.same s2, d1, d2, (dd_pdL (by omega)).lift (by decide), by decide, by decide, fun H3 b s3 hb => ⟨_, rfl, ?_⟩⟩
    obtain rfl := hb.mpr rfl
    refine ite2 (fun _ => ?_) fun e => absurd rfl e
    have s3 := s2.trans s3
    clear s2 d1 d2 nR2 nR1 eR1 hR1 hs1 hs2 hAs
    refine ⟨_, rfl, o, dx, _, rfl, s3 _ _ eo, rfl, S, o, Bs, Ls', Ms, Pl, root, rfl, at_ s3, fun H4 R1 ys1 s4 nR1 eR1 hR1 => ?_⟩
    have d1 : Da S H4 (.ref R1) (.list (Ms.map ld)) := .lst ((al.same s3).free nR1) eR1 hR1
    have s4 := s3.trans s4
    refine ⟨_, rfl, W, _, ((1 : Nat) : Int), .ref L, rfl, rfl, .of (s4 _ _ eW), atI_nat (j := 1) rfl, L, ys, isAt H4, rfl, .of (s4 _ _ eL), fun x hx => ?_, fun As1 R2 hs1 hs2 nR2 => ?_⟩
    · obtain ⟨i, hi⟩ := List.mem_iff_getElem?.mp hx
      obtain ⟨p, tt, _, rfl, _, et⟩ := (hL.same s4).ld hi
      rw [isAt_eq et]
      exact ⟨tt, rfl, et⟩
    obtain ⟨Ms2, hMs2, hLs⟩ := sorted_ldA (hL.same s4) hs1 hs2
    have eMs : Ms2 = Ms := hMs2.uniq hM g.lp
    rw [eMs] at hLs
    have s5 : Same H (upd H4 R2 (.lst As1)) := same_snoc s4 nR2
    have d2 : Da S (upd H4 R2 (.lst As1)) (.ref R2) (.list (Ms.map ld)) := .lst ((al.same s4).free nR2) upd_same (hLs.new nR2)
    have d1 := d1.new (o := .lst As1) nR2
    refine ⟨S, .ref R1, .ref R2, _, _, 1000, 3, rfl, al.same s5, d1, d2, (dd_lds (by omega) zM).lift (by decide), by decide, by decide, fun H6 b s6 hb => ?_⟩
    obtain rfl := hb.mpr rfl
    exact q _ (s5.trans s6)


set_option maxHeartbeats 4000000 in
theorem ok_law_paper  (F : Fun K "_law_paper" "_law_paper" s_law_paper f fd) (T : Txt w K mg) : FnOk P w K mg base CX0 (k + 1) f fd ["number"] (sp_law_paper) := by
  refine F.ok sc_law_paper (fun vs H Q E h => ?_) (fun cdv A outer s0 H vs Q E hr h => ?_)
  · obtain ⟨S, D, P0, Pl, f, rfl, hS, eD, hp0, h64, hP, q⟩ := h
    rfl
  · obtain ⟨S, D, P0, Pl, f, rfl, hS, eD, hp0, h64, hP, q⟩ := h
    refine ⟨_, (pss_one (ps_ret (pe_lc (own := [("place", 1)]) (by rfl) sc_law_paper.nd (pi_list (pe_callB (call_sortedDI rfl) (by rfl) T.sorted (by decide +kernel) (pa_cons (pv 0) pa_nil))) (blkOk_by (own := [("place", 1)]) (N := ["number", "place"]) (sc := defScope s_law_paper) (by decide +kernel)) (fun _ _ _ _ _ => pg_name (i := 1) sc_law_paper.nd rfl (Or.inl rfl)) (fun _ _ _ _ _ => pts_nil) (fun _ _ _ _ _ => (pe_tup (pa_cons (pv 1) (pa_cons (pe_dget (u1 hr) (pv 0) (pv 1) (fun _ _ => rfl)) pa_nil))))))), ?_⟩
    have sz : 1000 < sizeLine := by decide
    refine ret_h (lc_td ?_)
    refine ⟨_, rfl, D, _, P0, rfl, .inl eD, by rw [List.map_map]; rfl, by rw [hp0.length_eq]; exact h64, fun ys R hp hs nR => ?_⟩
    obtain rfl := asc_perm hP (hp.trans hp0) hs
    have s1 : Same H (upd H R (.lst (ys.map V.int))) := same_snoc (Same.refl _) nR
    have eR : upd H R (.lst (ys.map V.int)) R = some (.lst (ys.map V.int)) := upd_same
    generalize upd H R (.lst (ys.map V.int)) = H1 at s1 eR
    refine lc_listD (K := K) (S := S) (fun R h => h) eR (hS.same s1) ((ys.map fun p => (p, f p)).map pd) (by simp only [List.length_map]) (by rw [List.length_map]; omega) ?_ ?_
    · rintro i x H2 N' B z hz sm hS2 hx hB
      rw [List.getElem?_map] at hx
      obtain ⟨p, hp, rfl⟩ := Option.map_eq_some_iff.mp hx
      rw [List.getElem?_map, List.getElem?_map, hp] at hz
      cases hz
      have gD : DGet H2 D (.int p) (some (.int (f p))) := .inl ⟨_, .inl p, .inl (sm _ _ (s1 _ _ eD)), rfl, (valV_dIs (hp0.mem_iff.mpr (List.mem_of_getElem? hp))).symm⟩
      refine ⟨rfl, _, rfl, _, rfl, _, rfl, D, _, rfl, gD, (by show 2 ≤ sizeLine; decide), fun t2 n2 => ?_⟩
      have d := da_pd2 (S := S) (p := (p, f p)) hS2 (Same.refl _) n2
      exact hB _ _ (same_snoc (Same.refl _) n2) d.1 fun D2 h1 h2 => d.2 D2 h1
    intro D2 zs H2 nD2 s2 nSD2 eD2 hzs
    exact q H2 _ (fun b o e => s2 _ _ (s1 _ _ e)) (.lst nSD2 eD2 hzs)


set_option maxHeartbeats 4000000 in
theorem ok_law_fits  (F : Fun K "_law_fits" "_law_fits" s_law_fits f fd) (T : Txt w K mg)
    (O_law_ups : Own P w K mg base k "_law_ups" ["net"] (sp_law_ups))
    (O_law_downs : Own P w K mg base k "_law_downs" ["net"] (sp_law_downs))
    (O_law_all : Own P w K mg base k "_law_all" ["net"] (sp_law_all)) : FnOk P w K mg base CX0 (k + 1) f fd ["net", "number"] (sp_law_fits) := by
  refine F.ok sc_law_fits (fun vs H Q E h => ?_) (fun cdv A outer s0 H vs Q E hr h => ?_)
  · obtain ⟨S, x, D, As, Bs, Ls, P0, Pl, f, rfl, al, hx, g, hB, eD, hp0, q⟩ := h
    rfl
  · obtain ⟨S, x, D, As, Bs, Ls, P0, Pl, f, rfl, al, hx, g, hB, eD, hp0, q⟩ := h
    refine ⟨_, (pss_cons (ps_set (i := 2) sc_law_fits.nd rfl (Or.inl rfl) (pe_own O_law_ups hr (by rfl) (pa_cons (pv 0) pa_nil)))
      (pss_cons (ps_set (i := 3) sc_law_fits.nd rfl (Or.inl rfl) (pe_own O_law_downs hr (by rfl) (pa_cons (pv 0) pa_nil)))
      (pss_cons (ps_for PassesOwn.never rfl (pi_list (pe_callB cr_sortedPO (by rfl) T.sorted (by decide +kernel) (pa_cons (pe_ix ix_list (pv 0) pe_int (fun _ _ => rfl)) pa_nil))) (pg_name (i := 4) sc_law_fits.nd rfl (Or.inl rfl))
        (pss_cons (ps_set (i := 5) sc_law_fits.nd rfl (Or.inl rfl) (pe_dget (u1 hr) (pv 1) (pe_ix ix_tup (pv 4) pe_int (fun _ _ => rfl)) (fun _ _ => rfl)))
        (pss_cons (ps_set (i := 6) sc_law_fits.nd rfl (Or.inl rfl) (pe_dget (u1 hr) (pv 1) (pe_ix ix_tup (pv 4) pe_int (fun _ _ => rfl)) (fun _ _ => rfl)))
        (pss_one (ps_if (PW.pt (pw_or (pt_cmpR op_gt (pv 5) (pv 6) (nomark _)) (pw_or1 (PW.pt (pw_and (pt_cmpR op_eq (pv 5) (pv 6) (nomark _)) (pw_and1 (pt_cmpR op_ne (pe_callB call_len_seq (by rfl) T.len PySem.boot_len (pa_cons (pe_dget (u1 hr) (pv 2) (pe_ix ix_tup (pv 4) pe_int (fun _ _ => rfl)) (fun _ _ => rfl)) pa_nil)) pe_int (nomark _))))))))
          (pss_one (ps_ret (pe_tup (pa_cons pe_str (pa_cons (pv 4) pa_nil)))))
          pss_nil)))))
      (pss_cons (ps_for PassesOwn.never rfl (pi_list (pe_own O_law_all hr (by rfl) (pa_cons (pv 0) pa_nil))) (pg_name (i := 7) sc_law_fits.nd rfl (Or.inr rfl))
        (pss_one (ps_if (pt_cmpR op_eq (pe_callB call_len_seq (by rfl) T.len PySem.boot_len (pa_cons (pe_dget (u1 hr) (pv 2) (pv 7) (fun _ _ => rfl)) pa_nil)) pe_int (nomark _))
          (pss_one (ps_if (pt_cmpR op_ne (pe_callB call_len_seq (by rfl) T.len PySem.boot_len (pa_cons (pe_lc (own := [("mother", 8)]) (by rfl) sc_law_fits.nd (pi_list (pe_dget (u1 hr) (pv 2) (pv 7) (fun _ _ => rfl))) (blkOk_by (own := [("mother", 8)]) (N := ["net", "number", "ups", "downs", "arrow", "before", "after", "place", "mother", "kid"]) (sc := defScope s_law_fits) (by decide +kernel)) (fun _ _ _ _ _ => pg_name (i := 8) sc_law_fits.nd rfl (Or.inl rfl)) (fun _ _ _ _ _ => (pts_one (pt_cmpR op_eq (pe_dget (u1 hr) (pv 1) (pv 8) (fun _ _ => rfl)) (pe_dget (u1 hr) (pv 1) (pv 7) (fun _ _ => rfl)) (nomark _)))) (fun _ _ _ _ _ => (pv 8))) pa_nil)) pe_int (nomark _))
            (pss_one (ps_ret (pe_tup (pa_cons pe_str (pa_cons (pv 7) pa_nil)))))
            pss_nil))
          pss_nil)))
      (pss_cons (ps_for PassesOwn.never rfl (pi_list (pe_own O_law_all hr (by rfl) (pa_cons (pv 0) pa_nil))) (pg_name (i := 7) sc_law_fits.nd rfl (Or.inr rfl))
        (pss_one (ps_if (pt_cmpR op_gt (pe_callB call_len_seq (by rfl) T.len PySem.boot_len (pa_cons (pe_dget (u1 hr) (pv 3) (pv 7) (fun _ _ => rfl)) pa_nil)) pe_int (nomark _))
          (pss_one (ps_if (pt_cmpR op_eq (pe_callB call_len_seq (by rfl) T.len PySem.boot_len (pa_cons (pe_lc (own := [("kid", 9)]) (by rfl) sc_law_fits.nd (pi_list (pe_dget (u1 hr) (pv 3) (pv 7) (fun _ _ => rfl))) (blkOk_by (own := [("kid", 9)]) (N := ["net", "number", "ups", "downs", "arrow", "before", "after", "place", "mother", "kid"]) (sc := defScope s_law_fits) (by decide +kernel)) (fun _ _ _ _ _ => pg_name (i := 9) sc_law_fits.nd rfl (Or.inl rfl)) (fun _ _ _ _ _ => (pts_one (pt_cmpR op_gt (pe_dget (u1 hr) (pv 1) (pv 9) (fun _ _ => rfl)) (pe_dget (u1 hr) (pv 1) (pv 7) (fun _ _ => rfl)) (nomark _)))) (fun _ _ _ _ _ => (pv 9))) pa_nil)) pe_int (nomark _))
            (pss_one (ps_ret (pe_tup (pa_cons pe_str (pa_cons (pv 7) pa_nil)))))
            pss_nil))
          pss_nil)))
      (pss_one (ps_ret pe_non))))))), ?_⟩
    have h0 : ∀ p ∈ Pl, p ∈ P0 := fun p h => hp0.mem_iff.mpr h
    have sz : 1000 < sizeLine := by decide
    have a46 := g.a46
    have l12 := g.l12
    have p64 := g.p64
    have lB : Bs.length = As.length := hB.1.length_eq
    have hends : ∀ b ∈ Bs, b.1 ∈ Pl ∧ b.2 ∈ Pl := fun b hb => g.ends b (hB.1.mem_iff.mp hb)
    obtain ⟨W, A, L, xs, ys, rfl, nW, eW, nA, eA, hA, nL, eL, hL⟩ := da_net hx
    have xn : ∀ {H' : Hp}, Same H H' → Da S H' (.ref W) (netD As Ls) := fun s => hx.same s
    refine ⟨_, rfl, S, .ref W, As, Bs, Ls, Pl, rfl, hx, by omega, g.asc, g.p64, hB, fun HU U ua sU hU => ?_⟩
    have hU : DiR HU U Pl ua (upsOf Bs) := ⟨.inl hU.at_, hU.val⟩
    refine ⟨_, rfl, S, .ref W, As, Bs, Ls, Pl, rfl, xn sU, by omega, g.asc, g.p64, hB, fun HD DD da sD hD => ?_⟩
    have hD : DiR HD DD Pl da (downsOf Bs) := ⟨.inl hD.at_, hD.val⟩
    have hU := hU.same sD
    have tD : Same H HD := sU.trans sD
    refine ⟨_, rfl, W, _, ((0 : Nat) : Int), .ref A, rfl, rfl, .of (tD _ _ eW), atI_nat (j := 0) rfl, A, xs, pairAt HD, rfl, .of (tD _ _ eA), fun x hx => ?_, fun As1 R2 hs1 hs2 nR2 => ⟨R2, rfl, ⟨_, .of upd_same⟩, ?_⟩⟩
    · obtain ⟨i, hi⟩ := List.mem_iff_getElem?.mp hx
      obtain ⟨p, tt, _, rfl, _, et⟩ := (hA.same tD).pd hi
      rw [pairAt_eq et]
      exact ⟨tt, rfl, et⟩
    have hAs := sorted_pdA (hA.same tD) hB hs1 hs2
    show ∃ W : Nat → Nat → L2.St → Hp → Prop, (∃ m, W 0 m _ (upd HD R2 (.lst As1))) ∧ _
    have s2 : Same HD (upd HD R2 (.lst As1)) := same_snoc (Same.refl _) nR2
    have eR2 : upd HD R2 (.lst As1) R2 = some (.lst As1) := upd_same
    generalize upd HD R2 (.lst As1) = H2 at s2 eR2
    have hAs := hAs.same s2
    have hU := hU.same s2
    have hD := hD.same s2
    have t2 : Same H H2 := tD.trans s2
    have eD2 := t2 _ _ eD
    have lA1 : As1.length = Bs.length := by rw [hAs.length, List.length_map]
    clear nR2 s2 tD sD sU hs1 hs2
    refine for_it (walk_list (K := K) (a := R2) (xs := As1)) (fun i σ H' => H' = H2 ∧ (∀ j, j < i → ∀ c, Bs[j]? = some c → backB Bs f c = false) ∧ ∃ v4 v5 v6 : Option V, σ = [some (.ref W), some (.ref D), some (.ref U), some (.ref DD), v4, v5, v6, none, none, none]) ⟨rfl, fun j hj => absurd hj (Nat.not_lt_zero _), _, _, _, rfl⟩ (fun i σ H' _ h => by rw [h.1]; exact .of eR2) ?_ ?_
    · rintro i x σ H3 H3' hi ⟨rfl, hp, v4, v5, v6, rfl⟩ ⟨rfl, hx⟩
      obtain ⟨b, t, eb, rfl, nt, et⟩ := hAs.pd hx
      have hbm := hends b (List.mem_of_getElem? eb)
      have g1 := DGet.of_dIs eD2 (h0 _ hbm.1)
      have g2 := DGet.of_dIs eD2 (h0 _ hbm.2)
      refine ⟨_, rfl, _, rfl, t, _, ((0 : Nat) : Int), .int b.1, rfl, rfl, .of et, atI_nat (j := 0) rfl, D, _, rfl, g1, ?_⟩
      refine ⟨_, rfl, _, rfl, t, _, ((1 : Nat) : Int), .int b.2, rfl, rfl, .of et, atI_nat (j := 1) rfl, D, _, rfl, g2, ?_⟩
      have hret : backB Bs f b = true → ∀ Tp, H3' Tp = none → Q (.ref Tp) (upd H3' Tp (.tup [.str "back", .ref t])) := fun hb Tp nT => q _ _ (same_snoc t2 nT) (by
        rw [mfD_back eb hb hp]
        exact .tup ((al.same t2).free nT) upd_same (.cons (.str _) (.one ((da_ofpd nt et).new nT))))
      refine ⟨_, rfl, _, rfl, _, _, rfl, rfl, _, rfl, ?_⟩
      by_cases h1 : f b.2 < f b.1
      · have hb1 : backB Bs f b = true := by unfold backB; rw [decide_eq_true h1]; rfl
        rw [decide_eq_true h1]
        refine ite2 (fun _ => ?_) fun e => absurd rfl e
        exact ite2 (fun _ => ⟨_, rfl, (by show 2 ≤ sizeLine; decide), fun Tp nT => hret hb1 Tp nT⟩) fun e => absurd rfl e
      rw [decide_eq_false h1]
      refine ite2 (fun e => absurd e (by decide)) fun _ => ?_
      refine ⟨_, rfl, _, rfl, rfl, _, rfl, ?_⟩
      have next : backB Bs f b = false → ∀ j, j < i + 1 → ∀ c, Bs[j]? = some c → backB Bs f c = false := fun hb j hj c hc => by
        rcases Nat.lt_or_eq_of_le (Nat.le_of_lt_succ hj) with h | rfl
        · exact hp j h c hc
        · rw [eb] at hc
          cases hc
          exact hb
      by_cases h2 : f b.1 = f b.2
      · rw [decide_eq_true (congrArg V.int h2)]
        refine ite2 (fun _ => ?_) fun e => absurd rfl e
        refine ⟨_, rfl, _, rfl, t, _, ((1 : Nat) : Int), .int b.2, rfl, rfl, .of et, atI_nat (j := 1) rfl, U, _, rfl, hU.get hbm.2, _, _, rfl, .inl (.of (hU.val _ hbm.2)), rfl, _, rfl, ?_⟩
        have e3 : backB Bs f b = !((upsOf Bs b.2).length == 2) := by unfold backB; rw [decide_eq_false h1, decide_eq_true h2, Bool.false_or, Bool.true_and]
        show if (!decide (V.int ((((upsOf Bs b.2).map V.int).length : Nat) : Int) = V.int ((2 : Nat) : Int))) = true then _ else _
        rw [dec_len, List.length_map]
        cases hc : (!((upsOf Bs b.2).length == 2)) with
        | true => exact ite2 (fun _ => ⟨_, rfl, (by show 2 ≤ sizeLine; decide), fun Tp nT => hret (e3.trans hc) Tp nT⟩) fun e => absurd rfl e
        | false => exact ite2 (fun e => absurd e (by decide)) fun _ => ⟨rfl, next (e3.trans hc), _, _, _, rfl⟩
      · rw [decide_eq_false (fun e => h2 (V.int.inj e))]
        refine ite2 (fun e => absurd e (by decide)) fun _ => ?_
        exact ite2 (fun e => absurd e (by decide)) fun _ => ⟨rfl, next (by unfold backB; rw [decide_eq_false h1, decide_eq_false h2]; rfl), _, _, _, rfl⟩
    rintro σ H3 ⟨rfl, hp, v4, v5, v6, rfl⟩
    have hback := all_upto (p := backB Bs f) (by omega) hp
    clear hp hAs eR2
    refine ⟨_, rfl, S, .ref W, As, Ls, Pl, rfl, xn t2, by omega, g.asc, g.p64, fun HA RA sA nRA eRA => ⟨RA, rfl, ⟨_, .of eRA⟩, ?_⟩⟩
    have hU := hU.same sA
    have hD := hD.same sA
    have tA := t2.trans sA
    have eD3 := sA _ _ eD2
    clear nRA sA eD2 t2
    refine for_it (walk_list (K := K) (a := RA) (xs := Pl.map V.int)) (fun i σ H' => Same HA H' ∧ (∀ j, j < i → ∀ c, Pl[j]? = some c → giftB Bs f c = false) ∧ ∃ v4 v5 v6 v7 : Option V, σ = [some (.ref W), some (.ref D), some (.ref U), some (.ref DD), v4, v5, v6, v7, none, none]) ⟨Same.refl _, fun j hj => absurd hj (Nat.not_lt_zero _), _, _, _, _, rfl⟩ (fun i σ H' _ h => .of (h.1 _ _ eRA)) ?_ ?_
    · rintro i x σ H4 H4' hi ⟨s4, hp, v4, v5, v6, v7, rfl⟩ ⟨rfl, hx⟩
      obtain ⟨p, ep, rfl⟩ := int_at hx
      have hpP := List.mem_of_getElem? ep
      have t4 := tA.trans s4
      have hU4 := hU.same s4
      have lu := Nat.le_trans (upsOf_len Bs p) (Nat.le_of_eq lB)
      have uP : ∀ c ∈ upsOf Bs p, c ∈ Pl := fun c hc => (hends (c, p) (mem_ups.mp hc)).1
      have next : giftB Bs f p = false → ∀ j, j < i + 1 → ∀ c, Pl[j]? = some c → giftB Bs f c = false := fun hb j hj c hc => by
        rcases Nat.lt_or_eq_of_le (Nat.le_of_lt_succ hj) with h | rfl
        · exact hp j h c hc
        · rw [ep] at hc
          cases hc
          exact hb
      refine ⟨_, rfl, _, rfl, U, _, rfl, hU4.get hpP, _, _, rfl, .inl (.of (hU4.val _ hpP)), rfl, _, rfl, ?_⟩
      show if decide (V.int ((((upsOf Bs p).map V.int).length : Nat) : Int) = V.int ((2 : Nat) : Int)) = true then _ else _
      rw [dec_len, List.length_map]
      cases hc : ((upsOf Bs p).length == 2) with
      | false => exact ite2 (fun e => absurd e (by decide)) fun _ => ⟨s4, next (by unfold giftB; rw [hc]; rfl), _, _, _, _, rfl⟩
      | true =>
      refine ite2 (fun _ => ?_) fun e => absurd rfl e
      refine ifs_h (test_h (op_h (cb_h (lc_td ?_))))
      refine ⟨_, rfl, _, rfl, U, _, rfl, hU4.get hpP, ?_⟩
      refine lc_listF (K := K) (fun R h => h) (hU4.val _ hpP) (fun u => f u == f p) (by omega) (fun _ => rfl) (fun _ => rfl) ?_ ?_
      · intro u hu H5 k s5 hk
        refine ⟨_, rfl, _, rfl, D, _, rfl, DGet.of_dIs (s5 _ _ (s4 _ _ eD3)) (h0 _ (uP u hu)), _, rfl, _, rfl, D, _, rfl, DGet.of_dIs (s5 _ _ (s4 _ _ eD3)) (h0 _ hpP), rfl, _, rfl, ?_⟩
        have e : decide (V.int (f u) = V.int (f p)) = (f u == f p) := by
          rw [Bool.eq_iff_iff, decide_eq_true_iff, beq_iff_eq]
          exact ⟨V.int.inj, congrArg V.int⟩
        rw [e]
        exact hk _ (Same.refl _)
      intro R H5 nR s5 e5
      refine ⟨R, _, rfl, .inl (.of e5), rfl, _, rfl, ?_⟩
      show if (!decide (V.int (((((upsOf Bs p).filter fun u => f u == f p).map V.int).length : Nat) : Int) = V.int ((1 : Nat) : Int))) = true then _ else _
      rw [dec_len, List.length_map, ← count_map]
      have e6 : giftB Bs f p = !((((upsOf Bs p).map f).count (f p)) == 1) := by unfold giftB; rw [hc, Bool.true_and]
      cases hg : (!((((upsOf Bs p).map f).count (f p)) == 1)) with
      | false => exact ite2 (fun e => absurd e (by decide)) fun _ => ⟨s4.trans s5, next (e6.trans hg), _, _, _, _, rfl⟩
      | true =>
        refine ite2 (fun _ => ?_) fun e => absurd rfl e
        refine ⟨_, rfl, (by show 2 ≤ sizeLine; decide), fun Tp nT => q _ _ (same_snoc (t4.trans s5) nT) ?_⟩
        rw [mfD_gift hback ep (e6.trans hg) hp]
        exact .tup ((al.same (t4.trans s5)).free nT) upd_same (.cons (.str _) (.one (.int _)))
    rintro σ H3 ⟨s3, hp, v4, v5, v6, v7, rfl⟩
    have hgift := all_upto (p := giftB Bs f) (by rw [List.length_map]; exact Nat.le_refl _) hp
    clear hp eRA
    have t3 := tA.trans s3
    refine ⟨_, rfl, S, .ref W, As, Ls, Pl, rfl, xn t3, by omega, g.asc, g.p64, fun HB RB sB nRB eRB => ⟨RB, rfl, ⟨_, .of eRB⟩, ?_⟩⟩
    have hD := (hD.same s3).same sB
    have tB := t3.trans sB
    have eD3 := sB _ _ (s3 _ _ eD3)
    clear nRB sB s3 t3 tA hU
    refine for_it (walk_list (K := K) (a := RB) (xs := Pl.map V.int)) (fun i σ H' => Same HB H' ∧ (∀ j, j < i → ∀ c, Pl[j]? = some c → lateB Bs f c = false) ∧ ∃ v4 v5 v6 v7 : Option V, σ = [some (.ref W), some (.ref D), some (.ref U), some (.ref DD), v4, v5, v6, v7, none, none]) ⟨Same.refl _, fun j hj => absurd hj (Nat.not_lt_zero _), _, _, _, _, rfl⟩ (fun i σ H' _ h => .of (h.1 _ _ eRB)) ?_ ?_
    · rintro i x σ H4 H4' hi ⟨s4, hp, v4, v5, v6, v7, rfl⟩ ⟨rfl, hx⟩
      obtain ⟨p, ep, rfl⟩ := int_at hx
      have hpP := List.mem_of_getElem? ep
      have t4 := tB.trans s4
      have hD4 := hD.same s4
      have ld := Nat.le_trans (downsOf_len Bs p) (Nat.le_of_eq lB)
      have dP : ∀ c ∈ downsOf Bs p, c ∈ Pl := fun c hc => (hends (p, c) (mem_downs.mp hc)).2
      have next : lateB Bs f p = false → ∀ j, j < i + 1 → ∀ c, Pl[j]? = some c → lateB Bs f c = false := fun hb j hj c hc => by
        rcases Nat.lt_or_eq_of_le (Nat.le_of_lt_succ hj) with h | rfl
        · exact hp j h c hc
        · rw [ep] at hc
          cases hc
          exact hb
      refine ⟨_, rfl, _, rfl, DD, _, rfl, hD4.get hpP, _, _, rfl, .inl (.of (hD4.val _ hpP)), _, _, rfl, rfl, _, rfl, ?_⟩
      have e0 : decide ((0 : Int) < ((((downsOf Bs p).map V.int).length : Nat) : Int)) = !(downsOf Bs p).isEmpty := by
        cases downsOf Bs p with
        | nil => rfl
        | cons a r => exact decide_eq_true (by rw [List.length_map, List.length_cons]; omega)
      rw [e0]
      cases hc : (!(downsOf Bs p).isEmpty) with
      | false => exact ite2 (fun e => absurd e (by decide)) fun _ => ⟨s4, next (by unfold lateB; rw [hc]; rfl), _, _, _, _, rfl⟩
      | true =>
      refine ite2 (fun _ => ?_) fun e => absurd rfl e
      refine ifs_h (test_h (op_h (cb_h (lc_td ?_))))
      refine ⟨_, rfl, _, rfl, DD, _, rfl, hD4.get hpP, ?_⟩
      refine lc_listF (K := K) (fun R h => h) (hD4.val _ hpP) (fun u => decide (f p < f u)) (by omega) (fun _ => rfl) (fun _ => rfl) ?_ ?_
      · intro u hu H5 k s5 hk
        refine ⟨_, rfl, _, rfl, D, _, rfl, DGet.of_dIs (s5 _ _ (s4 _ _ eD3)) (h0 _ (dP u hu)), _, rfl, _, rfl, D, _, rfl, DGet.of_dIs (s5 _ _ (s4 _ _ eD3)) (h0 _ hpP), _, _, rfl, rfl, _, rfl, ?_⟩
        exact hk _ (Same.refl _)
      intro R H5 nR s5 e5
      refine ⟨R, _, rfl, .inl (.of e5), rfl, _, rfl, ?_⟩
      show if decide (V.int (((((downsOf Bs p).filter fun u => decide (f p < f u)).map V.int).length : Nat) : Int) = V.int ((0 : Nat) : Int)) = true then _ else _
      rw [dec_len, List.length_map]
      have e6 : lateB Bs f p = ((((downsOf Bs p).filter fun u => decide (f p < f u)).length) == 0) := by
        unfold lateB
        rw [hc, Bool.true_and, Bool.eq_iff_iff, beq_iff_eq, List.length_eq_zero_iff, List.filter_eq_nil_iff, List.all_eq_true]
        exact ⟨fun h c hc e => by have := of_decide_eq_true (h c hc); have := of_decide_eq_true e; omega, fun h c hc => decide_eq_true (by have := h c hc; simp only [decide_eq_true_iff] at this; omega)⟩
      cases hg : ((((downsOf Bs p).filter fun u => decide (f p < f u)).length) == 0) with
      | false => exact ite2 (fun e => absurd e (by decide)) fun _ => ⟨s4.trans s5, next (e6.trans hg), _, _, _, _, rfl⟩
      | true =>
        refine ite2 (fun _ => ?_) fun e => absurd rfl e
        refine ⟨_, rfl, (by show 2 ≤ sizeLine; decide), fun Tp nT => q _ _ (same_snoc (t4.trans s5) nT) ?_⟩
        rw [mfD_late hback hgift ep (e6.trans hg) hp]
        exact .tup ((al.same (t4.trans s5)).free nT) upd_same (.cons (.str _) (.one (.int _)))
    rintro σ H3 ⟨s3, hp, v4, v5, v6, v7, rfl⟩
    have hlate := all_upto (p := lateB Bs f) (by rw [List.length_map]; exact Nat.le_refl _) hp
    refine q _ _ (tB.trans s3) ?_
    rw [Fits.mf ⟨hback, hgift, hlate⟩]
    exact .non


set_option maxHeartbeats 4000000 in
theorem ok_law_moment_fault  (F : Fun K "_law_moment_fault" "_law_moment_fault" s_law_moment_fault f fd) (T : Txt w K mg)
    (O_law_whole : Own P w K mg base k "_law_whole" ["value"] (sp_law_whole))
    (O_law_all : Own P w K mg base k "_law_all" ["net"] (sp_law_all))
    (O_law_fits : Own P w K mg base k "_law_fits" ["net", "number"] (sp_law_fits)) : FnOk P w K mg base CX0 (k + 1) f fd ["net", "paper"] (sp_law_moment_fault) := by
  refine F.ok sc_law_moment_fault (fun vs H Q E h => ?_) (fun cdv A outer s0 H vs Q E hr h => ?_)
  · obtain ⟨S, x, y, d, r, As, Bs, Ls, Pl, rfl, al, hx, hy, hD, g, hB, hc, q⟩ := h
    rfl
  · obtain ⟨S, x, y, d, r, As, Bs, Ls, Pl, rfl, al, hx, hy, hD, g, hB, hc, q⟩ := h
    refine ⟨_, (pss_cons (ps_if (pt_not (pt_val (pe_callB call_isD (by rfl) T.isinstance (by decide +kernel) (pa_cons (pv 1) (pa_cons (pe_bltn (v := .ty "list") (by rfl) T.list (by decide +kernel) rfl) pa_nil)))))
        (pss_one (ps_ret (pe_tup (pa_cons pe_str (pa_cons pe_non pa_nil)))))
        pss_nil)
      (pss_cons (ps_for PassesOwn.never rfl (pi_list (pv 1)) (pg_name (i := 2) sc_law_moment_fault.nd rfl (Or.inl rfl))
        (pss_one (ps_if (PW.pt (pw_or (pt_not (pt_val (pe_callB call_isD (by rfl) T.isinstance (by decide +kernel) (pa_cons (pv 2) (pa_cons (pe_bltn (v := .ty "tuple") (by rfl) T.tuple (by decide +kernel) rfl) pa_nil))))) (pw_or (pt_cmpR op_ne (pe_callB call_len_seq (by rfl) T.len PySem.boot_len (pa_cons (pv 2) pa_nil)) pe_int (nomark _)) (pw_or (pt_not (pt_val (pe_own O_law_whole hr (by rfl) (pa_cons (pe_ix ix_tup (pv 2) pe_int (fun _ _ => rfl)) pa_nil)))) (pw_or1 (pt_not (pt_val (pe_own O_law_whole hr (by rfl) (pa_cons (pe_ix ix_tup (pv 2) pe_int (fun _ _ => rfl)) pa_nil)))))))))
          (pss_one (ps_ret (pe_tup (pa_cons pe_str (pa_cons pe_non pa_nil)))))
          pss_nil)))
      (pss_cons (ps_if (pt_cmpR (op_neD hr.units) (pe_lc (own := [("item", 2)]) (by rfl) sc_law_moment_fault.nd (pi_list (pv 1)) (blkOk_by (own := [("item", 2)]) (N := ["net", "paper", "item", "number"]) (sc := defScope s_law_moment_fault) (by decide +kernel)) (fun _ _ _ _ _ => pg_name (i := 2) sc_law_moment_fault.nd rfl (Or.inl rfl)) (fun _ _ _ _ _ => pts_nil) (fun _ _ _ _ _ => (pe_ix (ix_tupK K rfl) (pv 2) pe_int (fun _ _ => rfl)))) (pe_own O_law_all hr (by rfl) (pa_cons (pv 0) pa_nil)) (nomark _))
        (pss_one (ps_ret (pe_tup (pa_cons pe_str (pa_cons pe_non pa_nil)))))
        pss_nil)
      (pss_cons (ps_set (i := 3) sc_law_moment_fault.nd rfl (Or.inl rfl) pe_dnewK)
      (pss_cons (ps_for PassesOwn.never rfl (pi_list (pv 1)) (pg_name (i := 2) sc_law_moment_fault.nd rfl (Or.inl rfl))
        (pss_one (ps_dput (u1 hr) (pv 3) (pe_ix ix_tup (pv 2) pe_int (fun _ _ => rfl)) (pe_ix ix_tup (pv 2) pe_int (fun _ _ => rfl)) rfl)))
      (pss_one (ps_ret (pe_own O_law_fits hr (by rfl) (pa_cons (pv 0) (pa_cons (pv 3) pa_nil)))))))))), ?_⟩
    have sz : 100000 < sizeLine := by decide
    have a46 := g.a46
    have l12 := g.l12
    have p64 := g.p64
    have formOf : hfB Pl d = false → r = formD := fun h => by
      rcases hc with ⟨_, e⟩ | ⟨f, rfl, _⟩
      · exact e
      · rw [hf_pap] at h
        cases h
    have fin : ∀ (Hx : Hp) (T : Addr), Same H Hx → Hx T = none → hfB Pl d = false → Q (.ref T) (upd Hx T (.tup [.str "form", .non])) := fun Hx T s nT h => q _ _ (same_snoc s nT) (by rw [formOf h]; exact .tup ((al.same s).free nT) upd_same (.cons (.str _) (.one .non)))
    refine ⟨_, rfl, y, "list", S, d, rfl, rfl, hy, _, rfl, ?_⟩
    cases hl : isD "list" d with
    | false =>
      have e : hfB Pl d = false := by cases d <;> first | rfl | (exact absurd hl (by simp only [isD, tyN]; decide))
      exact ite2 (fun _ => ⟨(by show 2 ≤ sizeLine; decide), fun T nT => fin _ _ (Same.refl _) nT e⟩) fun e => absurd rfl e
    | true =>
    refine ite2 (fun e => absurd e (by decide)) fun _ => ?_
    obtain ⟨ds, rfl⟩ := isD_list hl
    obtain ⟨a, xs, rfl, nSa, ea, hA⟩ := hy.list
    have lx : xs.length = ds.length := hA.length
    have lds : ds.length ≤ 5000 := by
      cases hD with
      | lst h _ => exact h
    refine ⟨_, rfl, a, rfl, ⟨_, .of ea⟩, ?_⟩
    refine for_it (walk_list (K := K) (a := a) (xs := xs)) (fun i σ H' => H' = H ∧ (∀ j, j < i → ∀ c, ds[j]? = some c → timedD c = true) ∧ ∃ v2 : Option V, σ = [some x, some (.ref a), v2, none]) ⟨rfl, fun j hj => absurd hj (Nat.not_lt_zero _), _, rfl⟩ (fun i σ H' _ h => by rw [h.1]; exact .of ea) ?_ ?_
    · rintro i xi σ HQ HQ' hi ⟨rfl, hp, v2, rfl⟩ ⟨rfl, hxi⟩
      obtain ⟨dj, edj, hdj⟩ := hA.get hxi
      have bad : timedD dj = false → hfB Pl (.list ds) = false := fun h => by
        have : ds.all timedD = false := List.all_eq_false.mpr ⟨dj, List.mem_of_getElem? edj, by rw [h]; decide⟩
        show (ds.all timedD && _) = false
        rw [this]
        rfl
      have next : timedD dj = true → ∀ j, j < i + 1 → ∀ c, ds[j]? = some c → timedD c = true := fun hb j hj c hc => by
        rcases Nat.lt_or_eq_of_le (Nat.le_of_lt_succ hj) with h | rfl
        · exact hp j h c hc
        · rw [edj] at hc
          cases hc
          exact hb
      refine ⟨_, rfl, xi, "tuple", S, dj, rfl, rfl, hdj, _, rfl, ?_⟩
      cases hs : isD "tuple" dj with
      | false =>
        have e : timedD dj = false := by cases dj <;> first | rfl | (exact absurd hs (by simp only [isD, tyN]; decide))
        exact ite2 (fun _ => ite2 (fun _ => ⟨(by show 2 ≤ sizeLine; decide), fun T nT => fin _ _ (Same.refl _) nT (bad e)⟩) fun e => absurd rfl e) fun e => absurd rfl e
      | true =>
      refine ite2 (fun e => absurd e (by decide)) fun _ => ?_
      obtain ⟨es, rfl⟩ := isD_tuple hs
      obtain ⟨t, ys, rfl, nSt, et, hes⟩ : ∃ t ys, xi = .ref t ∧ ¬ S t ∧ HQ' t = some (.tup ys) ∧ DaAll S HQ' ys es := by
        cases hdj with
        | tup n e r => exact ⟨_, _, rfl, n, e, r⟩
      rcases two_or hes with ⟨x1, y1, c, e, rfl, rfl, hx1, hy1⟩ | ⟨h2, hne⟩
      case inr =>
        refine ⟨_, rfl, t, ys, rfl, .inr (.of et), rfl, _, rfl, ?_⟩
        rw [h2]
        exact ite2 (fun _ => ite2 (fun _ => ⟨(by show 2 ≤ sizeLine; decide), fun T nT => fin _ _ (Same.refl _) nT (bad (timedD_no hne))⟩) fun e => absurd rfl e) fun e => absurd rfl e
      refine ⟨_, rfl, t, _, rfl, .inr (.of et), rfl, _, rfl, ?_⟩
      refine ite2 (fun e => absurd e (show ¬ (!decide (V.int 2 = V.int 2)) = true by decide)) fun _ => ?_
      refine ⟨_, rfl, t, _, 0, _, rfl, rfl, .of et, rfl, S, x1, c, rfl, hx1, _, rfl, ?_⟩
      cases h1 : wholeD' c with
      | false =>
        exact ite2 (fun _ => ite2 (fun _ => ⟨(by show 2 ≤ sizeLine; decide), fun T nT => fin _ _ (Same.refl _) nT (bad (by show (wholeD' c && wholeD' e) = false; rw [h1]; rfl))⟩) fun e => absurd rfl e) fun e => absurd rfl e
      | true =>
      refine ite2 (fun e => absurd e (by decide)) fun _ => ?_
      refine ⟨_, rfl, t, _, 1, _, rfl, rfl, .of et, rfl, S, y1, e, rfl, hy1, _, rfl, ?_⟩
      cases h2 : wholeD' e with
      | false =>
        exact ite2 (fun _ => ⟨(by show 2 ≤ sizeLine; decide), fun T nT => fin _ _ (Same.refl _) nT (bad (by show (wholeD' c && wholeD' e) = false; rw [h1, h2]; rfl))⟩) fun e => absurd rfl e
      | true =>
      exact ite2 (fun e => absurd e (by decide)) fun _ => ⟨rfl, next (by show (wholeD' c && wholeD' e) = true; rw [h1, h2]; rfl), _, rfl⟩
    rintro σ HQ ⟨rfl, hp, v2, rfl⟩
    rw [lx] at hp
    have ht : ds.all timedD = true := List.all_eq_true.mpr fun c hc => by
      obtain ⟨j, hj⟩ := List.mem_iff_getElem?.mp hc
      exact hp j (List.getElem?_eq_some_iff.mp hj).1 c hj
    obtain ⟨Is, rfl⟩ := timed_all ht
    rw [List.length_map] at lx lds
    dsimp only
    refine seq_ifs_h (test_h (op_h ?_))
    refine lc_listG (K := K) (fun R h => ⟨_, rfl, h⟩) ea ((Is.map (·.1)).map V.int) (by rw [List.length_map, List.length_map, lx]) (by omega) ?_ ?_
    · rintro i xi H2 N' B z hz sm hxi hB
      obtain ⟨p, t, ed, rfl, nt, et⟩ := hA.pdS sm hxi
      rw [List.getElem?_map, List.getElem?_map, ed] at hz
      cases hz
      exact ⟨rfl, _, rfl, t, _, 0, _, rfl, rfl, .of et, rfl, hB _ (Same.refl _)⟩
    intro D2 H2 nD2 s2 e2
    refine ⟨_, rfl, S, x, As, Ls, Pl, rfl, hx.same s2, by omega, g.asc, p64, fun H3 R3 s3 nR3 eR3 => ?_⟩
    have s23 := s2.trans s3
    have d2 : Da S H3 (.ref D2) (.list ((Is.map (·.1)).map PyData.int)) := .lst (al.free nD2) (s3 _ _ e2) ints_daAll
    have d3 : Da S H3 (.ref R3) (.list (Pl.map PyData.int)) := .lst ((al.same s2).free nR3) eR3 ints_daAll
    refine ⟨_, _, d2.dp, d3.dp, shaped_ints _, shaped_ints _, _, rfl, ?_⟩
    rw [eqv_ints]
    have e : hfB Pl (.list (Is.map pd)) = decide (Is.map (·.1) = Pl) := by
      show ((Is.map pd).all timedD && decide ((asOf (Is.map pd)).map (·.1) = Pl)) = _
      rw [ht, asOf_pd, Bool.true_and]
    cases hd : decide (Is.map (·.1) = Pl) with
    | false => exact ite2 (fun _ => ⟨(by show 2 ≤ sizeLine; decide), fun T nT => fin _ _ s23 nT (e.trans hd)⟩) fun e => absurd rfl e
    | true =>
    refine ite2 (fun e => absurd e (by decide)) fun _ => ?_
    obtain ⟨f, hf, rfl⟩ : ∃ f, PyData.list (Is.map pd) = pdL (papD Pl f) ∧ r = mfD Pl Bs f := by
      rcases hc with ⟨h, _⟩ | h
      · rw [e, hd] at h
        cases h
      · exact h
    have hI : Is = papD Pl f := by
      have h1 : Is.map pd = (papD Pl f).map pd := PyData.list.inj hf
      have h2 := congrArg asOf h1
      rwa [asOf_pd, asOf_pd] at h2
    subst hI
    dsimp only
    refine fun D nD => ?_
    have s3D : Same HQ (upd H3 D (.dK [])) := same_snoc s23 nD
    have eD : upd H3 D (.dK []) D = some (dIs (Pl.take 0) f) := upd_same
    have naD : a ≠ D := fun z => by rw [← z, s23 _ _ ea] at nD; cases nD
    generalize upd H3 D (.dK []) = H5 at s3D eD
    refine ⟨_, rfl, a, rfl, ⟨_, .of (s3D _ _ ea)⟩, ?_⟩
    have nD0 : HQ D = none := s23.free nD
    refine for_it (walk_list (K := K) (a := a) (xs := xs)) (fun i σ HQ' => Same HQ HQ' ∧ ∃ (g : Int → Int) (v2 : Option V), (∀ p ∈ Pl.take i, g p = f p) ∧ HQ' D = some (dIs (Pl.take i) g) ∧ σ = [some x, some (.ref a), v2, some (.ref D)]) ⟨s3D, f, _, fun _ _ => rfl, eD, rfl⟩ (fun i σ HQ' _ h => .of (h.1 _ _ ea)) ?_ ?_
    · rintro i xi σ H6 H6' hi ⟨s6, g2, v2, hg, eD6, rfl⟩ ⟨rfl, hxi⟩
      obtain ⟨p, t, ed, rfl, nt, et⟩ := hA.pdS s6 hxi
      have hp1 := papD_mem (List.mem_of_getElem? ed)
      have epl : Pl[i]? = some p.1 := by
        have := congrArg (fun l => l[i]?) (papD_fst (P := Pl) (f := f))
        simp only [List.getElem?_map, ed, Option.map_some] at this
        exact this.symm
      refine ⟨_, rfl, t, _, 1, _, rfl, rfl, .of et, rfl, _, rfl, _, rfl, t, _, 0, _, rfl, rfl, .of et, rfl, D, _, rfl, .inl ⟨_, .inl p.1, eD6, rfl, by rw [List.length_map, List.length_take]; omega, rfl⟩, ?_⟩
      refine ⟨fun b o eb => by rw [upd_ne (fun z => by rw [z, nD0] at eb; cases eb)]; exact s6 _ _ eb, _, _, fun z hz => ?_, put_next g.asc.nodup epl, rfl⟩
      by_cases c : z = p.1
      · rw [if_pos c, hp1.2, c]
      · rw [if_neg c]
        rw [← take_snoc epl] at hz
        exact hg z ((List.mem_append.mp hz).resolve_right fun h => c (List.mem_singleton.mp h))
    rintro σ H6 ⟨s6, g2, v2, hg, eD6, rfl⟩
    have lxp : xs.length = Pl.length := by rw [lx]; exact List.length_map ..
    rw [lxp, List.take_length] at eD6 hg
    have eD7 : H6 D = some (dIs Pl f) := by
      rw [eD6]
      show some (HO.dK _) = some (HO.dK _)
      congr 2
      exact List.map_congr_left fun p hp => by rw [hg p hp]
    exact ⟨_, rfl, _, rfl, S, x, D, As, Bs, Ls, Pl, Pl, f, rfl, al.same s6, hx.same s6, g, hB, eD7, .refl _, fun H7 v s7 hv => q _ _ (s6.trans s7) hv⟩


set_option maxHeartbeats 4000000 in
theorem ok_law_gap  (F : Fun K "_law_gap" "_law_gap" s_law_gap f fd) (T : Txt w K mg)
    (O_law_take : Own P w K mg base k "_law_take" ["store", "many"] (sp_law_take))
    (O_law_pick : Own P w K mg base k "_law_pick" ["store", "things"] (sp_law_pick K)) : FnOk P w K mg base CX0 (k + 1) f fd ["store", "kind"] (sp_law_gap) := by
  refine F.ok sc_law_gap (fun vs H Q E h => ?_) (fun cdv A outer s0 H vs Q E hr h => ?_)
  · obtain ⟨S, s, kind, rfl, hS, q⟩ := h
    rfl
  · obtain ⟨S, s, kind, rfl, hS, q⟩ := h
    refine ⟨_, (pss_cons (ps_if (pt_cmpR op_eq (pv 1) pe_int (nomark _))
        (pss_one (ps_ret pe_int))
        pss_nil)
      (pss_cons (ps_if (pt_cmpR op_eq (pv 1) pe_int (nomark _))
        (pss_one (ps_ret (pe_op op_add pe_int (pe_own O_law_take hr (by rfl) (pa_cons (pv 0) (pa_cons pe_int pa_nil))))))
        pss_nil)
      (pss_one (ps_ret (pe_own O_law_pick hr (by rfl) (pa_cons (pv 0) (pa_cons (pe_lst (pa_cons pe_int (pa_cons pe_int (pa_cons pe_int (pa_cons (pe_op op_pow pe_int pe_int) (pa_cons (pe_op op_pow pe_int pe_int) pa_nil)))))) pa_nil))))))), ?_⟩
    refine ⟨_, rfl, rfl, _, rfl, ite2 (fun _ => q H 1 (Keep.refl _ _) hS.so (by decide) (by decide)) fun _ => ?_⟩
    refine ⟨_, rfl, rfl, _, rfl, ite2 (fun _ => ⟨_, rfl, S, s, 6, rfl, hS.so, by decide, fun H2 r k2 so2 r0 r1 => ⟨_, _, rfl, rfl, q H2 _ k2 so2 (by omega) (by have r1 : r < 6 := r1; omega)⟩⟩) fun _ => ?_⟩
    walk_at "go"
    intro p np
    refine pick_list hS.so np (by simp) (by simp) (fun H2 v k2 _ so2 hv => ?_)
    obtain ⟨n, rfl, hn⟩ : ∃ n, v = V.int n ∧ 1 ≤ n ∧ n ≤ 100000000000000000000000000000000000000000000000000 := by
      simp only [List.mem_cons, List.not_mem_nil, or_false] at hv
      rcases hv with rfl | rfl | rfl | rfl | rfl
      · exact ⟨1, rfl, by decide +kernel, by decide +kernel⟩
      · exact ⟨2, rfl, by decide +kernel, by decide +kernel⟩
      · exact ⟨10, rfl, by decide +kernel, by decide +kernel⟩
      · exact ⟨10 ^ 9, rfl, by decide +kernel, by decide +kernel⟩
      · exact ⟨10 ^ 50, rfl, by decide +kernel, by decide +kernel⟩
    exact q H2 n k2 so2 hn.1 hn.2


set_option maxHeartbeats 4000000 in
theorem ok_law_measures  (F : Fun K "_law_measures" "_law_measures" s_law_measures f fd) (T : Txt w K mg)
    (O_law_take : Own P w K mg base k "_law_take" ["store", "many"] (sp_law_take))
    (O_law_pick : Own P w K mg base k "_law_pick" ["store", "things"] (sp_law_pick K)) : FnOk P w K mg base CX0 (k + 1) f fd ["store"] (sp_law_measures) := by
  refine F.ok sc_law_measures (fun vs H Q E h => ?_) (fun cdv A outer s0 H vs Q E hr h => ?_)
  · obtain ⟨S, s, rfl, hS, q⟩ := h
    rfl
  · obtain ⟨S, s, rfl, hS, q⟩ := h
    refine ⟨_, (pss_cons (ps_set (i := 1) sc_law_measures.nd rfl (Or.inl rfl) (pe_own O_law_take hr (by rfl) (pa_cons (pv 0) (pa_cons pe_int pa_nil))))
      (pss_cons (ps_if (pt_cmpR op_eq (pv 1) pe_int (nomark _))
        (pss_one (ps_ret (pe_own O_law_pick hr (by rfl) (pa_cons (pv 0) (pa_cons (pe_lst (pa_cons (pe_lst (pa_cons pe_int (pa_cons pe_int pa_nil))) (pa_cons (pe_lst (pa_cons pe_int (pa_cons pe_int pa_nil))) (pa_cons (pe_lst (pa_cons pe_int (pa_cons pe_int pa_nil))) (pa_cons (pe_lst (pa_cons pe_int (pa_cons pe_int pa_nil))) (pa_cons (pe_lst (pa_cons pe_int (pa_cons pe_int pa_nil))) (pa_cons (pe_lst (pa_cons pe_int (pa_cons pe_int pa_nil))) pa_nil))))))) pa_nil)))))
        pss_nil)
      (pss_cons (ps_if (pt_cmpR op_eq (pv 1) pe_int (nomark _))
        (pss_one (ps_ret (pe_lst (pa_cons (pe_op op_add pe_int (pe_own O_law_take hr (by rfl) (pa_cons (pv 0) (pa_cons pe_int pa_nil)))) (pa_cons (pe_own O_law_take hr (by rfl) (pa_cons (pv 0) (pa_cons pe_int pa_nil))) pa_nil)))))
        pss_nil)
      (pss_one (ps_ret (pe_lst (pa_cons (pe_op op_add pe_int (pe_own O_law_take hr (by rfl) (pa_cons (pv 0) (pa_cons pe_int pa_nil)))) (pa_cons (pe_own O_law_take hr (by rfl) (pa_cons (pv 0) (pa_cons pe_int pa_nil))) pa_nil)))))))), ?_⟩
    refine ⟨_, rfl, S, s, 8, rfl, hS.so, by decide, fun H1 how k1 so1 _ _ => ?_⟩
    have S1 := hS.keep k1 so1
    refine ⟨_, rfl, rfl, _, rfl, ite2 (fun _ => ?_) fun _ => ?_⟩
    · refine ⟨_, rfl, ⟨(by show 2 ≤ sizeLine; decide), fun a1 n1 => ⟨(by show 2 ≤ sizeLine; decide), fun a2 n2 => ⟨(by show 2 ≤ sizeLine; decide), fun a3 n3 => ⟨(by show 2 ≤ sizeLine; decide), fun a4 n4 => ⟨(by show 2 ≤ sizeLine; decide), fun a5 n5 => ⟨(by show 2 ≤ sizeLine; decide), fun a6 n6 => ⟨(by show 6 ≤ sizeLine; decide), fun p np => ?_⟩⟩⟩⟩⟩⟩⟩⟩
      obtain ⟨h1, e1, S1, k1, sm1, f1, _, m1⟩ := fresh (.lst [.int 1, .int 0]) S1 k1 n1
      rw [e1] at n2 n3 n4 n5 n6 np ⊢
      obtain ⟨h2, e2, S2, k2, sm2, f2, _, m2⟩ := fresh (.lst [.int 2, .int 0]) S1 k1 n2
      rw [e2] at n3 n4 n5 n6 np ⊢
      obtain ⟨h3, e3, S3, k3, sm3, f3, _, m3⟩ := fresh (.lst [.int 2, .int 1]) S2 k2 n3
      rw [e3] at n4 n5 n6 np ⊢
      obtain ⟨h4, e4, S4, k4, sm4, f4, _, m4⟩ := fresh (.lst [.int 2, .int 8]) S3 k3 n4
      rw [e4] at n5 n6 np ⊢
      obtain ⟨h5, e5, S5, k5, sm5, f5, _, m5⟩ := fresh (.lst [.int 12, .int 0]) S4 k4 n5
      rw [e5] at n6 np ⊢
      obtain ⟨h6, e6, S6, k6, sm6, f6, _, m6⟩ := fresh (.lst [.int 12, .int 8]) S5 k5 n6
      rw [e6] at np ⊢
      refine pick_list S6.so np (by simp) (by simp) (fun H2 v k7 _ so7 hv => ?_)
      have k := k6.trans k7
      simp only [List.mem_cons, List.not_mem_nil, or_false] at hv
      rcases hv with rfl | rfl | rfl | rfl | rfl | rfl
      · exact q H2 a1 1 0 k so7 m1 (k7 _ _ m1 (sm6 _ _ (sm5 _ _ (sm4 _ _ (sm3 _ _ (sm2 _ _ f1)))))) (by decide) (by decide) (by decide) (by decide)
      · exact q H2 a2 2 0 k so7 m2 (k7 _ _ m2 (sm6 _ _ (sm5 _ _ (sm4 _ _ (sm3 _ _ f2))))) (by decide) (by decide) (by decide) (by decide)
      · exact q H2 a3 2 1 k so7 m3 (k7 _ _ m3 (sm6 _ _ (sm5 _ _ (sm4 _ _ f3)))) (by decide) (by decide) (by decide) (by decide)
      · exact q H2 a4 2 8 k so7 m4 (k7 _ _ m4 (sm6 _ _ (sm5 _ _ f4))) (by decide) (by decide) (by decide) (by decide)
      · exact q H2 a5 12 0 k so7 m5 (k7 _ _ m5 (sm6 _ _ f5)) (by decide) (by decide) (by decide) (by decide)
      · exact q H2 a6 12 8 k so7 m6 (k7 _ _ m6 f6) (by decide) (by decide) (by decide) (by decide)
    refine ⟨_, rfl, rfl, _, rfl, ite2 (fun _ => ?_) fun _ => ?_⟩
    · refine ⟨_, rfl, S, s, 12, rfl, so1, by decide, fun H2 r k2 so2 r0 r1 => ⟨_, _, rfl, rfl, _, rfl, S, s, 9, rfl, so2, by decide, fun H3 u k3 so3 u0 u1 => ⟨(by show 2 ≤ sizeLine; decide), fun p np => ?_⟩⟩⟩
      have r1 : r < 12 := r1
      have u1 : u < 9 := u1
      have k := (k1.trans k2).trans k3
      obtain ⟨h1, e1, S4, k4, sm1, f1, _, m1⟩ := fresh (.lst [.int (1 + r), .int u]) (hS.keep k so3) k np
      rw [e1]
      exact q _ p _ _ k4 S4.so m1 f1 (by omega) (by omega) (by omega) (by omega)
    refine ⟨_, rfl, S, s, 4, rfl, so1, by decide, fun H2 r k2 so2 r0 r1 => ⟨_, _, rfl, rfl, _, rfl, S, s, 4, rfl, so2, by decide, fun H3 u k3 so3 u0 u1 => ⟨(by show 2 ≤ sizeLine; decide), fun p np => ?_⟩⟩⟩
    have r1 : r < 4 := r1
    have u1 : u < 4 := u1
    have k := (k1.trans k2).trans k3
    obtain ⟨h1, e1, S4, k4, sm1, f1, _, m1⟩ := fresh (.lst [.int (2 + r), .int u]) (hS.keep k so3) k np
    rw [e1]
    exact q _ p _ _ k4 S4.so m1 f1 (by omega) (by omega) (by omega) (by omega)


set_option maxHeartbeats 4000000 in
theorem ok_law_called  (F : Fun K "_law_called" "_law_called" s_law_called f fd) (T : Txt w K mg)
    (O_law_take : Own P w K mg base k "_law_take" ["store", "many"] (sp_law_take))
    (O_law_pick : Own P w K mg base k "_law_pick" ["store", "things"] (sp_law_pick K)) : FnOk P w K mg base CX0 (k + 1) f fd ["store", "many"] (sp_law_called) := by
  refine F.ok sc_law_called (fun vs H Q E h => ?_) (fun cdv A outer s0 H vs Q E hr h => ?_)
  · obtain ⟨S, s, many, rfl, hS, h1, h2, q⟩ := h
    rfl
  · obtain ⟨S, s, many, rfl, hS, h1, h2, q⟩ := h
    refine ⟨_, (pss_cons (ps_set (i := 2) sc_law_called.nd rfl (Or.inr rfl) pe_str)
      (pss_cons (ps_set (i := 3) sc_law_called.nd rfl (Or.inr rfl) (pe_own O_law_take hr (by rfl) (pa_cons (pv 0) (pa_cons pe_int pa_nil))))
      (pss_cons (ps_set (i := 4) sc_law_called.nd rfl (Or.inr rfl) (pe_own O_law_pick hr (by rfl) (pa_cons (pv 0) (pa_cons (pe_lst (pa_cons pe_str (pa_cons pe_str (pa_cons pe_str (pa_cons pe_str (pa_cons pe_str pa_nil)))))) pa_nil))))
      (pss_one (ps_ret (pe_lc (own := [("k", 5)]) (by rfl) sc_law_called.nd (pi_range1 (by rfl) T.range (pa_cons (pv 1) pa_nil)) (blkOk_by (own := [("k", 5)]) (N := ["store", "many", "letters", "shift", "stem", "k"]) (sc := defScope s_law_called) (by decide +kernel)) (fun _ _ _ _ _ => pg_name (i := 5) sc_law_called.nd rfl (Or.inl rfl)) (fun _ _ _ _ _ => pts_nil) (fun _ _ _ _ _ => (pe_op op_add_str (pe_op op_add_str (pv 4) (pe_ix (ix_seqK K rfl) (pv 2) (pe_op op_mod (pe_callTy call_int1 (by rfl) T.int (by decide +kernel) (pa_cons (pe_op op_add (pe_op op_mul pe_int (pv 5)) (pv 3)) pa_nil)) pe_int) (fun _ _ => rfl))) (pe_slice sl_str pe_str po_none (po_some (pe_op op_mod (pe_callTy call_int1 (by rfl) T.int (by decide +kernel) (pa_cons (pe_op op_add (pe_op op_mul pe_int (pv 5)) (pv 3)) pa_nil)) pe_int))))))))))), ?_⟩
    refine ⟨_, rfl, S, s, 26, rfl, hS.so, by decide, fun H1 sh k1 so1 r0 r1 => ?_⟩
    have S1 := hS.keep k1 so1
    walk_at "go"
    intro p np
    refine pick_list S1.so np (by simp) (by simp) (fun H2 v k2 _ so2 hv => ?_)
    have k12 := k1.trans k2
    have S2 := hS.keep k12 so2
    obtain ⟨st, rfl, hst⟩ : ∃ st : Str, v = .str st ∧ st ∈ (["", "a", "q7", "zz"] : List Str) := by
      simp only [List.mem_cons, List.not_mem_nil, or_false] at hv
      rcases hv with rfl | rfl | rfl | rfl | rfl
      · exact ⟨_, rfl, by decide⟩
      · exact ⟨_, rfl, by decide⟩
      · exact ⟨_, rfl, by decide⟩
      · exact ⟨_, rfl, by decide⟩
      · exact ⟨_, rfl, by decide⟩
    have sh26 : sh < 26 := r1
    obtain ⟨n, rfl⟩ : ∃ n : Nat, many = (n : Int) := ⟨many.toNat, by omega⟩
    obtain ⟨nd, ok⟩ := cn_ok hst r0 sh26 (n := n) (by omega)
    generalize hns : (List.range n).map (fun k : Nat => cnS st sh k) = ns at nd ok
    have ln : ns.length = n := by rw [← hns, List.length_map, List.length_range]
    refine gn_h (σ' := [some (.ref s), some (.int n), some (.str alphaS), some (.int sh), some (.str st), none]) rfl ?_
    dsimp only
    refine ret_h ?_
    have sz : 1000 < sizeLine := by decide
    refine lc_rngD (n := n) (S := S) (fun R h => ⟨_, rfl, h⟩) S2.al (ns.map PyData.str) (by rw [List.length_map, ln]) (by omega) ?_ ?_
    · rintro i H3 N' B d hd sm hS3 hB2
      rw [List.getElem?_map] at hd
      obtain ⟨z, hz, rfl⟩ := Option.map_eq_some_iff.mp hd
      have hi : i < n := by
        have := (List.getElem?_eq_some_iff.mp hz).1
        omega
      have hzi : z = cnS st sh i := by
        rw [← hns, List.getElem?_map, List.getElem?_range hi] at hz
        exact (Option.some.inj hz).symm
      have hz8 := (ok z (List.mem_of_getElem? hz)).2
      have l1 : st.length ≤ 2 := by
        simp only [List.mem_cons, List.not_mem_nil, or_false] at hst
        rcases hst with rfl | rfl | rfl | rfl <;> decide
      have l2 : (cutS ("0z9a1" : Str) none (some ((3 * (i : Int) + sh) % 6))).length ≤ 5 := by
        generalize some ((3 * (i : Int) + sh) % 6) = hi
        exact Nat.le_trans (Nat.le_trans (List.take_sublist _ _).length_le (List.drop_sublist _ _).length_le : ((("0z9a1" : Str).cps.toList.drop _).take _).length ≤ ("0z9a1" : Str).cps.toList.length) (by decide +kernel)
      have m26 : (0 : Int) ≤ (5 * (i : Int) + sh) % 26 ∧ (5 * (i : Int) + sh) % 26 < 26 := by omega
      refine ⟨rfl, _, rfl, _, rfl, _, rfl, _, _, rfl, rfl, .inr ⟨by omega, by omega⟩, _, rfl, _, _, rfl, rfl, Or.inl ⟨_, rfl, _, _, rfl, rfl, (by show (0 : Int) < 26; decide), ?_⟩⟩
      refine Or.inr (Or.inr ⟨alphaS, _, _, rfl, rfl, by decide +kernel, letter_at m26.1 m26.2, ?_⟩)
      refine ⟨_, _, rfl, rfl, line_le (by show st.length + 1 ≤ _; omega), ?_⟩
      refine ⟨_, rfl, _, _, rfl, rfl, .inr ⟨by omega, by omega⟩, _, rfl, _, _, rfl, rfl, Or.inl ⟨_, rfl, _, _, rfl, rfl, (by show (0 : Int) < 6; decide), ?_⟩⟩
      refine ⟨_, rfl, _, rfl, by decide +kernel, ?_⟩
      refine ⟨_, _, rfl, rfl, line_le (by rw [str_app_len]; show st.length + 1 + _ ≤ _; omega), ?_⟩
      rw [hzi] at hB2
      exact hB2 _ _ (Same.refl _) (.str _) fun _ _ _ => .str _
    intro R ys H3 nR s3 fR eR hys
    obtain rfl := daAll_strs hys
    exact q H3 R ns (k12.trans (Keep.of s3)) (so2.same s3) (k12.free (S2.ne nR) nR) eR nd (by rw [ln]) ok


set_option maxHeartbeats 4000000 in
theorem ok_law_counted  (F : Fun K "_law_counted" "_law_counted" s_law_counted f fd) (T : Txt w K mg)
    (O_law_pick : Own P w K mg base k "_law_pick" ["store", "things"] (sp_law_pick K))
    (O_law_mixed : Own P w K mg base k "_law_mixed" ["store", "things"] (sp_law_mixed)) : FnOk P w K mg base CX0 (k + 1) f fd ["store", "places"] (sp_law_counted K) := by
  refine F.ok sc_law_counted (fun vs H Q E h => ?_) (fun cdv A outer s0 H vs Q E hr h => ?_)
  · obtain ⟨S, s, R, Pl, rfl, hS, nRs, eR, h64, hnd, q⟩ := h
    rfl
  · obtain ⟨S, s, R, Pl, rfl, hS, nRs, eR, h64, hnd, q⟩ := h
    refine ⟨_, (pss_cons (ps_set (i := 2) sc_law_counted.nd rfl (Or.inl rfl) (pe_own O_law_pick hr (by rfl) (pa_cons (pv 0) (pa_cons (pe_lst (pa_cons pe_int (pa_cons pe_int (pa_cons pe_int (pa_cons pe_int pa_nil))))) pa_nil))))
      (pss_cons (ps_set (i := 3) sc_law_counted.nd rfl (Or.inl rfl) (pe_own O_law_mixed hr (by rfl) (pa_cons (pv 0) (pa_cons (pe_listRg rfl (by rfl) T.list (prg_1 (by rfl) T.range (pe_op op_add (pe_callB call_len_seq (by rfl) T.len PySem.boot_len (pa_cons (pv 1) pa_nil)) pe_int))) pa_nil))))
      (pss_cons (ps_set (i := 4) sc_law_counted.nd rfl (Or.inl rfl) (pe_own O_law_pick hr (by rfl) (pa_cons (pv 0) (pa_cons (pe_lst (pa_cons pe_int (pa_cons pe_int (pa_cons pe_int (pa_cons (pe_op op_sub pe_int (pe_op op_mul (pv 2) (pe_op op_add (pe_callB call_len_seq (by rfl) T.len PySem.boot_len (pa_cons (pv 1) pa_nil)) pe_int))) pa_nil))))) pa_nil))))
      (pss_cons (ps_set (i := 5) sc_law_counted.nd rfl (Or.inl rfl) pe_dnewK)
      (pss_cons (ps_for PassesOwn.never rfl (pi_range1 (by rfl) T.range (pa_cons (pe_callB call_len_seq (by rfl) T.len PySem.boot_len (pa_cons (pv 1) pa_nil)) pa_nil)) (pg_name (i := 6) sc_law_counted.nd rfl (Or.inl rfl))
        (pss_one (ps_dput (u1 hr) (pv 5) (pe_ix ix_list (pv 1) (pv 6) (fun _ _ => rfl)) (pe_op op_add (pv 4) (pe_op op_mul (pv 2) (pe_ix ix_list (pv 3) (pv 6) (fun _ _ => rfl)))) rfl)))
      (pss_one (ps_ret (pv 5)))))))), ?_⟩
    have sz : 1000 < sizeLine := by decide
    have lp : (Pl.map V.int).length = Pl.length := List.length_map ..
    walk_at "go"
    intro p np
    refine pick_list hS.so np (by simp) (by simp) fun H1 v k1 _ so1 hv => ?_
    obtain ⟨gap, rfl, g0, g1⟩ : ∃ g : Int, v = .int g ∧ 1 ≤ g ∧ g ≤ 200 := by
      simp only [List.mem_cons, List.not_mem_nil, or_false] at hv
      rcases hv with rfl | rfl | rfl | rfl
      · exact ⟨1, rfl, by decide, by decide⟩
      · exact ⟨1, rfl, by decide, by decide⟩
      · exact ⟨3, rfl, by decide, by decide⟩
      · exact ⟨200, rfl, by decide, by decide⟩
    have S1 := hS.keep k1 so1
    have e1 := k1 _ _ nRs eR
    refine ⟨_, rfl, _, rfl, R, _, rfl, .inl (.of e1), _, _, rfl, rfl, _, rfl, ⟨by omega, by omega, by omega, by omega, by omega⟩, fun LN nLN => ?_⟩
    rw [lp, show ((Pl.length : Int) + 3) = ((Pl.length + 3 : Nat) : Int) by omega, rgV_nat]
    obtain ⟨H2, e2, S2, k2, sm2, eL2, fL, nLs⟩ := fresh (.lst (((List.range (Pl.length + 3)).map fun k : Nat => (k : Int)).map V.int)) S1 k1 nLN
    rw [e2]
    clear e2
    have eR2 := sm2 _ _ e1
    refine ⟨S, s, .ref LN, ((List.range (Pl.length + 3)).map fun k : Nat => (k : Int)).map PyData.int, rfl, S2, .lst fL eL2 ints_daAll, by simp only [List.length_map, List.length_range]; omega, fun H3 w es k3 so3 hpm hw hnew => ?_⟩
    obtain ⟨L, hpL, rfl⟩ := perm_int hpm
    obtain ⟨O, xs, rfl, nO, eO, hO⟩ := hw.list
    obtain rfl := daAll_ints hO
    have nOs : O ≠ s := fun z => nO (z ▸ hS.at_)
    have k13 := k2.trans k3
    have eR3 := k3 _ _ nRs eR2
    have lL : L.length = Pl.length + 3 := by rw [hpL.length_eq, List.length_map, List.length_range]
    have ndL : L.Nodup := hpL.nodup_iff.mpr (List.pairwise_map.mpr (List.nodup_range.imp fun h e => h (Int.ofNat.inj e)))
    have hL : ∀ d ∈ L, 0 ≤ d ∧ d ≤ (Pl.length : Int) + 2 := fun d hd => by
      obtain ⟨k, hk, rfl⟩ := List.mem_map.mp (hpL.mem_iff.mp hd)
      have := List.mem_range.mp hk
      omega
    refine ⟨_, rfl, _, rfl, _, rfl, R, _, rfl, .inl (.of eR3), _, _, rfl, rfl, _, _, rfl, rfl, .inr ⟨by omega, by omega⟩, _, _, rfl, rfl, (by show 4 ≤ sizeLine; decide), fun p3 np3 => ?_⟩
    have hgl : gap * ((Pl.length : Int) + 2) ≤ 200 * ((Pl.length : Int) + 2) := Int.mul_le_mul_of_nonneg_right g1 (by omega)
    have hgn : 0 ≤ gap * ((Pl.length : Int) + 2) := Int.mul_nonneg (by omega) (by omega)
    obtain ⟨T, hT⟩ : ∃ T, gap * ((Pl.length : Int) + 2) = T := ⟨_, rfl⟩
    rw [hT] at hgl hgn
    refine pick_list so3 np3 (by simp) (by simp) fun H4 v4 k4 _ so4 hv4 => ?_
    obtain ⟨shift, rfl, hs1, hs2⟩ : ∃ g : Int, v4 = .int g ∧ 0 ≤ g ∧ g + T ≤ 9999 := by
      simp only [List.mem_cons, List.not_mem_nil, or_false] at hv4
      rcases hv4 with rfl | rfl | rfl | rfl
      · exact ⟨0, rfl, by omega, by omega⟩
      · exact ⟨0, rfl, by omega, by omega⟩
      · exact ⟨5, rfl, by omega, by omega⟩
      · exact ⟨_, rfl, by rw [lp, hT]; omega, by rw [lp, hT]; omega⟩
    have k14 := k13.trans k4
    have eR4 := k4 _ _ nRs eR3
    have eO4 := k4 _ _ nOs eO
    have S4 := hS.keep k14 so4
    refine fun D nD => ?_
    have nDs : D ≠ s := S4.ne nD
    have nD0 : H D = none := k14.free nDs nD
    have fD : ¬ S D := S4.free nD
    have nRD : R ≠ D := fun z => by rw [← z, eR4] at nD; cases nD
    have nOD : O ≠ D := fun z => by rw [← z, eO4] at nD; cases nD
    have ltk : (L.take Pl.length).length = Pl.length := by rw [List.length_take]; omega
    obtain ⟨f0, hf0⟩ := fun_exists (P := Pl) (L := L.take Pl.length) hnd ltk.symm
    have hf2 : ∀ (i : Nat) (p d : Int), Pl[i]? = some p → L[i]? = some d → f0 p = d := fun i p d h1 h2 => hf0 i p d h1 (by rw [List.getElem?_take_of_lt (List.getElem?_eq_some_iff.mp h1).1]; exact h2)
    have hf1 : ∀ p ∈ Pl, ∃ i : Nat, ∃ d, Pl[i]? = some p ∧ L[i]? = some d ∧ f0 p = d := fun p hp => by
      obtain ⟨i, hi⟩ := List.mem_iff_getElem?.mp hp
      have := (List.getElem?_eq_some_iff.mp hi).1
      exact ⟨i, L[i]'(by omega), hi, List.getElem?_eq_getElem (by omega), hf2 i p _ hi (List.getElem?_eq_getElem (by omega))⟩
    refine ⟨_, rfl, R, _, rfl, .inl (.of (by rw [upd_ne nRD]; exact eR4)), _, rfl, by rw [lp]; omega, by rw [lp]; omega, ?_⟩
    rw [lp]
    refine for_range (n := Pl.length) (fun i σ H' => Keep s H H' ∧ SO S s H' ∧ (∃ w : Option V, σ = [some (.ref s), some (.ref R), some (.int gap), some (.ref O), some (.int shift), some (.ref D), w]) ∧ H' R = some (.lst (Pl.map V.int)) ∧ H' O = some (.lst (L.map V.int)) ∧ H' D = some (dIs (Pl.take i) fun p => shift + gap * f0 p)) ⟨k14.new nD0, so4.put fD, ⟨_, rfl⟩, by rw [upd_ne nRD]; exact eR4, by rw [upd_ne nOD]; exact eO4, upd_same⟩ ?_ ?_
    · rintro i σ H5 hi ⟨k5, so5, ⟨w, rfl⟩, eR5, eU5, eD5⟩
      have hp : Pl[i]? = some Pl[i] := List.getElem?_eq_getElem hi
      have hd : L[i]? = some (L[i]'(by omega)) := List.getElem?_eq_getElem (by omega)
      have ew : upd H5 D (.dK (putK ((Pl.take i).map fun p => ((.inl p : Key), V.int (shift + gap * f0 p))) (.inl Pl[i]) (.int (shift + gap * f0 Pl[i])))) D = some (dIs (Pl.take (i + 1)) fun p => shift + gap * f0 p) := by
        rw [upd_same, putK_fresh, ← take_snoc hp]
        · show _ = some (HO.dK ((Pl.take i ++ [Pl[i]]).map _))
          rw [List.map_append]
          rfl
        · rw [List.map_map]
          intro hm
          obtain ⟨z, hz, e⟩ := List.mem_map.mp hm
          exact notin_take hnd hp (by have h9 : z = Pl[i] := Sum.inl.inj e; exact h9 ▸ hz)
      refine ⟨_, rfl, _, rfl, _, rfl, _, rfl, O, _, _, _, rfl, rfl, .of eU5, by rw [Int.zero_add]; exact atI_nat (j := i) (by rw [List.getElem?_map, hd]; rfl), _, _, rfl, rfl, .inl ⟨by omega, by omega⟩, _, _, rfl, rfl, _, rfl, _, rfl, _, rfl, R, _, _, _, rfl, rfl, .of eR5, by rw [Int.zero_add]; exact atI_nat (j := i) (by rw [List.getElem?_map, hp]; rfl), D, _, rfl, .inl ⟨_, .inl Pl[i], eD5, rfl, by rw [List.length_map, List.length_take]; omega, rfl⟩, ?_⟩
      have hfi : f0 Pl[i] = L[i] := hf2 i _ _ hp hd
      rw [hfi] at ew
      exact ⟨k5.new nD0, so5.put fD, ⟨_, rfl⟩, by rw [upd_ne nRD]; exact eR5, by rw [upd_ne nOD]; exact eU5, ew⟩
    rintro σ H5 ⟨k5, so5, ⟨w, rfl⟩, eR5, eU5, eD5⟩
    rw [List.take_length] at eD5
    refine ⟨_, rfl, q H5 D (fun p => shift + gap * f0 p) k5 so5 nD0 eD5 (fun p hp p' hp' e => ?_) fun p hp => ?_⟩
    · obtain ⟨i, d, h1, h2, h3⟩ := hf1 p hp
      obtain ⟨j, d', h4, h5, h6⟩ := hf1 p' hp'
      have e' : gap * f0 p = gap * f0 p' := by
        have e : shift + gap * f0 p = shift + gap * f0 p' := e
        omega
      have : d = d' := by rw [← h3, ← h6]; exact Int.eq_of_mul_eq_mul_left (by omega) e'
      subst this
      have g1 := List.getElem?_eq_some_iff.mp h2
      have g2 := List.getElem?_eq_some_iff.mp h5
      have : i = j := (List.getElem_inj ndL).mp (g1.2.trans g2.2.symm)
      subst this
      exact Option.some.inj (h1.symm.trans h4)
    · obtain ⟨i, d, h1, h2, h3⟩ := hf1 p hp
      have hd := hL d (List.mem_of_getElem? h2)
      have a1 : 0 ≤ gap * d := Int.mul_nonneg (by omega) hd.1
      have a2 : gap * d ≤ gap * ((Pl.length : Int) + 2) := Int.mul_le_mul_of_nonneg_left hd.2 (by omega)
      rw [hT] at a2
      show 0 ≤ shift + gap * f0 p ∧ shift + gap * f0 p ≤ 9999
      rw [h3]
      omega


set_option maxHeartbeats 4000000 in
theorem ok_law_timed  (F : Fun K "_law_timed" "_law_timed" s_law_timed f fd) (T : Txt w K mg)
    (O_law_take : Own P w K mg base k "_law_take" ["store", "many"] (sp_law_take))
    (O_law_pick : Own P w K mg base k "_law_pick" ["store", "things"] (sp_law_pick K))
    (O_law_gap : Own P w K mg base k "_law_gap" ["store", "kind"] (sp_law_gap)) : FnOk P w K mg base CX0 (k + 1) f fd ["store", "names", "mixings"] (sp_law_timed K) := by
  refine F.ok sc_law_timed (fun vs H Q E h => ?_) (fun cdv A outer s0 H vs Q E hr h => ?_)
  · obtain ⟨S, s, x, ns, m, rfl, hS, hx, hn1, hn2, hm, hnd, hw, q⟩ := h
    rfl
  · obtain ⟨S, s, x, ns, m, rfl, hS, hx, hn1, hn2, hm, hnd, hw, q⟩ := h
    refine ⟨_, (pss_cons (ps_set (i := 3) sc_law_timed.nd rfl (Or.inl rfl) (pe_own O_law_take hr (by rfl) (pa_cons (pv 0) (pa_cons pe_int pa_nil))))
      (pss_cons (ps_set (i := 4) sc_law_timed.nd rfl (Or.inr rfl) (pe_own O_law_pick hr (by rfl) (pa_cons (pv 0) (pa_cons (pe_lst (pa_cons pe_int (pa_cons pe_int (pa_cons pe_int (pa_cons (pe_un un_neg pe_int) (pa_cons pe_int (pa_cons (pe_op op_pow pe_int pe_int) (pa_cons (pe_un un_neg (pe_op op_pow pe_int pe_int)) pa_nil)))))))) pa_nil))))
      (pss_cons (ps_set (i := 5) sc_law_timed.nd rfl (Or.inr rfl) (pe_disp (pps_cons pe_int (pv 4) pps_nil) rfl rfl (List.cons_ne_nil _ _) (by decide)))
      (pss_cons (ps_if (pt_cmpR op_eq (pe_callB call_len_seq (by rfl) T.len PySem.boot_len (pa_cons (pv 1) pa_nil)) pe_int (nomark _))
        (pss_one (ps_ret (pe_lst (pa_cons (pe_lst (pa_cons (pe_lst pa_nil) (pa_cons (pe_lst (pa_cons (pe_tup (pa_cons pe_int (pa_cons (pe_ix ix_list (pv 1) pe_int (fun _ _ => rfl)) pa_nil))) pa_nil)) pa_nil))) (pa_cons (pv 5) pa_nil)))))
        pss_nil)
      (pss_cons (ps_set (i := 6) sc_law_timed.nd rfl (Or.inl rfl) (pe_lst pa_nil))
      (pss_cons (ps_set (i := 7) sc_law_timed.nd rfl (Or.inr rfl) (pe_lst (pa_cons pe_int (pa_cons pe_int pa_nil))))
      (pss_cons (ps_for PassesOwn.never rfl (pi_range1 (by rfl) T.range (pa_cons (pe_op op_add (pe_op op_sub (pe_callB call_len_seq (by rfl) T.len PySem.boot_len (pa_cons (pv 1) pa_nil)) pe_int) (pv 2)) pa_nil)) (pg_name (i := 8) sc_law_timed.nd rfl (Or.inl rfl))
        (C8.pss_cut (ps_set (i := 9) sc_law_timed.nd rfl (Or.inl rfl) (pe_and (pe_cmpR op_gt (pv 2) pe_int (nomark _)) (pe_one (pe_or (pe_cmpR op_eq (pe_callB call_len_seq (by rfl) T.len PySem.boot_len (pa_cons (pv 7) pa_nil)) (pe_callB call_len_seq (by rfl) T.len PySem.boot_len (pa_cons (pv 1) pa_nil)) (nomark _)) (pe_one (pe_cmpR op_eq (pe_own O_law_take hr (by rfl) (pa_cons (pv 0) (pa_cons pe_int pa_nil))) pe_int (nomark _)))))))
        (pss_cons (ps_setLc (i := 11) (own := [("k", 10)]) (by rfl) sc_law_timed.nd rfl rfl (sw_true rfl rfl rfl (by decide +kernel)) (pi_range1 (by rfl) T.range (pa_cons (pe_callB call_len_seq (by rfl) T.len PySem.boot_len (pa_cons (pv 7) pa_nil)) pa_nil)) (blkOk_by (own := [("k", 10)]) (N := ["store", "names", "mixings", "kind", "moment", "number", "arrows", "lines", "turn", "gift", "k", "free", "at", "new", "other", "even", "leaves"]) (sc := defScope s_law_timed) (by decide +kernel)) (fun _ _ _ _ _ => pg_name (i := 10) sc_law_timed.nd rfl (Or.inl rfl)) (fun _ _ _ _ _ => (pts_one (pt_cmpR op_lt (pe_dget (u1 hr) (pv 5) (pe_ix (ix_listK K rfl) (pv 7) (pv 10) (fun _ _ => rfl)) (fun _ _ => rfl)) (pv 4) (nomark _)))) (fun _ _ _ _ _ => (pv 10)))
        (C8.pss_cut (ps_if (PW.pt (pw_or (pt_cmpR op_lt (pe_callB call_len_seq (by rfl) T.len PySem.boot_len (pa_cons (pv 11) pa_nil)) (pe_op op_add pe_int (pe_callTy call_int1 (by rfl) T.int (by decide +kernel) (pa_cons (pv 9) pa_nil))) (nomark _)) (pw_or1 (pt_cmpR op_gt (pe_own O_law_take hr (by rfl) (pa_cons (pv 0) (pa_cons pe_int pa_nil))) pe_int (nomark _)))))
          (pss_cons (ps_set (i := 4) sc_law_timed.nd rfl (Or.inr rfl) (pe_op op_add (pv 4) (pe_own O_law_gap hr (by rfl) (pa_cons (pv 0) (pa_cons (pv 3) pa_nil)))))
          (pss_one (ps_set (i := 11) sc_law_timed.nd rfl (Or.inl rfl) (pe_listRg rfl (by rfl) T.list (prg_1 (by rfl) T.range (pe_callB call_len_seq (by rfl) T.len PySem.boot_len (pa_cons (pv 7) pa_nil)))))))
          pss_nil)
        (pss_cons (ps_set (i := 12) sc_law_timed.nd rfl (Or.inl rfl) (pe_bm PySem.F.plainAttrs_list PySem.F.slot_list_pop PySem.F.type_list_pop mt_popAt (pv 11) (pa_cons (pe_own O_law_take hr (by rfl) (pa_cons (pv 0) (pa_cons (pe_callB call_len_seq (by rfl) T.len PySem.boot_len (pa_cons (pv 11) pa_nil)) pa_nil))) pa_nil)))
        (pss_cons (ps_set (i := 13) sc_law_timed.nd rfl (Or.inl rfl) (pe_callB call_lenD (by rfl) T.len PySem.boot_len (pa_cons (pv 5) pa_nil)))
        (pss_cons (ps_expr (pe_bm PySem.F.plainAttrs_list PySem.F.slot_list_append PySem.F.type_list_append mt_append (pv 6) (pa_cons (pe_tup (pa_cons (pe_ix ix_list (pv 7) (pv 12) (fun _ _ => rfl)) (pa_cons (pv 13) pa_nil))) pa_nil)))
        (pss_cons (ps_dput (u1 hr) (pv 5) (pv 13) (pv 4) rfl)
        (pss_cons (ps_if (pt_val (pv 9))
          (pss_cons (ps_set (i := 14) sc_law_timed.nd rfl (Or.inl rfl) (pe_bm PySem.F.plainAttrs_list PySem.F.slot_list_pop PySem.F.type_list_pop mt_popAt (pv 11) (pa_cons (pe_own O_law_take hr (by rfl) (pa_cons (pv 0) (pa_cons (pe_callB call_len_seq (by rfl) T.len PySem.boot_len (pa_cons (pv 11) pa_nil)) pa_nil))) pa_nil)))
          (pss_cons (ps_set (i := 6) sc_law_timed.nd rfl (Or.inl rfl) (pe_op op_cat (pv 6) (pe_lst (pa_cons (pe_tup (pa_cons (pe_ix ix_list (pv 7) (pv 14) (fun _ _ => rfl)) (pa_cons (pe_op op_add (pv 13) pe_int) pa_nil))) (pa_cons (pe_tup (pa_cons (pv 13) (pa_cons (pe_op op_add (pv 13) pe_int) pa_nil))) pa_nil)))))
          (pss_cons (ps_dput (u1 hr) (pv 5) (pe_op op_add (pv 13) pe_int) (pv 4) rfl)
          (pss_cons (ps_asg (pe_op op_add (pv 13) pe_int) (pg_sub (pv 7) (pv 14) set_list))
          (pss_one (ps_set (i := 2) sc_law_timed.nd rfl (Or.inl rfl) (pe_op op_sub (pv 2) pe_int)))))))
          (pss_one (ps_expr (pe_bm PySem.F.plainAttrs_list PySem.F.slot_list_append PySem.F.type_list_append mt_append (pv 7) (pa_cons (pv 13) pa_nil)))))
        (pss_one (ps_asg (pv 13) (pg_sub (pv 7) (pv 12) set_list))))))))))))
      (pss_cons (ps_set (i := 15) sc_law_timed.nd rfl (Or.inl rfl) (pe_cmpR op_eq (pe_own O_law_take hr (by rfl) (pa_cons (pv 0) (pa_cons pe_int pa_nil))) pe_int (nomark _)))
      (pss_cons (ps_set (i := 16) sc_law_timed.nd rfl (Or.inl rfl) (pe_lst pa_nil))
      (pss_cons (ps_for PassesOwn.never rfl (pi_range1 (by rfl) T.range (pa_cons (pe_callB call_len_seq (by rfl) T.len PySem.boot_len (pa_cons (pv 7) pa_nil)) pa_nil)) (pg_name (i := 10) sc_law_timed.nd rfl (Or.inl rfl))
        (pss_cons (ps_set (i := 13) sc_law_timed.nd rfl (Or.inl rfl) (pe_callB call_lenD (by rfl) T.len PySem.boot_len (pa_cons (pv 5) pa_nil)))
        (pss_cons (ps_expr (pe_bm PySem.F.plainAttrs_list PySem.F.slot_list_append PySem.F.type_list_append mt_append (pv 6) (pa_cons (pe_tup (pa_cons (pe_ix ix_list (pv 7) (pv 10) (fun _ _ => rfl)) (pa_cons (pv 13) pa_nil))) pa_nil)))
        (pss_cons (ps_expr (pe_bm PySem.F.plainAttrs_list PySem.F.slot_list_append PySem.F.type_list_append mt_append (pv 16) (pa_cons (pe_tup (pa_cons (pv 13) (pa_cons (pe_ix ix_list (pv 1) (pv 10) (fun _ _ => rfl)) pa_nil))) pa_nil)))
        (pss_cons (ps_dput (u1 hr) (pv 5) (pv 13) (pe_op op_add (pv 4) pe_int) rfl)
        (pss_one (ps_if (pt_not (pt_val (pv 15)))
          (pss_one (ps_dput (u1 hr) (pv 5) (pv 13) (pe_op op_add (pe_dget (u1 hr) (pv 5) (pe_ix ix_list (pv 7) (pv 10) (fun _ _ => rfl)) (fun _ _ => rfl)) (pe_own O_law_gap hr (by rfl) (pa_cons (pv 0) (pa_cons (pv 3) pa_nil)))) rfl))
          pss_nil)))))))
      (pss_one (ps_ret (pe_lst (pa_cons (pe_lst (pa_cons (pe_callB cr_sortedPO (by rfl) T.sorted (by decide +kernel) (pa_cons (pv 6) pa_nil)) (pa_cons (pv 16) pa_nil))) (pa_cons (pv 5) pa_nil))))))))))))))), ?_⟩
    obtain ⟨a, xs, rfl, nSa, ea, hA⟩ := hx.list
    obtain rfl := daAll_strs hA
    have nas : a ≠ s := fun z => nSa (z ▸ hS.at_)
    have sz : 1000 < sizeLine := by decide
    have lx : (ns.map V.str).length = ns.length := List.length_map ..
    generalize hn : ns.length = n at hn1 hn2
    refine ⟨_, rfl, S, s, 3, rfl, hS.so, by decide, fun H1 kind k1 so1 _ _ => ?_⟩
    walk_at "go"
    intro pp np
    refine pick_list so1 np (by simp) (by simp) fun H2 v k2 _ so2 hv => ?_
    obtain ⟨mom0, rfl, hmb1, hmb2⟩ : ∃ z : Int, v = .int z ∧ -100000000000000000000000000000000000000000000000000 ≤ z ∧ z ≤ 100000000000000000000000000000000000000000000000000 := by
      simp only [List.mem_cons, List.not_mem_nil, or_false] at hv
      rcases hv with rfl | rfl | rfl | rfl | rfl | rfl | rfl <;> exact ⟨_, rfl, by decide +kernel, by decide +kernel⟩
    have k12 := k1.trans k2
    have S2 := hS.keep k12 so2
    refine fun D nD => ⟨_, rfl, upd_same, [(.inl 0, .int mom0)], rfl, (by show 1 ≤ 15; decide), ?_⟩
    have nDs : D ≠ s := S2.ne nD
    have nD0 : H D = none := k12.free nDs nD
    have fD : ¬ S D := S2.free nD
    have s3 : Same H2 (upd (upd H2 D (.dK [])) D (.dK [((.inl 0 : Key), V.int mom0)])) := fun b o e => by
      have h : b ≠ D := fun z => by rw [z, nD] at e; cases e
      rw [upd_ne h, upd_ne h]
      exact e
    have eD3 : upd (upd H2 D (.dK [])) D (.dK [((.inl 0 : Key), V.int mom0)]) D = some (dIs (rgI 1) fun _ => mom0) := upd_same
    rw [show mergeK [] [((.inl 0 : Key), V.int mom0)] = [((.inl 0 : Key), V.int mom0)] from rfl]
    generalize upd (upd H2 D (.dK [])) D (.dK [((.inl 0 : Key), V.int mom0)]) = H3 at s3 eD3
    have k3 := k12.trans (Keep.of s3)
    have S3 := S2.same s3
    have ea3 := k3 _ _ nas ea
    refine ⟨_, rfl, a, _, rfl, .inl (.of ea3), rfl, _, rfl, ite2 (fun e1 => ?_) fun hne => ?_⟩
    · have hn1' : n = 1 := by
        have := V.int.inj (of_decide_eq_true e1)
        omega
      obtain ⟨z, rfl⟩ : ∃ z, ns = [z] := List.length_eq_one_iff.mp (by omega)
      refine ⟨(by show 0 ≤ sizeLine; decide), fun A0 nA0 => ?_⟩
      obtain ⟨H4, e4, S4, k4, s4, eA4, fA, nAs⟩ := fresh (.lst []) S3 k3 nA0
      rw [e4]
      refine ⟨_, rfl, a, _, _, _, rfl, rfl, .of (s4 _ _ ea3), atI_nat (j := 0) rfl, (by show 2 ≤ sizeLine; decide), fun T nT => ?_⟩
      have dT := (da_ld2 (S := S) (p := (0, z)) S4.al (Same.refl _) nT).1
      obtain ⟨H5, e5, S5, k5, s5, eT5, fT, nTs⟩ := fresh (.tup [.int 0, .str z]) S4 k4 nT
      rw [e5] at dT ⊢
      refine ⟨(by show 1 ≤ sizeLine; decide), fun L0 nL0 => ?_⟩
      obtain ⟨H6, e6, S6, k6, s6, eL6, fL, nLs⟩ := fresh (.lst [.ref T]) S5 k5 nL0
      rw [e6]
      refine ⟨(by show 2 ≤ sizeLine; decide), fun W nW => ?_⟩
      obtain ⟨H7, e7, S7, k7, s7, eW7, fW, nWs⟩ := fresh (.lst [.ref A0, .ref L0]) S6 k6 nW
      rw [e7]
      refine ⟨_, rfl, (by show 2 ≤ sizeLine; decide), fun R nR => ?_⟩
      obtain ⟨H8, e8, S8, k8, s8, eR8, fR, nRs⟩ := fresh (.lst [.ref W, .ref D]) S7 k7 nR
      rw [e8]
      have t58 : Same H5 H8 := (s6.trans s7).trans s8
      exact q H8 R D (.ref W) [] [(0, z)] (rgI 1) (fun _ => mom0) k8 S8.so nRs nDs eR8 (.lst fW (s8 _ _ eW7) (.cons (.lst fA (t58 _ _ (s5 _ _ eA4)) .nil) (.one (.lst fL (s8 _ _ (s7 _ _ eL6)) (.one (dT.same t58)))))) (t58 _ _ (s5 _ _ (s4 _ _ eD3)))
        ((Grow.one (z := z) (f := fun _ => mom0)).good (fun _ => rfl) (Nat.zero_le _) (Nat.zero_le _) ⟨by simp, by simp⟩ (by decide) hnd fun l hl => by obtain rfl := List.mem_singleton.mp hl; exact hw z (by simp)) ((Grow.one (z := z) (f := fun _ => mom0)).fitsC fun _ => rfl) fun p _ => ⟨by show -10000000000000000000000000000000000000000000000000000 ≤ mom0; omega, by show mom0 ≤ 10000000000000000000000000000000000000000000000000000; omega⟩
    have hn2' : 2 ≤ n := Classical.byContradiction fun z => hne (decide_eq_true (by rw [lx, hn, show n = 1 by omega]; rfl))
    refine ⟨(by show 0 ≤ sizeLine; decide), fun AR nAR => ?_⟩
    obtain ⟨H4, e4, S4, k4, s4, eA4, _, nAs⟩ := fresh (.lst []) S3 k3 nAR
    rw [e4]
    clear e4
    have nA0 : H AR = none := k3.free nAs nAR
    refine ⟨(by show 2 ≤ sizeLine; decide), fun LN nLN => ?_⟩
    obtain ⟨H5, e5, S5, k5, s5, eL5, fL, nLs⟩ := fresh (.lst [.int 0, .int 0]) S4 k4 nLN
    rw [e5]
    clear e5
    have nL0 : H LN = none := k4.free nLs nLN
    have nAL : AR ≠ LN := fun z => by rw [← z, eA4] at nLN; cases nLN
    have nAD : AR ≠ D := fun z => by rw [z, eD3] at nAR; cases nAR
    have nLD : LN ≠ D := fun z => by rw [z, s4 _ _ eD3] at nLN; cases nLN
    have ea5 := k5 _ _ nas ea
    refine ⟨_, rfl, a, _, rfl, .inl (.of ea5), _, _, rfl, rfl, _, rfl, _, _, rfl, rfl, _, rfl, by omega, by omega, ?_⟩
    rw [lx, hn]
    refine for_range (n := ((n : Int) - 2 + m).toNat) (fun t σ H' => Keep s H H' ∧ SO S s H' ∧ ∃ (lines : List Int) (As : List (Int × Int)) (mx mom : Int) (N : Nat) (f : Int → Int) (kk : Nat) (AR : Addr) (ys : List V) (v8 v9 v10 v11 v12 v13 v14 : Option V), σ = [some (.ref s), some (.ref a), some (.int mx), some (.int kind), some (.int mom), some (.ref D), some (.ref AR), some (.ref LN), v8, v9, v10, v11, v12, v13, v14, none, none] ∧ H AR = none ∧ AR ≠ LN ∧ AR ≠ D ∧ H' LN = some (.lst (lines.map V.int)) ∧ H' AR = some (.lst ys) ∧ DaAll S H' ys (As.map pd) ∧ H' D = some (dIs (rgI N) f) ∧ Grow (fun p => lines.count p) As [] N f kk ∧ (∀ p : Int, p < (N : Int) → f p ≤ mom) ∧ 0 ≤ mx ∧ mx + kk = m ∧ lines.length + kk = t + 2 ∧ lines.length ≤ n ∧ 2 ≤ lines.length ∧ As.length + 2 = lines.length + 3 * kk ∧ N + 1 = lines.length + 2 * kk ∧ -100000000000000000000000000000000000000000000000000 ≤ mom ∧ mom ≤ 100000000000000000000000000000000000000000000000000 + 100000000000000000000000000000000000000000000000000 * (t : Int) ∧ (∀ p : Int, p < (N : Int) → -100000000000000000000000000000000000000000000000000 ≤ f p))
      ⟨k5, S5.so, [0, 0], [], m, mom0, 1, fun _ => mom0, 0, AR, [], _, _, _, _, _, _, _, rfl, nA0, nAL, nAD, eL5, s5 _ _ eA4, .nil, s5 _ _ (s4 _ _ eD3), Grow.start2, fun _ _ => Int.le_refl _, by omega, by omega, rfl, hn2', Nat.le_refl _, rfl, rfl, hmb1, by omega, fun _ _ => hmb1⟩ ?_ ?_
    · rintro t σ H6 ht ⟨k6, so6, lines, As, mx, mom, N, f, kk, AR, ys, v8, v9, v10, v11, v12, v13, v14, rfl, nA0, nAL, nAD, eL, eA, hys, eD, g, htm, hmx, hmk, hlk, hln, hl2, hAs, hN, hml1, hml2, hfl⟩
      have ll : (lines.map V.int).length = lines.length := List.length_map ..
      have ht' : t + 2 < n + m := by omega
      have nAs : AR ≠ s := hS.ne nA0
      have fA : ¬ S AR := hS.free nA0
      have ea6 := k6 _ _ nas ea
      refine ⟨fun σ' H' => Keep s H6 H' ∧ SO S s H' ∧ ∃ gb : Bool, σ' = [some (.ref s), some (.ref a), some (.int mx), some (.int kind), some (.int mom), some (.ref D), some (.ref AR), some (.ref LN), some (.int (0 + (t : Int))), some (.bl gb), v10, v11, v12, v13, v14, none, none] ∧ (gb = true → 0 < mx) ∧ (gb = false → lines.length < n), ?_, ?_⟩
      · refine ⟨_, rfl, _, _, rfl, rfl, _, rfl, ite2 (fun e0 => ?_) fun e0 => ⟨Keep.refl _ _, so6, _, rfl, (fun e => by cases e), fun _ => by have : ¬ 0 < mx := fun z => e0 (decide_eq_true z); omega⟩⟩
        refine ⟨_, rfl, LN, _, rfl, .inl (.of eL), _, rfl, a, _, rfl, .inl (.of ea6), rfl, _, rfl, ite2 (fun e2 => ⟨Keep.refl _ _, so6, _, rfl, fun _ => of_decide_eq_true e0, (fun e => by cases e)⟩) fun e2 => ?_⟩
        refine ⟨_, rfl, S, s, 2, rfl, so6, by decide, fun H7 r k7 so7 _ _ => ⟨rfl, k7, so7, _, rfl, fun _ => of_decide_eq_true e0, fun _ => ?_⟩⟩
        have : lines.length ≠ n := fun z => e2 (decide_eq_true (by rw [ll, lx, hn, z]))
        omega
      rintro σ' H7 ⟨k7, so7, gb, rfl, hg1, hg2⟩
      have eL7 := k7 _ _ nLs eL
      have eA7 := k7 _ _ nAs eA
      have eD7 := k7 _ _ nDs eD
      have hys7 := hys.keep k7 hS.at_
      clear eL eA eD hys ea6
      refine seq_asg ?_
      refine lc_rngF (n := lines.length) (fun R h => ⟨_, rfl, LN, _, rfl, .inl (.of eL7), by rw [ll]; exact h⟩) (fun i => decide (f (lines.getD i.toNat 0) < mom)) (by omega) (fun _ => rfl) (fun _ => rfl) ?_ ?_
      · intro i hi H8 kq s8 hk
        have ei : lines[i]? = some lines[i] := List.getElem?_eq_getElem hi
        have hxr := g.rng lines[i] (List.count_pos_iff.mpr (List.getElem_mem hi))
        refine ⟨_, rfl, _, rfl, _, rfl, LN, _, _, _, rfl, rfl, .of (s8 _ _ eL7), atI_nat (j := i) (by rw [List.getElem?_map, ei]; rfl), D, _, rfl, DGet.of_dIs (s8 _ _ eD7) (mem_rgI.mpr hxr), _, rfl, _, _, rfl, rfl, _, rfl, ?_⟩
        have e9 : lines.getD i 0 = lines[i] := by rw [List.getD_eq_getElem?_getD, ei]; rfl
        have hk : kq (decide (f (lines.getD (i : Int).toNat 0) < mom)) H8 := hk H8 (Same.refl _)
        rw [Int.toNat_natCast, e9] at hk
        exact hk
      intro FR H8 nFR s8 eFR
      have hfr1 : ∀ i ∈ (rgI lines.length).filter fun i => decide (f (lines.getD i.toNat 0) < mom), ∃ j : Nat, i = (j : Int) ∧ j < lines.length ∧ ∃ u, lines[j]? = some u ∧ f u < mom := fun i hi => by
        obtain ⟨h1, h2⟩ := List.mem_filter.mp hi
        obtain ⟨h0, h1⟩ := mem_rgI.mp h1
        obtain ⟨j, rfl⟩ : ∃ j : Nat, i = (j : Int) := ⟨i.toNat, by omega⟩
        have hj : j < lines.length := by omega
        refine ⟨j, rfl, hj, lines[j], List.getElem?_eq_getElem hj, ?_⟩
        have h2 := of_decide_eq_true h2
        rw [Int.toNat_natCast, List.getD_eq_getElem?_getD, List.getElem?_eq_getElem hj] at h2
        exact h2
      have hfr2 := (rgI_nd lines.length).sublist (List.filter_sublist (p := fun i : Int => decide (f (lines.getD i.toNat 0) < mom)))
      have hfr3 := List.length_filter_le (fun i : Int => decide (f (lines.getD i.toNat 0) < mom)) (rgI lines.length)
      rw [rgI_len] at hfr3
      generalize (rgI lines.length).filter (fun i => decide (f (lines.getD i.toNat 0) < mom)) = fr at eFR hfr1 hfr2 hfr3
      have lf : (fr.map V.int).length = fr.length := List.length_map ..
      have kA : Keep s H H8 := (k6.trans k7).trans (Keep.of s8)
      have so8 := so7.same s8
      have eL8 := s8 _ _ eL7
      have eA8 := s8 _ _ eA7
      have eD8 := s8 _ _ eD7
      have hys8 := hys7.same s8
      have nFs : FR ≠ s := so7.ne nFR
      have nF0 : H FR = none := (k6.trans k7).free nFs nFR
      have nFL : FR ≠ LN := fun z => by rw [z, eL7] at nFR; cases nFR
      have nFA : FR ≠ AR := fun z => by rw [z, eA7] at nFR; cases nFR
      have nFD : FR ≠ D := fun z => by rw [z, eD7] at nFR; cases nFR
      clear eL7 eA7 eD7 hys7 nFR s8 k7 k6 so7
      refine ⟨fun σ' H' => Keep s H8 H' ∧ SO S s H' ∧ ∃ (mom' : Int) (FR : Addr) (fr : List Int), σ' = [some (.ref s), some (.ref a), some (.int mx), some (.int kind), some (.int mom'), some (.ref D), some (.ref AR), some (.ref LN), some (.int (0 + (t : Int))), some (.bl gb), v10, some (.ref FR), v12, v13, v14, none, none] ∧ H FR = none ∧ FR ≠ LN ∧ FR ≠ AR ∧ FR ≠ D ∧ H' FR = some (.lst (fr.map V.int)) ∧ mom ≤ mom' ∧ mom' ≤ mom + 100000000000000000000000000000000000000000000000000 ∧ fr.Nodup ∧ fr.length ≤ 12 ∧ (∀ i ∈ fr, ∃ j : Nat, i = (j : Int) ∧ j < lines.length ∧ ∃ u, lines[j]? = some u ∧ f u < mom') ∧ 1 ≤ fr.length ∧ (gb = true → 2 ≤ fr.length), ?_, ?_⟩
      · refine ⟨_, rfl, FR, _, rfl, .inl (.of eFR), _, rfl, .inr ⟨gb, rfl, _, _, rfl, rfl, _, _, rfl, rfl, _, rfl, ?_⟩⟩
        refine ite2 (fun e => ite2 (fun _ => ?_) fun z => absurd rfl z) (fun e => ?_)
        · refine ⟨_, rfl, _, rfl, _, rfl, S, s, kind, rfl, hS.keep (kA.trans (Keep.refl s H8)) so8, fun Hi gp ki soi hgp hgb => ⟨_, _, rfl, rfl, _, rfl, LN, _, rfl, .inl (.of (ki _ _ nLs ((Keep.refl s H8) _ _ nLs eL8))), _, rfl, ⟨by omega, by omega, by omega, by omega, by omega⟩, fun F2 nF2 => ?_⟩⟩
          rw [ll, rgV_nat]
          have kt := (Keep.refl s H8).trans ki
          have n2s : F2 ≠ s := soi.ne nF2
          have n28 : H8 F2 = none := kt.free n2s nF2
          have n20 : H F2 = none := kA.free n2s n28
          refine ⟨kt.new n28, soi.new nF2, mom + gp, F2, rgI lines.length, rfl, n20, fun z => ?_, fun z => ?_, fun z => ?_, upd_same, by omega, by omega, rgI_nd _, by rw [rgI_len]; omega, fun i hi => ?_, by rw [rgI_len]; omega, fun _ => by rw [rgI_len]; omega⟩
          · rw [z, eL8] at n28
            cases n28
          · rw [z, eA8] at n28
            cases n28
          · rw [z, eD8] at n28
            cases n28
          · obtain ⟨h0, h1⟩ := mem_rgI.mp hi
            obtain ⟨j, rfl⟩ : ∃ j : Nat, i = (j : Int) := ⟨i.toNat, by omega⟩
            have hj : j < lines.length := by omega
            refine ⟨j, rfl, hj, lines[j], List.getElem?_eq_getElem hj, ?_⟩
            have := htm lines[j] (g.rng _ (List.count_pos_iff.mpr (List.getElem_mem hj))).2
            omega
        refine ⟨_, rfl, S, s, 3, rfl, so8, by decide, fun H9 r k9 so9 _ _ => ⟨_, _, rfl, rfl, _, rfl, ite2 (fun _ => ?_) fun _ => ?_⟩⟩
        · refine ⟨_, rfl, _, rfl, _, rfl, S, s, kind, rfl, hS.keep (kA.trans k9) so9, fun Hi gp ki soi hgp hgb => ⟨_, _, rfl, rfl, _, rfl, LN, _, rfl, .inl (.of (ki _ _ nLs (k9 _ _ nLs eL8))), _, rfl, ⟨by omega, by omega, by omega, by omega, by omega⟩, fun F2 nF2 => ?_⟩⟩
          rw [ll, rgV_nat]
          have kt := k9.trans ki
          have n2s : F2 ≠ s := soi.ne nF2
          have n28 : H8 F2 = none := kt.free n2s nF2
          have n20 : H F2 = none := kA.free n2s n28
          refine ⟨kt.new n28, soi.new nF2, mom + gp, F2, rgI lines.length, rfl, n20, fun z => ?_, fun z => ?_, fun z => ?_, upd_same, by omega, by omega, rgI_nd _, by rw [rgI_len]; omega, fun i hi => ?_, by rw [rgI_len]; omega, fun _ => by rw [rgI_len]; omega⟩
          · rw [z, eL8] at n28
            cases n28
          · rw [z, eA8] at n28
            cases n28
          · rw [z, eD8] at n28
            cases n28
          · obtain ⟨h0, h1⟩ := mem_rgI.mp hi
            obtain ⟨j, rfl⟩ : ∃ j : Nat, i = (j : Int) := ⟨i.toNat, by omega⟩
            have hj : j < lines.length := by omega
            refine ⟨j, rfl, hj, lines[j], List.getElem?_eq_getElem hj, ?_⟩
            have := htm lines[j] (g.rng _ (List.count_pos_iff.mpr (List.getElem_mem hj))).2
            omega
        have e' := Int.not_lt.mp fun z => e (decide_eq_true z)
        rw [lf] at e'
        have hb1 : 1 ≤ fr.length := by
          cases gb with
          | true =>
            have e'' : 1 + (1 : Int) ≤ (fr.length : Int) := e'
            omega
          | false =>
            have e'' : 1 + (0 : Int) ≤ (fr.length : Int) := e'
            omega
        refine ⟨k9, so9, mom, FR, fr, rfl, nF0, nFL, nFA, nFD, k9 _ _ nFs eFR, Int.le_refl _, by omega, hfr2, by omega, hfr1, hb1, fun z => ?_⟩
        rw [z] at e'
        have e'' : 1 + (1 : Int) ≤ (fr.length : Int) := e'
        omega
      clear hfr1 hfr2 hfr3 lf eFR nF0 nFL nFA nFD nFs fr FR
      rintro σ' H9 ⟨k9, so9, mom', FR, fr, rfl, nF0, nFL, nFA, nFD, eF9, hmm, hmm2, hfr2, hfr12, hfr1, hf1, hf2⟩
      have kB : Keep s H H9 := kA.trans k9
      have nFs : FR ≠ s := hS.ne nF0
      have fF : ¬ S FR := hS.free nF0
      have eL9 := k9 _ _ nLs eL8
      have eA9 := k9 _ _ nAs eA8
      have eD9 := k9 _ _ nDs eD8
      have hys9 := hys8.keep k9 hS.at_
      clear eL8 eA8 eD8 hys8 k9 kA so8
      have lf : (fr.map V.int).length = fr.length := List.length_map ..
      refine ⟨_, rfl, .inl ⟨rfl, _, .of eF9⟩, _, rfl, _, rfl, FR, _, rfl, .inl (.of eF9), S, s, _, rfl, so9, by rw [lf]; omega, fun H10 r k10 so10 r0 r1 => ?_⟩
      rw [lf] at r1
      obtain ⟨j, rfl⟩ : ∃ j : Nat, r = (j : Int) := ⟨r.toNat, by omega⟩
      have hj : j < fr.length := by omega
      have ej : fr[j]? = some fr[j] := List.getElem?_eq_getElem hj
      refine ⟨FR, _, _, j, .int fr[j], rfl, rfl, k10 _ _ nFs eF9, by omega, by omega, ix_some (by rw [lf]; exact hj), by rw [List.getElem?_map, ej]; rfl, ?_⟩
      obtain ⟨ja, hja, hjl, u, eu, hfu⟩ := hfr1 fr[j] (List.getElem_mem hj)
      have hpe := perm_eraseIdx ej
      rw [map_eraseIdx', hja]
      rw [hja] at hpe
      have hlf2 : (fr.eraseIdx j).length + 1 = fr.length := by
        have := hpe.length_eq
        rw [List.length_cons] at this
        omega
      have hoth : ∀ i ∈ fr.eraseIdx j, i ≠ (ja : Int) ∧ i ∈ fr := fun i hi => by
        have h1 := (hpe.nodup_iff.mp hfr2)
        exact ⟨fun z => (List.nodup_cons.mp h1).1 (z ▸ hi), hpe.mem_iff.mpr (List.mem_cons_of_mem _ hi)⟩
      generalize fr.eraseIdx j = fr2 at hlf2 hoth
      clear hpe ej hja hj
      have k11 : Keep s H (upd H10 FR (.lst (fr2.map V.int))) := (kB.trans k10).new nF0
      have so11 : SO S s (upd H10 FR (.lst (fr2.map V.int))) := so10.put fF
      have eL11 : upd H10 FR (.lst (fr2.map V.int)) LN = some (.lst (lines.map V.int)) := by rw [upd_ne nFL.symm]; exact k10 _ _ nLs eL9
      have eA11 : upd H10 FR (.lst (fr2.map V.int)) AR = some (.lst ys) := by rw [upd_ne nFA.symm]; exact k10 _ _ nAs eA9
      have eD11 : upd H10 FR (.lst (fr2.map V.int)) D = some (dIs (rgI N) f) := by rw [upd_ne nFD.symm]; exact k10 _ _ nDs eD9
      have eF11 : upd H10 FR (.lst (fr2.map V.int)) FR = some (.lst (fr2.map V.int)) := upd_same
      have hys11 : DaAll S (upd H10 FR (.lst (fr2.map V.int))) ys (As.map pd) := daAll_pd_put (k10 _ _ nFs eF9) (hys9.keep k10 hS.at_)
      generalize upd H10 FR (.lst (fr2.map V.int)) = H11 at k11 so11 eL11 eA11 eD11 eF11 hys11
      clear eL9 eA9 eD9 hys9 eF9 k10 so10 so9 kB H10 H9
      have lys : ys.length = As.length := by rw [hys11.length, List.length_map]
      refine ⟨_, rfl, D, _, rfl, eD11, ?_⟩
      rw [List.length_map, rgI_len]
      refine ⟨_, rfl, .inl ⟨rfl, _, .of eA11⟩, _, rfl, _, rfl, LN, _, _, _, rfl, rfl, .of eL11, atI_nat (j := ja) (by rw [List.getElem?_map, eu]; rfl), _, rfl, (by show 2 ≤ sizeLine; decide), fun T nT => ⟨AR, ys, .ref T, rfl, rfl, (by rw [upd_ne (fun z => by rw [← z, eA11] at nT; cases nT)]; exact eA11), by omega, ?_⟩⟩
      obtain ⟨H12, e12, k12', so12, eA12, hys12, kp12⟩ := app_pd (u, (N : Int)) hS k11 so11 nA0 eA11 hys11 nT
      rw [show upd (upd H11 T (.tup [.int u, .int (N : Int)])) AR (.lst (ys ++ [.ref T])) = H12 from e12]
      have eL12 := kp12 _ _ nAL.symm eL11
      have eD12 := kp12 _ _ nAD.symm eD11
      have eF12 := kp12 _ _ nFA eF11
      clear e12 kp12 eA11 eL11 eD11 eF11 hys11 k11 so11
      refine ⟨_, rfl, _, rfl, _, rfl, D, _, rfl, .inl ⟨_, .inl (N : Int), eD12, rfl, by rw [List.length_map, rgI_len]; omega, rfl⟩, ?_⟩
      have eD13 := put_end (H := H12) (D := D) (N := N) (f := f) (v := mom')
      have k13 := k12'.new (o := .dK (putK ((rgI N).map fun q => ((.inl q : Key), V.int (f q))) (.inl (N : Int)) (.int mom'))) nD0
      have so13 := so12.put (o := .dK (putK ((rgI N).map fun q => ((.inl q : Key), V.int (f q))) (.inl (N : Int)) (.int mom'))) fD
      have eL13 : upd H12 D (.dK (putK ((rgI N).map fun q => ((.inl q : Key), V.int (f q))) (.inl (N : Int)) (.int mom'))) LN = some (.lst (lines.map V.int)) := by rw [upd_ne nLD]; exact eL12
      have eA13 : upd H12 D (.dK (putK ((rgI N).map fun q => ((.inl q : Key), V.int (f q))) (.inl (N : Int)) (.int mom'))) AR = some (.lst (ys ++ [.ref T])) := by rw [upd_ne nAD]; exact eA12
      have eF13 : upd H12 D (.dK (putK ((rgI N).map fun q => ((.inl q : Key), V.int (f q))) (.inl (N : Int)) (.int mom'))) FR = some (.lst (fr2.map V.int)) := by rw [upd_ne nFD]; exact eF12
      have hys13 := pd_ne (o := .dK (putK ((rgI N).map fun q => ((.inl q : Key), V.int (f q))) (.inl (N : Int)) (.int mom'))) (fun xs z => by rw [eD12] at z; cases z) hys12
      generalize upd H12 D (.dK (putK ((rgI N).map fun q => ((.inl q : Key), V.int (f q))) (.inl (N : Int)) (.int mom'))) = H13 at eD13 k13 so13 eL13 eA13 eF13 hys13
      clear eD12 eL12 eA12 eF12 hys12 k12' so12
      have hu : 0 < lines.count u := List.count_pos_iff.mpr (List.mem_of_getElem? eu)
      have uN := g.rng u hu
      have tm2 : ∀ (f2 : Int → Int), (∀ p, p < (N : Int) → f2 p = f p) → ∀ p : Int, p < (N : Int) → f2 p ≤ mom' := fun f2 h p hp => by
        have := htm p hp
        rw [h p hp]
        omega
      refine ⟨_, rfl, gb, rfl, ?_⟩
      cases gb with
      | false =>
        refine ite2 (fun e => absurd e (by decide)) fun _ => ?_
        refine ⟨_, rfl, .inl ⟨rfl, _, .of eL13⟩, _, rfl, LN, _, _, rfl, rfl, eL13, by rw [ll]; omega, ?_⟩
        refine ⟨_, rfl, _, rfl, _, rfl, LN, _, _, ja, rfl, rfl, upd_same, ixN_some (by rw [List.length_append, ll]; omega), ?_⟩
        have hlt := hg2 rfl
        refine ⟨(k13.new nL0).new nL0, (so13.put fL).put fL, (lines ++ [(N : Int)]).set ja N, As ++ [(u, (N : Int))], mx, mom', N + 1, _, kk, AR, _, _, _, _, _, _, _, _, rfl, nA0, nAL, nAD, ?_, by rw [upd_ne nAL, upd_ne nAL]; exact eA13, ?_, by rw [upd_ne nLD.symm, upd_ne nLD.symm]; exact eD13, ?_, fun p hp => ?_, hmx, hmk, ?_, ?_, ?_, ?_, ?_, by omega, by omega, fun p hp => ?_⟩
        · rw [upd_same, List.map_set, List.map_append]
          rfl
        · exact daAll_pd_put upd_same (daAll_pd_put eL13 hys13)
        · refine g.add (cc := 2) hu (fun p => ?_) (.inl ⟨rfl, rfl⟩) (fun p hp => if_neg (by omega)) ?_
          · have h1 := cnt_set (l := lines ++ [(N : Int)]) (i := ja) (x := u) (v := (N : Int)) (by rw [List.getElem?_append_left hjl]; exact eu) p
            rw [cnt_snoc] at h1
            show ((lines ++ [(N : Int)]).set ja (N : Int)).count p + ind u p = lines.count p + 2 * ind N p
            omega
          · rw [if_pos rfl]
            exact hfu
        · by_cases z : p = (N : Int)
          · rw [if_pos z]
            exact Int.le_refl _
          · have := htm p (by omega)
            rw [if_neg z]
            omega
        · rw [List.length_set, List.length_append, List.length_singleton]
          omega
        · rw [List.length_set, List.length_append, List.length_singleton]
          omega
        · rw [List.length_set, List.length_append, List.length_singleton]
          omega
        · rw [List.length_set, List.length_append, List.length_append, List.length_singleton, List.length_singleton]
          omega
        · rw [List.length_set, List.length_append, List.length_singleton]
          omega
        · by_cases z : p = (N : Int)
          · rw [if_pos z]
            omega
          · rw [if_neg z]
            exact hfl p (by omega)
      | true =>
        refine ite2 (fun _ => ?_) fun e => absurd rfl e
        have hmx1 := hg1 rfl
        have h2f := hf2 rfl
        have lf2 : (fr2.map V.int).length = fr2.length := List.length_map ..
        refine ⟨_, rfl, .inl ⟨rfl, _, .of eF13⟩, _, rfl, _, rfl, FR, _, rfl, .inl (.of eF13), S, s, _, rfl, so13, by rw [lf2]; omega, fun H14 r k14 so14 r0 r1 => ?_⟩
        rw [lf2] at r1
        obtain ⟨j2, rfl⟩ : ∃ j : Nat, r = (j : Int) := ⟨r.toNat, by omega⟩
        have hj2 : j2 < fr2.length := by omega
        have ej2 : fr2[j2]? = some fr2[j2] := List.getElem?_eq_getElem hj2
        refine ⟨FR, _, _, j2, .int fr2[j2], rfl, rfl, k14 _ _ nFs eF13, by omega, by omega, ix_some (by rw [lf2]; exact hj2), by rw [List.getElem?_map, ej2]; rfl, ?_⟩
        obtain ⟨hne2, hin2⟩ := hoth fr2[j2] (List.getElem_mem hj2)
        obtain ⟨jo, hjo, hjol, w, ew, hfw⟩ := hfr1 fr2[j2] hin2
        rw [map_eraseIdx', hjo]
        rw [hjo] at hne2
        have hne3 : jo ≠ ja := fun z => hne2 (by rw [z])
        generalize fr2.eraseIdx j2 = fr3
        have k15 : Keep s H (upd H14 FR (.lst (fr3.map V.int))) := (k13.trans k14).new nF0
        have so15 : SO S s (upd H14 FR (.lst (fr3.map V.int))) := so14.put fF
        have eL15 : upd H14 FR (.lst (fr3.map V.int)) LN = some (.lst (lines.map V.int)) := by rw [upd_ne nFL.symm]; exact k14 _ _ nLs eL13
        have eA15 : upd H14 FR (.lst (fr3.map V.int)) AR = some (.lst (ys ++ [.ref T])) := by rw [upd_ne nFA.symm]; exact k14 _ _ nAs eA13
        have eD15 : upd H14 FR (.lst (fr3.map V.int)) D = some (dIs (rgI (N + 1)) fun q => if q = (N : Int) then mom' else f q) := by rw [upd_ne nFD.symm]; exact k14 _ _ nDs eD13
        have hys15 : DaAll S (upd H14 FR (.lst (fr3.map V.int))) (ys ++ [.ref T]) ((As ++ [(u, (N : Int))]).map pd) := daAll_pd_put (k14 _ _ nFs eF13) (hys13.keep k14 hS.at_)
        generalize upd H14 FR (.lst (fr3.map V.int)) = H15 at k15 so15 eL15 eA15 eD15 hys15
        clear eL13 eA13 eD13 eF13 hys13 k14 so14 k13 so13
        have S15 := hS.keep k15 so15
        refine ⟨_, rfl, _, rfl, _, rfl, LN, _, _, _, rfl, rfl, .of eL15, atI_nat (j := jo) (by rw [List.getElem?_map, ew]; rfl), _, rfl, _, _, rfl, rfl, (by show 2 ≤ sizeLine; decide), fun T1 n1 => ?_⟩
        have d1 := (da_pd2 (S := S) (p := (w, (N : Int) + 1)) S15.al (Same.refl _) n1).1
        obtain ⟨H16, e16, S16, k16, s16, _, _, _⟩ := fresh (.tup [.int w, .int ((N : Int) + 1)]) S15 k15 n1
        rw [show upd H15 T1 (.tup [.int w, .int ((N : Int) + 1)]) = H16 from e16] at d1 ⊢
        refine ⟨_, rfl, _, rfl, _, _, rfl, rfl, (by show 2 ≤ sizeLine; decide), fun T2 n2 => ?_⟩
        have d2 := (da_pd2 (S := S) (p := ((N : Int), (N : Int) + 1)) S16.al (Same.refl _) n2).1
        obtain ⟨H17, e17, S17, k17, s17, _, _, _⟩ := fresh (.tup [.int (N : Int), .int ((N : Int) + 1)]) S16 k16 n2
        rw [show upd H16 T2 (.tup [.int (N : Int), .int ((N : Int) + 1)]) = H17 from e17] at d2 ⊢
        refine ⟨(by show 2 ≤ sizeLine; decide), fun NL nNL => ?_⟩
        obtain ⟨H18, e18, S18, k18, s18, eNL, _, _⟩ := fresh (.lst [.ref T1, .ref T2]) S17 k17 nNL
        rw [e18]
        have t58 := (s16.trans s17).trans s18
        refine ⟨AR, NL, _, _, rfl, rfl, t58 _ _ eA15, eNL, by simp only [List.length_append, List.length_cons, List.length_nil]; omega, fun ML nML => ?_⟩
        obtain ⟨H19, e19, S19, k19, s19, eM19, _, nMs⟩ := fresh (.lst ((ys ++ [.ref T]) ++ [.ref T1, .ref T2])) S18 k18 nML
        rw [e19]
        have nM0 : H ML = none := k18.free nMs nML
        have t59 := t58.trans s19
        have eL19 := t59 _ _ eL15
        have eD19 := t59 _ _ eD15
        have nML2 : ML ≠ LN := fun z => by rw [z, t58 _ _ eL15] at nML; cases nML
        have nMD : ML ≠ D := fun z => by rw [z, t58 _ _ eD15] at nML; cases nML
        have hys19 : DaAll S H19 ((ys ++ [.ref T]) ++ [.ref T1, .ref T2]) ((As ++ [(u, (N : Int))] ++ [(w, (N : Int) + 1)] ++ [((N : Int), (N : Int) + 1)]).map pd) := by
          have := (hys15.same t59).app (.cons ((d1.same s17).same (s18.trans s19)) (.one (d2.same (s18.trans s19))))
          have e : (As ++ [(u, (N : Int))] ++ [(w, (N : Int) + 1)] ++ [((N : Int), (N : Int) + 1)]).map pd = (As ++ [(u, (N : Int))]).map pd ++ [pd (w, (N : Int) + 1), pd ((N : Int), (N : Int) + 1)] := by
            simp only [List.map_append, List.map_cons, List.map_nil, List.append_assoc, List.cons_append, List.nil_append]
          rw [e]
          exact this
        clear hys15 d1 d2 e16 e17 e18 e19 t58 t59 s16 s17 s18 s19 k16 k17 k18 S16 S17 S18 eL15 eA15 eD15 eNL S15 k15 so15
        refine ⟨_, rfl, _, rfl, _, rfl, _, _, rfl, rfl, D, _, rfl, .inl ⟨_, .inl ((N : Int) + 1), eD19, rfl, by rw [List.length_map, rgI_len]; omega, rfl⟩, ?_⟩
        have eD20 : upd H19 D (.dK (putK ((rgI (N + 1)).map fun q => ((.inl q : Key), V.int (if q = (N : Int) then mom' else f q))) (.inl ((N : Int) + 1)) (.int mom'))) D = some (dIs (rgI (N + 2)) fun q => if q = (N : Int) + 1 then mom' else if q = (N : Int) then mom' else f q) := put_end (N := N + 1)
        have k20 := k19.new (o := .dK (putK ((rgI (N + 1)).map fun q => ((.inl q : Key), V.int (if q = (N : Int) then mom' else f q))) (.inl ((N : Int) + 1)) (.int mom'))) nD0
        have so20 := S19.so.put (o := .dK (putK ((rgI (N + 1)).map fun q => ((.inl q : Key), V.int (if q = (N : Int) then mom' else f q))) (.inl ((N : Int) + 1)) (.int mom'))) fD
        have eL20 : upd H19 D (.dK (putK ((rgI (N + 1)).map fun q => ((.inl q : Key), V.int (if q = (N : Int) then mom' else f q))) (.inl ((N : Int) + 1)) (.int mom'))) LN = some (.lst (lines.map V.int)) := by rw [upd_ne nLD]; exact eL19
        have eM20 : upd H19 D (.dK (putK ((rgI (N + 1)).map fun q => ((.inl q : Key), V.int (if q = (N : Int) then mom' else f q))) (.inl ((N : Int) + 1)) (.int mom'))) ML = some (.lst ((ys ++ [.ref T]) ++ [.ref T1, .ref T2])) := by rw [upd_ne nMD]; exact eM19
        have hys20 := pd_ne (o := .dK (putK ((rgI (N + 1)).map fun q => ((.inl q : Key), V.int (if q = (N : Int) then mom' else f q))) (.inl ((N : Int) + 1)) (.int mom'))) (fun xs z => by rw [eD19] at z; cases z) hys19
        generalize upd H19 D (.dK (putK ((rgI (N + 1)).map fun q => ((.inl q : Key), V.int (if q = (N : Int) then mom' else f q))) (.inl ((N : Int) + 1)) (.int mom'))) = H20 at eD20 k20 so20 eL20 eM20 hys20
        refine ⟨_, rfl, _, _, rfl, rfl, _, rfl, _, rfl, LN, _, _, jo, rfl, rfl, eL20, ixN_some (by rw [ll]; exact hjol), ?_⟩
        refine ⟨_, rfl, _, _, rfl, rfl, ?_⟩
        refine ⟨_, rfl, _, rfl, _, rfl, LN, _, _, ja, rfl, rfl, upd_same, ixN_some (by rw [List.length_set, ll]; exact hjl), ?_⟩
        refine ⟨(k20.new nL0).new nL0, (so20.put fL).put fL, (lines.set jo ((N : Int) + 1)).set ja N, As ++ [(u, (N : Int))] ++ [(w, (N : Int) + 1)] ++ [((N : Int), (N : Int) + 1)], mx - 1, mom', N + 2, _, kk + 1, ML, _, _, _, _, _, _, _, _, rfl, nM0, nML2, nMD, ?_, by rw [upd_ne nML2, upd_ne nML2]; exact eM20, ?_, by rw [upd_ne nLD.symm, upd_ne nLD.symm]; exact eD20, ?_, fun p hp => ?_, by omega, by omega, ?_, ?_, ?_, ?_, ?_, by omega, by omega, fun p hp => ?_⟩
        · rw [upd_same, List.map_set, List.map_set]
        · exact daAll_pd_put upd_same (daAll_pd_put eL20 hys20)
        · refine g.gif (u := u) (w := w) (mom := mom') hu (List.count_pos_iff.mpr (List.mem_of_getElem? ew)) (fun p => ?_) (fun p hp => ?_) ?_ (if_pos rfl) hfu hfw
          · have h1 := cnt_set (l := lines) (i := jo) (x := w) (v := (N : Int) + 1) ew p
            have h2 := cnt_set (l := lines.set jo ((N : Int) + 1)) (i := ja) (x := u) (v := (N : Int)) (by rw [List.getElem?_set_ne hne3]; exact eu) p
            show ((lines.set jo ((N : Int) + 1)).set ja (N : Int)).count p + ind u p + ind w p = lines.count p + ind N p + ind ((N : Int) + 1) p
            omega
          · rw [if_neg (by omega), if_neg (by omega)]
          · rw [if_neg (by omega), if_pos rfl]
        · by_cases z : p = (N : Int) + 1
          · rw [if_pos z]
            exact Int.le_refl _
          · rw [if_neg z]
            by_cases z2 : p = (N : Int)
            · rw [if_pos z2]
              exact Int.le_refl _
            · have := htm p (by omega)
              rw [if_neg z2]
              omega
        · rw [List.length_set, List.length_set]
          omega
        · rw [List.length_set, List.length_set]
          omega
        · rw [List.length_set, List.length_set]
          omega
        · rw [List.length_set, List.length_set, List.length_append, List.length_append, List.length_append, List.length_singleton, List.length_singleton, List.length_singleton]
          omega
        · rw [List.length_set, List.length_set]
          omega
        · by_cases z : p = (N : Int) + 1
          · rw [if_pos z]
            omega
          · rw [if_neg z]
            by_cases z2 : p = (N : Int)
            · rw [if_pos z2]
              omega
            · rw [if_neg z2]
              exact hfl p (by omega)
    rintro σ H6 ⟨k6, so6, lines, As, mx, mom, N, f, kk, AR, ys, v8, v9, v10, v11, v12, v13, v14, rfl, nA0, nAL, nAD, eL, eA, hys, eD, g, htm, hmx, hmk, hlk, hln, hl2, hAs, hN, hml1, hml2, hfl⟩
    have ll : (lines.map V.int).length = lines.length := List.length_map ..
    have hlen : lines.length = n := by omega
    have nAs : AR ≠ s := hS.ne nA0
    refine ⟨_, rfl, S, s, 3, rfl, so6, by decide, fun H7 r k7 so7 _ _ => ⟨rfl, ?_⟩⟩
    generalize decide (V.int r = V.int 0) = ev
    refine ⟨(by show 0 ≤ sizeLine; decide), fun LV nLV => ?_⟩
    have k67 := k6.trans k7
    obtain ⟨H8, e8, S8, k8, s8, eV8, fV, nVs⟩ := fresh (.lst []) (hS.keep k67 so7) k67 nLV
    rw [e8]
    clear e8
    have eL7 := k7 _ _ nLs eL
    have eA7 := k7 _ _ nAs eA
    have eD7 := k7 _ _ nDs eD
    have nV0 : H LV = none := k67.free nVs nLV
    have nVL : LV ≠ LN := fun z => by rw [z, eL7] at nLV; cases nLV
    have nVA : LV ≠ AR := fun z => by rw [z, eA7] at nLV; cases nLV
    have nVD : LV ≠ D := fun z => by rw [z, eD7] at nLV; cases nLV
    have eL8 := s8 _ _ eL7
    have eA8 := s8 _ _ eA7
    have eD8 := s8 _ _ eD7
    have hys8 := (hys.keep k7 hS.at_).same s8
    clear eL7 eA7 eD7 eL eA eD hys nLV s8 k7 so7 so6 k6
    obtain ⟨A0, hA0⟩ : ∃ A0, As.length = A0 := ⟨_, rfl⟩
    refine ⟨_, rfl, LN, _, rfl, .inl (.of eL8), _, rfl, by omega, by omega, ?_⟩
    rw [ll, hlen]
    refine for_range (n := n) (fun i σ H' => Keep s H H' ∧ SO S s H' ∧ ∃ (As : List (Int × Int)) (Ls : List (Int × Str)) (f : Int → Int) (ys zs : List V) (v10 v13 : Option V), σ = [some (.ref s), some (.ref a), some (.int mx), some (.int kind), some (.int mom), some (.ref D), some (.ref AR), some (.ref LN), v8, v9, v10, v11, v12, v13, v14, some (.bl ev), some (.ref LV)] ∧ H' LN = some (.lst (lines.map V.int)) ∧ H' AR = some (.lst ys) ∧ DaAll S H' ys (As.map pd) ∧ H' LV = some (.lst zs) ∧ DaAll S H' zs (Ls.map ld) ∧ H' D = some (dIs (rgI (N + i)) f) ∧ Grow (fun p => (lines.drop i).count p) As Ls (N + i) f kk ∧ (∀ p : Int, p < (N : Int) → f p ≤ mom) ∧ As.length = A0 + i ∧ Ls.map (·.2) = ns.take i ∧ (∀ p : Int, p < ((N + i : Nat) : Int) → -100000000000000000000000000000000000000000000000000 ≤ f p ∧ f p ≤ 5000000000000000000000000000000000000000000000000000))
      ⟨k8, S8.so, As, [], f, ys, [], _, _, rfl, eL8, eA8, hys8, eV8, .nil, eD8, g, htm, hA0, rfl, fun p hp => ⟨hfl p hp, by have := htm p hp; omega⟩⟩ ?_ ?_
    · rintro i σ H9 hi ⟨k9, so9, As, Ls, f, ys, zs, v10, v13, rfl, eL9, eA9, hys9, eV9, hzs9, eD9, g9, htm9, hA9, hLs9, hb9⟩
      have ei : lines[i]? = some (lines[i]'(by omega)) := List.getElem?_eq_getElem (by omega)
      have en : ns[i]? = some (ns[i]'(by omega)) := List.getElem?_eq_getElem (by omega)
      have hur := g.rng (lines[i]'(by omega)) (List.count_pos_iff.mpr (List.getElem_mem _))
      generalize lines[i]'(by omega) = u at ei hur
      generalize ns[i]'(by omega) = z at en
      have lys : ys.length = As.length := by rw [hys9.length, List.length_map]
      have lzs : zs.length = Ls.length := by rw [hzs9.length, List.length_map]
      have lLs : Ls.length = i := by
        have := congrArg List.length hLs9
        rw [List.length_map, List.length_take] at this
        omega
      refine ⟨_, rfl, D, _, rfl, eD9, ?_⟩
      rw [List.length_map, rgI_len]
      refine ⟨_, rfl, .inl ⟨rfl, _, .of eA9⟩, _, rfl, _, rfl, LN, _, _, _, rfl, rfl, .of eL9, (by rw [Int.zero_add]; exact atI_nat (j := i) (by rw [List.getElem?_map, ei]; rfl)), _, rfl, (by show 2 ≤ sizeLine; decide), fun T nT => ⟨AR, ys, .ref T, rfl, rfl, (by rw [upd_ne (fun z => by rw [← z, eA9] at nT; cases nT)]; exact eA9), by omega, ?_⟩⟩
      obtain ⟨H10, e10, k10, so10, eA10, hys10, kp10⟩ := app_pd (u, ((N + i : Nat) : Int)) hS k9 so9 nA0 eA9 hys9 nT
      rw [show upd (upd H9 T (.tup [.int u, .int ((N + i : Nat) : Int)])) AR (.lst (ys ++ [.ref T])) = H10 from e10]
      have eL10 := kp10 _ _ nAL.symm eL9
      have eD10 := kp10 _ _ nAD.symm eD9
      have eV10 := kp10 _ _ nVA eV9
      have hzs10 : DaAll S H10 zs (Ls.map ld) := by
        rw [← e10]
        exact ld_ne (fun xs z => by rw [upd_ne (fun z2 => by rw [z2, nT] at eA9; cases eA9), eA9] at z; cases z) (hzs9.new nT)
      have ea10 := k10 _ _ nas ea
      clear e10 kp10 eA9 eL9 eD9 eV9 hys9 hzs9
      refine ⟨_, rfl, .inl ⟨rfl, _, .of eV10⟩, _, rfl, _, rfl, _, rfl, a, _, _, _, rfl, rfl, .of ea10, (by rw [Int.zero_add]; exact atI_nat (j := i) (by rw [List.getElem?_map, en]; rfl)), (by show 2 ≤ sizeLine; decide), fun T2 nT2 => ⟨LV, zs, .ref T2, rfl, rfl, (by rw [upd_ne (fun z => by rw [← z, eV10] at nT2; cases nT2)]; exact eV10), by omega, ?_⟩⟩
      obtain ⟨H11, e11, k11, so11, eV11, hzs11, kp11⟩ := app_ld (((N + i : Nat) : Int), z) hS k10 so10 nV0 eV10 hzs10 nT2
      rw [show upd (upd H10 T2 (.tup [.int ((N + i : Nat) : Int), .str z])) LV (.lst (zs ++ [.ref T2])) = H11 from e11]
      have eL11 := kp11 _ _ nVL.symm eL10
      have eD11 := kp11 _ _ nVD.symm eD10
      have eA11 := kp11 _ _ nVA.symm eA10
      have hys11 : DaAll S H11 (ys ++ [.ref T]) ((As ++ [(u, ((N + i : Nat) : Int))]).map pd) := by
        rw [← e11]
        exact pd_ne (fun xs z => by rw [upd_ne (fun z2 => by rw [z2, nT2] at eV10; cases eV10), eV10] at z; cases z) (hys10.new nT2)
      clear e11 kp11 eA10 eL10 eD10 eV10 hys10 hzs10
      refine ⟨_, rfl, _, _, rfl, rfl, _, rfl, _, rfl, D, _, rfl, .inl ⟨_, .inl ((N + i : Nat) : Int), eD11, rfl, by rw [List.length_map, rgI_len]; omega, rfl⟩, ?_⟩
      have eD12 := put_end (H := H11) (D := D) (N := N + i) (f := f) (v := mom + 1)
      have k12' := k11.new (o := .dK (putK ((rgI (N + i)).map fun q => ((.inl q : Key), V.int (f q))) (.inl ((N + i : Nat) : Int)) (.int (mom + 1)))) nD0
      have so12 := so11.put (o := .dK (putK ((rgI (N + i)).map fun q => ((.inl q : Key), V.int (f q))) (.inl ((N + i : Nat) : Int)) (.int (mom + 1)))) fD
      have eL12 : upd H11 D (.dK (putK ((rgI (N + i)).map fun q => ((.inl q : Key), V.int (f q))) (.inl ((N + i : Nat) : Int)) (.int (mom + 1)))) LN = some (.lst (lines.map V.int)) := by rw [upd_ne nLD]; exact eL11
      have eA12 : upd H11 D (.dK (putK ((rgI (N + i)).map fun q => ((.inl q : Key), V.int (f q))) (.inl ((N + i : Nat) : Int)) (.int (mom + 1)))) AR = some (.lst (ys ++ [.ref T])) := by rw [upd_ne nAD]; exact eA11
      have eV12 : upd H11 D (.dK (putK ((rgI (N + i)).map fun q => ((.inl q : Key), V.int (f q))) (.inl ((N + i : Nat) : Int)) (.int (mom + 1)))) LV = some (.lst (zs ++ [.ref T2])) := by rw [upd_ne nVD]; exact eV11
      have hys12 := pd_ne (o := .dK (putK ((rgI (N + i)).map fun q => ((.inl q : Key), V.int (f q))) (.inl ((N + i : Nat) : Int)) (.int (mom + 1)))) (fun xs z => by rw [eD11] at z; cases z) hys11
      have hzs12 := ld_ne (o := .dK (putK ((rgI (N + i)).map fun q => ((.inl q : Key), V.int (f q))) (.inl ((N + i : Nat) : Int)) (.int (mom + 1)))) (fun xs z => by rw [eD11] at z; cases z) hzs11
      generalize upd H11 D (.dK (putK ((rgI (N + i)).map fun q => ((.inl q : Key), V.int (f q))) (.inl ((N + i : Nat) : Int)) (.int (mom + 1)))) = H12 at eD12 k12' so12 eL12 eA12 eV12 hys12 hzs12
      clear eL11 eA11 eD11 eV11 hys11 hzs11
      have hd : lines.drop i = u :: lines.drop (i + 1) := by
        rw [List.drop_eq_getElem_cons (by omega : i < lines.length)]
        congr 1
        exact Option.some.inj ((List.getElem?_eq_getElem (by omega)).symm.trans ei)
      have hgrow : ∀ f2 : Int → Int, (∀ p : Int, p < ((N + i : Nat) : Int) → f2 p = f p) → f u < f2 ((N + i : Nat) : Int) → Grow (fun p => (lines.drop (i + 1)).count p) (As ++ [(u, ((N + i : Nat) : Int))]) (Ls ++ [(((N + i : Nat) : Int), z)]) (N + (i + 1)) f2 kk := fun f2 h1 h2 => by
        refine g9.add (cc := 0) (u := u) ?_ (fun p => ?_) (.inr ⟨rfl, z, rfl⟩) h1 h2
        · show 0 < (lines.drop i).count u
          rw [hd, Lg.cnt_cons, ind_self]
          omega
        · show (lines.drop (i + 1)).count p + ind u p = (lines.drop i).count p + 0 * ind _ p
          rw [hd, Lg.cnt_cons]
          omega
      have hfuu : f u ≤ mom := htm9 u hur.2
      have hLs' : (Ls ++ [(((N + i : Nat) : Int), z)]).map (·.2) = ns.take (i + 1) := by
        rw [List.map_append, hLs9, ← take_snoc en]
        rfl
      refine ⟨_, rfl, ev, rfl, ?_⟩
      cases ev with
      | true =>
        refine ite2 (fun e => absurd e (by decide)) fun _ => ?_
        refine ⟨k12', so12, _, _, _, _, _, _, _, rfl, eL12, eA12, hys12, eV12, hzs12, eD12, hgrow _ (fun p hp => if_neg (by omega)) ?_, fun p hp => ?_, by rw [List.length_append, hA9]; rfl, hLs', fun p hp => ?_⟩
        · rw [if_pos rfl]
          omega
        · rw [if_neg (by omega)]
          exact htm9 p hp
        · by_cases z : p = ((N + i : Nat) : Int)
          · rw [if_pos z]
            omega
          · rw [if_neg z]
            exact hb9 p (by omega)
      | false =>
        refine ite2 (fun _ => ?_) fun e => absurd rfl e
        refine ⟨_, rfl, _, rfl, _, rfl, LN, _, _, _, rfl, rfl, .of eL12, (by rw [Int.zero_add]; exact atI_nat (j := i) (by rw [List.getElem?_map, ei]; rfl)), D, _, rfl, DGet.of_dIs eD12 (mem_rgI.mpr (by omega)), _, rfl, _, rfl, S, s, kind, rfl, hS.keep k12' so12, fun H13 gp k13 so13 hgp hgb => ⟨_, _, rfl, rfl, _, rfl, _, rfl, D, _, rfl, .inl ⟨_, .inl ((N + i : Nat) : Int), k13 _ _ nDs eD12, rfl, by rw [List.length_map, rgI_len]; omega, rfl⟩, ?_⟩⟩
        rw [if_neg (show u ≠ ((N + i : Nat) : Int) by omega)]
        have hin : ((N + i : Nat) : Int) ∈ rgI (N + i + 1) := mem_rgI.mpr (by omega)
        have eD13 := k13 _ _ nDs eD12
        refine ⟨(k12'.trans k13).new nD0, so13.put fD, _, _, fun q => if q = ((N + i : Nat) : Int) then f u + gp else if q = ((N + i : Nat) : Int) then mom + 1 else f q, _, _, _, _, rfl, by rw [upd_ne nLD]; exact k13 _ _ nLs eL12, by rw [upd_ne nAD]; exact k13 _ _ nAs eA12, pd_ne (fun xs z => by rw [eD13] at z; cases z) (hys12.keep k13 hS.at_), by rw [upd_ne nVD]; exact k13 _ _ nVs eV12, ld_ne (fun xs z => by rw [eD13] at z; cases z) (hzs12.keep k13 hS.at_), by rw [upd_same, putK_dIs hin]; rfl, hgrow _ (fun p hp => ?_) ?_, fun p hp => ?_, by rw [List.length_append, hA9]; rfl, hLs', fun p hp => ?_⟩
        · rw [if_neg (by omega), if_neg (by omega)]
        · rw [if_pos rfl]
          omega
        · dsimp only
          rw [if_neg (by omega), if_neg (by omega)]
          exact htm9 p hp
        · dsimp only
          by_cases z : p = ((N + i : Nat) : Int)
          · have := hb9 u (by omega)
            rw [if_pos z]
            omega
          · rw [if_neg z, if_neg z]
            exact hb9 p (by omega)
    rintro σ H9 ⟨k9, so9, As9, Ls, f9, ys, zs, v10, v13, rfl, eL9, eA9, hys9, eV9, hzs9, eD9, g9, htm9, hA9, hLs9, hb9⟩
    obtain ⟨Bs, hB⟩ := srtA_exists As9
    refine ⟨_, rfl, AR, ys, pairAt H9, rfl, .of eA9, fun x hx => ?_, fun zs2 Y hs1 hs2 nY => ?_⟩
    · obtain ⟨i, hi⟩ := List.mem_iff_getElem?.mp hx
      obtain ⟨p, t, _, rfl, _, et⟩ := hys9.pd hi
      rw [pairAt_eq et]
      exact ⟨t, rfl, et⟩
    have ha := sorted_pdA hys9 hB hs1 hs2
    obtain ⟨H10, e10, S10, k10, s10, eY10, fY, _⟩ := fresh (.lst zs2) (hS.keep k9 so9) k9 nY
    rw [e10]
    refine ⟨_, rfl, (by show 2 ≤ sizeLine; decide), fun W nW => ?_⟩
    obtain ⟨H11, e11, S11, k11, s11, eW11, fW, _⟩ := fresh (.lst [.ref Y, .ref LV]) S10 k10 nW
    rw [e11]
    refine ⟨_, rfl, (by show 2 ≤ sizeLine; decide), fun R nR => ?_⟩
    obtain ⟨H12, e12, S12, k12', s12, eR12, fR, nRs⟩ := fresh (.lst [.ref W, .ref D]) S11 k11 nR
    rw [e12]
    have t := (s10.trans s11).trans s12
    have c0 : ∀ p : Int, (lines.drop n).count p = 0 := fun p => by
      rw [List.drop_of_length_le (by omega)]
      rfl
    have hln2 : Ls.map (·.2) = ns := by rw [hLs9, ← hn, List.take_length]
    have lLs : Ls.length = n := by
      have := congrArg List.length hln2
      rw [List.length_map] at this
      omega
    refine q H12 R D (.ref W) Bs Ls (rgI (N + n)) f9 k12' S12.so nRs nDs eR12 (.lst fW (s12 _ _ eW11) (.cons (.lst fY (s12 _ _ (s11 _ _ eY10)) (ha.same t)) (.one (.lst (hS.free nV0) (t _ _ eV9) (hzs9.same t))))) (t _ _ eD9) ((g9.good c0 (by omega) (by omega) (by omega) (by omega) (by rw [hln2]; exact hnd) fun l hl => hw l.2 ?_).perm hB.1 (.refl _)) ((g9.fitsC c0).perm hB.1) fun p hp => by have h1 := mem_rgI.mp hp; have h2 := hb9 p h1.2; omega
    rw [← hln2]
    exact List.mem_map_of_mem hl


set_option maxHeartbeats 4000000 in
theorem ok_law_case  (F : Fun K "_law_case" "_law_case" s_law_case f fd) (T : Txt w K mg)
    (O_law_measures : Own P w K mg base k "_law_measures" ["store"] (sp_law_measures))
    (O_law_timed : Own P w K mg base k "_law_timed" ["store", "names", "mixings"] (sp_law_timed K))
    (O_law_called : Own P w K mg base k "_law_called" ["store", "many"] (sp_law_called))
    (O_law_counted : Own P w K mg base k "_law_counted" ["store", "places"] (sp_law_counted K))
    (O_law_all : Own P w K mg base k "_law_all" ["net"] (sp_law_all))
    (O_law_renamed : Own P w K mg base k "_law_renamed" ["net", "number"] (sp_law_renamed)) : FnOk P w K mg base CX0 (k + 1) f fd ["store"] (sp_law_case) := by
  refine F.ok sc_law_case (fun vs H Q E h => ?_) (fun cdv A outer s0 H vs Q E hr h => ?_)
  · obtain ⟨S, s, rfl, hS, q⟩ := h
    rfl
  · obtain ⟨S, s, rfl, hS, q⟩ := h
    refine ⟨_, (pss_cons (ps_set (i := 1) sc_law_case.nd rfl (Or.inl rfl) (pe_own O_law_measures hr (by rfl) (pa_cons (pv 0) pa_nil)))
      (pss_cons (ps_set (i := 2) sc_law_case.nd rfl (Or.inl rfl) (pe_own O_law_timed hr (by rfl) (pa_cons (pv 0) (pa_cons (pe_own O_law_called hr (by rfl) (pa_cons (pv 0) (pa_cons (pe_ix ix_list (pv 1) pe_int (fun _ _ => rfl)) pa_nil))) (pa_cons (pe_ix ix_list (pv 1) pe_int (fun _ _ => rfl)) pa_nil)))))
      (pss_cons (ps_set (i := 3) sc_law_case.nd rfl (Or.inl rfl) (pe_own O_law_counted hr (by rfl) (pa_cons (pv 0) (pa_cons (pe_own O_law_all hr (by rfl) (pa_cons (pe_ix ix_list (pv 2) pe_int (fun _ _ => rfl)) pa_nil)) pa_nil))))
      (pss_cons (ps_set (i := 4) sc_law_case.nd rfl (Or.inl rfl) pe_dnewK)
      (pss_cons (ps_lock (ps_for PassesOwn.never rfl (pi_keys (pe_ix ix_list (pv 2) pe_int (fun _ _ => rfl))) (pg_name (i := 5) sc_law_case.nd rfl (Or.inl rfl))
        (pss_one (ps_dput (u1 hr) (pv 4) (pe_dget (u1 hr) (pv 3) (pv 5) (fun _ _ => rfl)) (pe_dget (u1 hr) (pe_ix ix_list (pv 2) pe_int (fun _ _ => rfl)) (pv 5) (fun _ _ => rfl)) rfl))))
      (pss_one (ps_ret (pe_lst (pa_cons (pe_own O_law_renamed hr (by rfl) (pa_cons (pe_ix ix_list (pv 2) pe_int (fun _ _ => rfl)) (pa_cons (pv 3) pa_nil))) (pa_cons (pv 4) pa_nil)))))))))), ?_⟩
    refine ⟨_, rfl, S, s, rfl, hS, fun H1 Z n m k1 so1 nZs eZ hn1 hn2 hm0 hm8 => ?_⟩
    have S1 := hS.keep k1 so1
    refine ⟨_, rfl, _, rfl, _, rfl, Z, _, ((0 : Nat) : Int), _, rfl, rfl, .of eZ, atI_nat (j := 0) rfl, S, s, n, rfl, S1, hn1, hn2, fun H2 C ns k2 so2 nC eC nd ln ok => ?_⟩
    have S2 := S1.keep k2 so2
    have fC : ¬ S C := S1.free nC
    obtain ⟨mm, rfl⟩ : ∃ mm : Nat, m = (mm : Int) := ⟨m.toNat, by omega⟩
    refine ⟨_, rfl, Z, _, ((1 : Nat) : Int), _, rfl, rfl, .of (k2 _ _ nZs eZ), atI_nat (j := 1) rfl, S, s, .ref C, ns, mm, rfl, S2, .lst fC eC strs_daAll, by omega, by omega, by omega, nd, ok, fun H3 R D v As Ls P f k3 so3 nRs nDs eR hv eD g hf hfb => ?_⟩
    have S3 := S2.keep k3 so3
    have k13 := (k1.trans k2).trans k3
    have a46 := g.a46
    have l12 := g.l12
    have p47 := g.p47
    refine ⟨_, rfl, _, rfl, R, _, ((0 : Nat) : Int), _, rfl, rfl, .of eR, atI_nat (j := 0) rfl, S, v, As, Ls, P, rfl, hv, by omega, g.asc, g.p64, fun H4 RA s4 nRA eRA => ?_⟩
    have S4 := S3.same s4
    refine ⟨S, s, RA, P, rfl, S4, S3.ne nRA, eRA, p47, g.asc.nodup, fun H5 NW nw k5 so5 nNW eNW inj rng => ?_⟩
    have S5 := S4.keep k5 so5
    have k15 := k13.trans ((Keep.of s4).trans k5)
    have eR5 := k5 _ _ nRs (s4 _ _ eR)
    have eD5 := k5 _ _ nDs (s4 _ _ eD)
    have hv5 := (hv.same s4).keep k5 hS.at_
    have nWD : NW ≠ D := fun z => by rw [z, s4 _ _ eD] at nNW; cases nNW
    have nRD : R ≠ D := fun z => by rw [z, eD5] at eR5; cases eR5
    refine fun E nE => ?_
    have nDE : D ≠ E := fun z => by rw [← z, eD5] at nE; cases nE
    have nRE : R ≠ E := fun z => by rw [← z, eR5] at nE; cases nE
    have nWE : NW ≠ E := fun z => by rw [← z, eNW] at nE; cases nE
    have nEs : E ≠ s := S5.ne nE
    refine for_fill (M := D) (D := E) (P := P) (kvs := P.map fun p => ((.inl p : Key), V.int (f p))) (w0 := none) nw f (by rw [upd_ne nDE]; exact eD5) (by rw [List.map_map]; rfl) upd_same nDE (by omega) rfl g.asc.nodup inj (fun od Rr h => ⟨_, rfl, R, _, ((1 : Nat) : Int), .ref D, rfl, rfl, .of (by rw [upd_ne nRD, upd_ne nRE]; exact eR5), atI_nat (j := 1) rfl, h⟩) ?_ ?_
    · intro p hp H6 od fr eM A hA
      have eR6 := fr R _ nRD nRE (by rw [upd_ne nRE]; exact eR5)
      have eW6 := fr NW _ nWD nWE (by rw [upd_ne nWE]; exact eNW)
      exact ⟨_, rfl, R, _, ((1 : Nat) : Int), .ref D, rfl, rfl, .of eR6, atI_nat (j := 1) rfl, _, rfl, D, _, rfl, .inl ⟨_, .inl p, .inr ⟨od, eM⟩, rfl, (valV_dIs hp).symm⟩, _, rfl, _, rfl, _, rfl, NW, _, rfl, DGet.of_dIs eW6 hp, hA⟩
    intro w H6 fr eE6
    have s6 : Same H5 H6 := fun b o e => fr b o (fun z => by rw [z, nE] at e; cases e) (by rw [upd_ne (fun z => by rw [z, nE] at e; cases e)]; exact e)
    have S6 := S5.same s6
    refine ⟨_, rfl, R, _, ((0 : Nat) : Int), v, rfl, rfl, .of (s6 _ _ eR5), atI_nat (j := 0) rfl, _, rfl, S, v, NW, As, Ls, P, nw, rfl, S6.al, hv5.same s6, s6 _ _ eNW, g.ends, g.lab, by omega, by omega, fun H7 w' As' Ls' s7 p1 p2 b1 b2 hw' => ?_⟩
    have k17 := k15.trans (Keep.of (s6.trans s7))
    refine ⟨_, rfl, (by show 2 ≤ sizeLine; decide), fun L nL => ?_⟩
    obtain ⟨H8, e8, S8, k8, s8, eL8, fL, nLs⟩ := fresh (.lst [w', .ref E]) (S6.same s7) k17 nL
    rw [e8]
    obtain ⟨P', g'⟩ := g.renamed inj rng p1 p2
    have hP' : ∀ k, k ∈ P' ↔ ∃ p ∈ P, nw p = k := g.img g' p1 p2
    have ndn : (P.map nw).Nodup := List.pairwise_map.mpr (g.asc.nodup.imp_of_mem fun ha hb h e => h (inj _ ha _ hb e))
    obtain ⟨f', hf'⟩ := fun_exists (P := P.map nw) (L := P.map f) ndn (by rw [List.length_map, List.length_map])
    have hff : ∀ p ∈ P, f' (nw p) = f p := fun p hp => by
      obtain ⟨i, hi⟩ := List.mem_iff_getElem?.mp hp
      exact hf' i _ _ (by rw [List.getElem?_map, hi]; rfl) (by rw [List.getElem?_map, hi]; rfl)
    have eE8 : H8 E = some (dIs (P.map nw) f') := by
      rw [s8 _ _ (s7 _ _ eE6)]
      show some (HO.dK _) = some (HO.dK _)
      rw [List.map_map]
      congr 2
      refine List.map_congr_left fun p hp => ?_
      show ((.inl (nw p) : Key), V.int (f p)) = (.inl (nw p), V.int (f' (nw p)))
      rw [hff p hp]
    have hperm : (P.map nw).Perm P' := (List.perm_ext_iff_of_nodup ndn g'.asc.nodup).mpr fun k => by
      rw [hP', List.mem_map]
    exact q H8 L w' E As' Ls' P' (P.map nw) f' k8 S8.so nLs nEs eL8 (hw'.same s8) eE8 hperm g' b1 b2 (hf.renamed g.ends inj hff p1 hP') fun k hk => by obtain ⟨p, hp, rfl⟩ := List.mem_map.mp hk; rw [hff p hp]; exact hfb p hp


set_option maxHeartbeats 4000000 in
theorem ok_law_odd_place  (F : Fun K "_law_odd_place" "_law_odd_place" s_law_odd_place f fd) (T : Txt w K mg)
    (O_law_take : Own P w K mg base k "_law_take" ["store", "many"] (sp_law_take))
    (O_law_pick : Own P w K mg base k "_law_pick" ["store", "things"] (sp_law_pick K))
    (O_law_odd_part : Own P w K mg base k "_law_odd_part" ["store", "paper", "side"] (sp_law_odd_part)) : FnOk P w K mg base CX0 (k + 1) f fd ["store", "paper"] (sp_law_odd_place) := by
  refine F.ok sc_law_odd_place (fun vs H Q E h => ?_) (fun cdv A outer s0 H vs Q E hr h => ?_)
  · obtain ⟨S, s, x, Pl, f, rfl, hS, hx, pos, h64, hP, hf, q⟩ := h
    rfl
  · obtain ⟨S, s, x, Pl, f, rfl, hS, hx, pos, h64, hP, hf, q⟩ := h
    refine ⟨_, (pss_cons (ps_set (i := 2) sc_law_odd_place.nd rfl (Or.inl rfl) (pe_own O_law_take hr (by rfl) (pa_cons (pv 0) (pa_cons (pe_callB call_len_seq (by rfl) T.len PySem.boot_len (pa_cons (pv 1) pa_nil)) pa_nil))))
      (pss_cons (ps_set (i := 3) sc_law_odd_place.nd rfl (Or.inl rfl) (pe_ix ix_tup (pe_ix ix_list (pv 1) (pv 2) (fun _ _ => rfl)) pe_int (fun _ _ => rfl)))
      (pss_cons (ps_set (i := 4) sc_law_odd_place.nd rfl (Or.inl rfl) (pe_own O_law_pick hr (by rfl) (pa_cons (pv 0) (pa_cons (pe_lst (pa_cons (pe_op op_add (pv 3) pe_int) (pa_cons (pe_op op_sub (pv 3) pe_int) (pa_cons (pe_op op_add (pe_ix ix_tup (pe_ix ix_list (pv 1) (pe_un un_neg pe_int) (fun _ _ => rfl)) pe_int (fun _ _ => rfl)) pe_int) (pa_cons (pe_un un_neg pe_int) (pa_cons pe_int (pa_cons (pe_op op_pow pe_int pe_int) (pa_cons (pe_op op_sub pe_int (pe_op op_pow pe_int pe_int)) pa_nil)))))))) pa_nil))))
      (pss_cons (ps_set (i := 5) sc_law_odd_place.nd rfl (Or.inl rfl) (pe_own O_law_take hr (by rfl) (pa_cons (pv 0) (pa_cons pe_int pa_nil))))
      (pss_cons (ps_if (pt_cmpR op_eq (pv 5) pe_int (nomark _))
        (pss_one (ps_ret (pe_callB cr_sortedPO (by rfl) T.sorted (by decide +kernel) (pa_cons (pe_op op_cat (pv 1) (pe_lst (pa_cons (pe_tup (pa_cons (pv 4) (pa_cons (pe_ix ix_tup (pe_ix ix_list (pv 1) (pv 2) (fun _ _ => rfl)) pe_int (fun _ _ => rfl)) pa_nil))) pa_nil))) pa_nil))))
        pss_nil)
      (pss_cons (ps_if (pt_cmpR op_eq (pv 5) pe_int (nomark _))
        (pss_one (ps_ret (pe_callB cr_sortedPO (by rfl) T.sorted (by decide +kernel) (pa_cons (pe_op op_cat (pe_op op_cat (pe_slice sl_list (pv 1) po_none (po_some (pv 2))) (pe_lst (pa_cons (pe_tup (pa_cons (pv 4) (pa_cons (pe_ix ix_tup (pe_ix ix_list (pv 1) (pv 2) (fun _ _ => rfl)) pe_int (fun _ _ => rfl)) pa_nil))) pa_nil))) (pe_slice sl_list (pv 1) (po_some (pe_op op_add (pv 2) pe_int)) po_none)) pa_nil))))
        pss_nil)
      (pss_one (ps_ret (pe_own O_law_odd_part hr (by rfl) (pa_cons (pv 0) (pa_cons (pv 1) (pa_cons pe_int pa_nil)))))))))))), ?_⟩
    have sz : 100000 < sizeLine := by decide
    have hx0 := hx
    obtain ⟨a, xs, rfl, nSa, ea, hA⟩ := hx.list
    have nas : a ≠ s := fun z => nSa (z ▸ hS.at_)
    have lx : xs.length = Pl.length := by rw [hA.length, List.length_map, List.length_map]
    have lds : ((papD Pl f).map pd).length ≤ 70 := by rw [List.length_map, List.length_map]; omega
    have itm : ∀ {H' : Hp} {j : Nat}, Keep s H H' → j < Pl.length → ∃ t : Addr, xs[j]? = some (.ref t) ∧ H' t = some (.tup [.int (Pl.getD j 0), .int (f (Pl.getD j 0))]) ∧ ¬ S t := fun {H'} {j} k hj => by
      have hx : xs[j]? = some (xs[j]'(by omega)) := List.getElem?_eq_getElem (by omega)
      obtain ⟨p, t, ed, e, nt, et⟩ := (hA.keep k hS.at_).pd hx
      rw [e] at hx
      have e1 : Pl[j]? = some (Pl[j]'hj) := List.getElem?_eq_getElem hj
      have e2 : Pl.getD j 0 = Pl[j]'hj := by rw [List.getD_eq_getElem?_getD, e1]; rfl
      rw [List.getElem?_map, e1] at ed
      cases ed
      exact ⟨t, hx, by rw [e2]; exact et, nt⟩
    refine ⟨_, rfl, _, rfl, a, _, rfl, .inl (.of ea), S, s, _, rfl, hS.so, by omega, fun H1 r k1 so1 r0 r1 => ?_⟩
    rw [lx] at r1
    obtain ⟨j, rfl⟩ : ∃ j : Nat, r = (j : Int) := ⟨r.toNat, by omega⟩
    have hj : j < Pl.length := by omega
    obtain ⟨t, hxj, et, _⟩ := itm k1 hj
    have ea1 := k1 _ _ nas ea
    obtain ⟨tl, hxl, etl, _⟩ := itm (j := Pl.length - 1) k1 (by omega)
    refine ⟨_, rfl, _, rfl, a, _, _, _, rfl, rfl, .of ea1, atI_nat (j := j) hxj, t, _, 0, _, rfl, rfl, .of et, rfl, ?_⟩
    refine ⟨_, rfl, _, rfl, _, _, rfl, rfl, _, rfl, _, _, rfl, rfl, _, rfl, _, rfl, a, _, _, _, rfl, rfl, .of ea1, atI_end (by rw [lx]; exact hxl), tl, _, 0, _, rfl, rfl, .of etl, rfl, _, _, rfl, rfl, _, rfl, _, _, rfl, rfl, ⟨by decide, by decide, by decide⟩, _, _, rfl, rfl, ⟨by decide, by decide, by decide⟩, _, _, rfl, rfl, (by show 7 ≤ sizeLine; decide), fun pp np => ?_⟩
    refine pick_list so1 np (by simp) (by simp) fun H2 v k2 _ so2 hv => ?_
    obtain ⟨st, rfl⟩ : ∃ st : Int, v = .int st := by
      simp only [List.mem_cons, List.not_mem_nil, or_false] at hv
      rcases hv with rfl | rfl | rfl | rfl | rfl | rfl | rfl <;> exact ⟨_, rfl⟩
    clear hv
    refine ⟨_, rfl, S, s, 3, rfl, so2, by decide, fun H3 how k3 so3 _ _ => ?_⟩
    have k03 := (k1.trans k2).trans k3
    have S3 := hS.keep k03 so3
    have ea3 := k03 _ _ nas ea
    obtain ⟨t, hxj, et, _⟩ := itm k03 hj
    have fin : ∀ {Hm : Hp} {M : Addr} {ys : List V} {As2 : List (Int × Int)}, Keep s H Hm → SS S s Hm → Hm M = some (.lst ys) → DaAll S Hm ys (As2.map pd) → As2.length ≤ 1000 → ∀ (zs : List V) (Y : Addr), SrtO.Srtd (ltP (pairAt Hm)) zs → SrtO.Stb (ltP (pairAt Hm)) zs ys → Hm Y = none → Q (.ref Y) (upd Hm Y (.lst zs)) := by
      intro Hm M ys As2 km Sm eM hys hl zs Y hs1 hs2 nY
      obtain ⟨Bs2, hB2⟩ := srtA_exists As2
      have ha := sorted_pdA hys hB2 hs1 hs2
      obtain ⟨H9, e9, S9, k9, s9, eY9, fY, _⟩ := fresh (.lst zs) Sm km nY
      rw [e9]
      exact q H9 _ (pdL Bs2) k9 S9.so (.lst fY eY9 (ha.same s9)) ((dd_pdL (by rw [hB2.1.length_eq]; exact hl)).mono (by decide) (by decide))
    have prs : ∀ {Hm : Hp} {ys : List V} {As2 : List (Int × Int)}, DaAll S Hm ys (As2.map pd) → ∀ x ∈ ys, ∃ t, x = .ref t ∧ Hm t = some (.tup [.int (pairAt Hm x).1, .int (pairAt Hm x).2]) := by
      intro Hm ys As2 hys x hx
      obtain ⟨i, hi⟩ := List.mem_iff_getElem?.mp hx
      obtain ⟨p, t, _, rfl, _, et⟩ := hys.pd hi
      rw [pairAt_eq et]
      exact ⟨t, rfl, et⟩
    refine ⟨_, rfl, rfl, _, rfl, ite2 (fun _ => ?_) fun _ => ?_⟩
    · refine ⟨_, rfl, _, rfl, _, rfl, _, rfl, a, _, _, _, rfl, rfl, .of ea3, atI_nat (j := j) hxj, t, _, 1, _, rfl, rfl, .of et, rfl, (by show 2 ≤ sizeLine; decide), fun T nT => ?_⟩
      have d1 := (da_pd2 (S := S) (p := (st, f (Pl.getD j 0))) S3.al (Same.refl _) nT).1
      obtain ⟨H4, e4, S4, k4, s4, _, _, _⟩ := fresh (.tup [.int st, .int (f (Pl.getD j 0))]) S3 k03 nT
      rw [show upd H3 T (.tup [.int st, .int (f (Pl.getD j 0))]) = H4 from e4] at d1 ⊢
      refine ⟨(by show 1 ≤ sizeLine; decide), fun L nL => ?_⟩
      obtain ⟨H5, e5, S5, k5, s5, eL5, _, _⟩ := fresh (.lst [.ref T]) S4 k4 nL
      rw [e5]
      refine ⟨a, L, _, _, rfl, rfl, k5 _ _ nas ea, eL5, by simp only [List.length_cons, List.length_nil]; omega, fun M nM => ?_⟩
      obtain ⟨H6, e6, S6, k6, s6, eM6, _, _⟩ := fresh (.lst (xs ++ [.ref T])) S5 k5 nM
      rw [e6]
      have hys : DaAll S H6 (xs ++ [.ref T]) ((papD Pl f ++ [(st, f (Pl.getD j 0))]).map pd) := by
        rw [List.map_append]
        exact (hA.keep k6 hS.at_).app (.one ((d1.same s5).same s6))
      exact ⟨M, _, pairAt H6, rfl, .of eM6, prs hys, fin k6 S6 eM6 hys (by rw [List.length_append, List.length_map]; show Pl.length + 1 ≤ _; omega)⟩
    refine ⟨_, rfl, rfl, _, rfl, ite2 (fun _ => ?_) fun _ => ?_⟩
    · refine ret_h (cb_h ?_)
      refine splice (S := S) (s := s) (a := a) (xs := xs) (ds := (papD Pl f).map pd) (i1 := (j : Int)) (i2 := (j : Int) + 1) (fun d => timedD d = true) rfl S3 nas ea3 (hA.keep k03 hS.at_) lds (fun _ _ h => ⟨_, rfl, _, rfl, h⟩) (fun _ _ h => ⟨_, rfl, _, _, rfl, rfl, _, rfl, h⟩) ?_ ?_
      · intro H1 R' kk so hh
        refine ⟨_, rfl, _, rfl, _, rfl, a, _, _, _, rfl, rfl, .of (kk _ _ nas ea3), atI_nat (j := j) hxj, t, _, 1, _, rfl, rfl, .of (kk _ _ (fun z => by obtain ⟨_, hq, _, hn⟩ := itm k03 hj; rw [hxj] at hq; cases hq; exact hn (by rw [z]; exact hS.at_)) et), rfl, (by show 2 ≤ sizeLine; decide), fun T nT => ?_⟩
        exact hh _ _ (pd (st, f (Pl.getD j 0))) ((Keep.refl s H1).new nT) (so.new nT) (da_pd2 (S := S) (p := (st, f (Pl.getD j 0))) (S3.keep kk so).al (Same.refl _) nT).1 rfl
      · intro H' p ys es kk Sx nps fp ep hes hin' hle
        obtain ⟨As2, rfl⟩ := all_pd_of (es := es) fun e he => by
          rcases hin' e he with h | h
          · obtain ⟨z, _, rfl⟩ := List.mem_map.mp h
            rfl
          · exact h
        rw [List.length_map] at hle
        exact ⟨p, _, pairAt H', rfl, .of ep, prs hes, fin (k03.trans kk) Sx ep hes (by omega)⟩
    exact ⟨_, rfl, _, rfl, S, s, .ref a, Pl, f, 0, rfl, S3, hx0.keep k03 hS.at_, pos, h64, hP, hf, .inl rfl, fun H' v d k so hd hD => q H' v d (k03.trans k) so hd hD⟩


set_option maxHeartbeats 4000000 in
theorem ok_law_odd_part  (F : Fun K "_law_odd_part" "_law_odd_part" s_law_odd_part f fd) (T : Txt w K mg)
    (O_law_take : Own P w K mg base k "_law_take" ["store", "many"] (sp_law_take))
    (O_law_pick : Own P w K mg base k "_law_pick" ["store", "things"] (sp_law_pick K)) : FnOk P w K mg base CX0 (k + 1) f fd ["store", "paper", "side"] (sp_law_odd_part) := by
  refine F.ok sc_law_odd_part (fun vs H Q E h => ?_) (fun cdv A outer s0 H vs Q E hr h => ?_)
  · obtain ⟨S, s, x, Pl, f, side, rfl, hS, hx, pos, h64, hP, hf, hside, q⟩ := h
    rfl
  · obtain ⟨S, s, x, Pl, f, side, rfl, hS, hx, pos, h64, hP, hf, hside, q⟩ := h
    refine ⟨_, (pss_cons (ps_set (i := 3) sc_law_odd_part.nd rfl (Or.inl rfl) (pe_own O_law_take hr (by rfl) (pa_cons (pv 0) (pa_cons (pe_callB call_len_seq (by rfl) T.len PySem.boot_len (pa_cons (pv 1) pa_nil)) pa_nil))))
      (pss_cons (ps_set (i := 4) sc_law_odd_part.nd rfl (Or.inl rfl) (pe_ix ix_tup (pe_ix ix_list (pv 1) (pv 3) (fun _ _ => rfl)) (pv 2) (fun _ _ => rfl)))
      (pss_cons (ps_set (i := 5) sc_law_odd_part.nd rfl (Or.inl rfl) (pe_own O_law_pick hr (by rfl) (pa_cons (pv 0) (pa_cons (pe_lst (pa_cons pe_non (pa_cons pe_bl (pa_cons pe_bl (pa_cons pe_str (pa_cons (pe_callTy call_str_int (by rfl) T.str (by decide +kernel) (pa_cons (pv 4) pa_nil)) (pa_cons (pe_tup (pa_cons (pv 4) pa_nil)) (pa_cons (pe_lst (pa_cons (pv 4) pa_nil)) pa_nil)))))))) pa_nil))))
      (pss_cons (ps_setLc (i := 6) (own := [("k", 8)]) (by rfl) sc_law_odd_part.nd rfl rfl (sw_true rfl rfl rfl (by decide +kernel)) (pi_range1 (by rfl) T.range (pa_cons (pe_callB call_len_seq (by rfl) T.len PySem.boot_len (pa_cons (pv 1) pa_nil)) pa_nil)) (blkOk_by (own := [("k", 8)]) (N := ["store", "paper", "side", "at", "old", "odd", "spots", "item", "k"]) (sc := defScope s_law_odd_part) (by decide +kernel)) (fun _ _ _ _ _ => pg_name (i := 8) sc_law_odd_part.nd rfl (Or.inl rfl)) (fun _ _ _ _ _ => (pts_one (PW.pt (pw_or (pt_cmpR op_eq (pe_ix (ix_tupK K rfl) (pe_ix (ix_listK K rfl) (pv 1) (pv 8) (fun _ _ => rfl)) (pv 2) (fun _ _ => rfl)) pe_int (nomark _)) (pw_or1 (pt_cmpR op_eq (pe_ix (ix_tupK K rfl) (pe_ix (ix_listK K rfl) (pv 1) (pv 8) (fun _ _ => rfl)) (pv 2) (fun _ _ => rfl)) pe_int (nomark _))))))) (fun _ _ _ _ _ => (pv 8)))
      (C8.pss_cut (ps_if (PW.pt (pw_and (pt_cmpR op_gt (pe_callB call_len_seq (by rfl) T.len PySem.boot_len (pa_cons (pv 6) pa_nil)) pe_int (nomark _)) (pw_and1 (pt_cmpR op_eq (pe_own O_law_take hr (by rfl) (pa_cons (pv 0) (pa_cons pe_int pa_nil))) pe_int (nomark _)))))
        (pss_cons (ps_set (i := 3) sc_law_odd_part.nd rfl (Or.inl rfl) (pe_own O_law_pick hr (by rfl) (pa_cons (pv 0) (pa_cons (pv 6) pa_nil))))
        (pss_one (ps_set (i := 5) sc_law_odd_part.nd rfl (Or.inl rfl) (pe_cmpR op_eq (pe_ix ix_tup (pe_ix ix_list (pv 1) (pv 3) (fun _ _ => rfl)) (pv 2) (fun _ _ => rfl)) pe_int (nomark _)))))
        pss_nil)
      (pss_cons (ps_set (i := 7) sc_law_odd_part.nd rfl (Or.inl rfl) (pe_lst (pa_cons (pe_ix ix_tup (pe_ix ix_list (pv 1) (pv 3) (fun _ _ => rfl)) pe_int (fun _ _ => rfl)) (pa_cons (pe_ix ix_tup (pe_ix ix_list (pv 1) (pv 3) (fun _ _ => rfl)) pe_int (fun _ _ => rfl)) pa_nil))))
      (pss_cons (ps_asg (pv 5) (pg_sub (pv 7) (pv 2) set_list))
      (pss_one (ps_ret (pe_op op_cat (pe_op op_cat (pe_slice sl_list (pv 1) po_none (po_some (pv 3))) (pe_lst (pa_cons (pe_tupleOf (by rfl) T.tuple (pv 7)) pa_nil))) (pe_slice sl_list (pv 1) (po_some (pe_op op_add (pv 3) pe_int)) po_none))))))))))), ?_⟩
    have sz : 100000 < sizeLine := by decide
    obtain ⟨a, xs, rfl, nSa, ea, hA⟩ := hx.list
    have nas : a ≠ s := fun z => nSa (z ▸ hS.at_)
    have lx : xs.length = Pl.length := by rw [hA.length, List.length_map, List.length_map]
    have lds : ((papD Pl f).map pd).length ≤ 70 := by rw [List.length_map, List.length_map]; omega
    have itm : ∀ {H' : Hp} {j : Nat}, Keep s H H' → j < Pl.length → ∃ t : Addr, xs[j]? = some (.ref t) ∧ H' t = some (.tup [.int (Pl.getD j 0), .int (f (Pl.getD j 0))]) ∧ Pl.getD j 0 ∈ Pl := fun {H'} {j} k hj => by
      have hx : xs[j]? = some (xs[j]'(by omega)) := List.getElem?_eq_getElem (by omega)
      obtain ⟨p, t, ed, e, nt, et⟩ := (hA.keep k hS.at_).pd hx
      rw [e] at hx
      have e1 : Pl[j]? = some (Pl[j]'hj) := List.getElem?_eq_getElem hj
      have e2 : Pl.getD j 0 = Pl[j]'hj := by rw [List.getD_eq_getElem?_getD, e1]; rfl
      rw [List.getElem?_map, e1] at ed
      cases ed
      exact ⟨t, hx, by rw [e2]; exact et, by rw [e2]; exact List.getElem_mem hj⟩
    obtain ⟨js, hjs, hjs2⟩ : ∃ js : Nat, side = (js : Int) ∧ js < 2 := by
      rcases hside with h | h
      · exact ⟨0, h, by omega⟩
      · exact ⟨1, h, by omega⟩
    obtain ⟨wv, hwv, hwb⟩ : ∃ wv : Nat → Int, (∀ j, atI [V.int (Pl.getD j 0), V.int (f (Pl.getD j 0))] side = some (.int (wv j))) ∧ ∀ j, Pl.getD j 0 ∈ Pl → -10000000000000000000000000000000000000000000000000000 ≤ wv j ∧ wv j ≤ 10000000000000000000000000000000000000000000000000000 := by
      rcases hside with rfl | rfl
      · exact ⟨fun j => Pl.getD j 0, fun _ => rfl, fun j h => by have := hP _ h; dsimp only; omega⟩
      · exact ⟨fun j => f (Pl.getD j 0), fun _ => rfl, fun j h => hf _ h⟩
    refine ⟨_, rfl, _, rfl, a, _, rfl, .inl (.of ea), S, s, _, rfl, hS.so, by omega, fun H1 r k1 so1 r0 r1 => ?_⟩
    rw [lx] at r1
    obtain ⟨j, rfl⟩ : ∃ j : Nat, r = (j : Int) := ⟨r.toNat, by omega⟩
    have hj : j < Pl.length := by omega
    obtain ⟨t, hxj, et, hin⟩ := itm k1 hj
    obtain ⟨w1, w2⟩ := hwb j hin
    have ea1 := k1 _ _ nas ea
    refine ⟨_, rfl, _, rfl, a, _, _, _, rfl, rfl, .of ea1, atI_nat (j := j) hxj, _, rfl, t, _, side, _, rfl, rfl, .of et, hwv j, ?_⟩
    have S1 := hS.keep k1 so1
    refine ⟨_, rfl, _, rfl, wv j, rfl, log_ok w1 w2, _, rfl, (by show 1 ≤ sizeLine; decide), fun T nT => ?_⟩
    obtain ⟨H2, e2, S2, k2, s2, eT2, fT, nTs⟩ := fresh (.tup [.int (wv j)]) S1 k1 nT
    rw [e2]
    refine ⟨_, rfl, (by show 1 ≤ sizeLine; decide), fun L nL => ?_⟩
    obtain ⟨H3, e3, S3, k3, s3, eL3, fL, nLs⟩ := fresh (.lst [.int (wv j)]) S2 k2 nL
    rw [e3]
    refine ⟨(by show 7 ≤ sizeLine; decide), fun pp np => ?_⟩
    refine pick_list S3.so np (by simp) (by simp) fun H4 ov k4 _ so4 hv => ?_
    obtain ⟨od, hod, hoD⟩ : ∃ od, Da S H4 ov od ∧ Dd 5000 10 od := by
      simp only [List.mem_cons, List.not_mem_nil, or_false] at hv
      rcases hv with rfl | rfl | rfl | rfl | rfl | rfl | rfl
      · exact ⟨_, .non, .non _⟩
      · exact ⟨_, .bl _, .bl _ _⟩
      · exact ⟨_, .bl _, .bl _ _⟩
      · exact ⟨_, .str _, .str _ (by decide +kernel)⟩
      · exact ⟨_, .str _, .str _ (str_small w1 w2)⟩
      · exact ⟨.tuple [.int (wv j)], (Da.tup fT (s3 _ _ eT2) (.one (.int _))).keep k4 hS.at_, .tup (by show 1 ≤ 5000; decide) fun d hd => by rw [List.mem_singleton.mp hd]; exact .int _ _⟩
      · exact ⟨.list [.int (wv j)], (Da.lst fL eL3 (.one (.int _))).keep k4 hS.at_, .lst (by show 1 ≤ 5000; decide) fun d hd => by rw [List.mem_singleton.mp hd]; exact .int _ _⟩
    have k04 := k3.trans k4
    have ea4 := k04 _ _ nas ea
    clear hv
    refine gn_h (σ' := [some (.ref s), some (.ref a), some (.int side), some (.int j), some (.int (wv j)), some ov, none, none, none]) rfl ?_
    dsimp only
    refine seq_asg ?_
    refine lc_rngF (n := Pl.length) (fun R h => ⟨_, rfl, a, _, rfl, .inl (.of ea4), by rw [lx]; exact h⟩) (fun i => decide (V.int (wv i.toNat) = V.int 0) || decide (V.int (wv i.toNat) = V.int 1)) (by omega) (fun _ => rfl) (fun _ => rfl) ?_ ?_
    · intro i hi H5 kq s5 hk
      obtain ⟨t, hxi, et, _⟩ := itm (k04.trans (Keep.of s5)) hi
      have hk : kq (decide (V.int (wv (i : Int).toNat) = V.int 0) || decide (V.int (wv (i : Int).toNat) = V.int 1)) H5 := hk H5 (Same.refl _)
      rw [Int.toNat_natCast] at hk
      refine ⟨_, rfl, _, rfl, a, _, _, _, rfl, rfl, .of (s5 _ _ ea4), atI_nat (j := i) hxi, _, rfl, t, _, side, _, rfl, rfl, .of et, hwv i, rfl, _, rfl, ?_⟩
      cases h0 : decide (V.int (wv i) = V.int 0) with
      | true =>
        rw [h0] at hk
        exact ite2 (fun _ => hk) fun e => absurd rfl e
      | false =>
        rw [h0] at hk
        exact ite2 (fun e => absurd e (by decide)) fun _ => ⟨_, rfl, _, rfl, a, _, _, _, rfl, rfl, .of (s5 _ _ ea4), atI_nat (j := i) hxi, _, rfl, t, _, side, _, rfl, rfl, .of et, hwv i, rfl, _, rfl, hk⟩
    intro R H6 nR s6 eR
    have hsp : ∀ i ∈ (rgI Pl.length).filter (fun i => decide (V.int (wv i.toNat) = V.int 0) || decide (V.int (wv i.toNat) = V.int 1)), ∃ j : Nat, i = (j : Int) ∧ j < Pl.length := fun i hi => by
      obtain ⟨h0, h1⟩ := mem_rgI.mp (List.mem_filter.mp hi).1
      exact ⟨i.toNat, by omega, by omega⟩
    have lsp := List.length_filter_le (fun i : Int => decide (V.int (wv i.toNat) = V.int 0) || decide (V.int (wv i.toNat) = V.int 1)) (rgI Pl.length)
    rw [rgI_len] at lsp
    generalize (rgI Pl.length).filter (fun i => decide (V.int (wv i.toNat) = V.int 0) || decide (V.int (wv i.toNat) = V.int 1)) = sp at eR hsp lsp
    have lsp2 : (sp.map V.int).length = sp.length := List.length_map ..
    have k06 := k04.trans (Keep.of s6)
    have so6 := so4.same s6
    have nRs : R ≠ s := so4.ne nR
    have hod6 := hod.same s6
    refine ⟨fun σ' H' => Keep s H6 H' ∧ SO S s H' ∧ ∃ (j : Nat) (ov : V) (od : PyData) (v4 v6 : Option V), j < Pl.length ∧ Da S H' ov od ∧ Dd 5000 10 od ∧ σ' = [some (.ref s), some (.ref a), some (.int side), some (.int j), v4, some ov, v6, none, none], ?_, ?_⟩
    · refine ⟨_, rfl, R, _, rfl, .inl (.of eR), _, _, rfl, rfl, _, rfl, ite2 (fun e => ?_) fun e => (ite2 (fun z => absurd z (by decide)) fun _ => ⟨Keep.refl _ _, so6, j, ov, od, _, _, hj, hod6, hoD, rfl⟩)⟩
      have hpos : 0 < sp.length := by
        have e : (0 : Int) < ((sp.map V.int).length : Int) := of_decide_eq_true e
        omega
      refine ⟨_, rfl, S, s, 2, rfl, so6, by decide, fun H7 r k7 so7 _ _ => ⟨rfl, _, rfl, ite2 (fun _ => ?_) fun _ => ⟨k7, so7, j, ov, od, _, _, hj, hod6.keep k7 hS.at_, hoD, rfl⟩⟩⟩
      refine ⟨_, rfl, _, rfl, S, s, .ref R, rfl, so7, .inl ⟨R, _, rfl, nRs, .of (k7 _ _ nRs eR), fun z => ?_, by omega, fun H8 v8 k8 so8 hv8 => ?_⟩⟩
      · rw [z] at lsp2
        have : (0 : Nat) = sp.length := lsp2
        omega
      obtain ⟨i8, hi8, rfl⟩ := List.mem_map.mp hv8
      obtain ⟨j8, rfl, hj8⟩ := hsp i8 hi8
      obtain ⟨t, hx8, et8, _⟩ := itm ((k06.trans k7).trans k8) hj8
      exact ⟨_, rfl, _, rfl, a, _, _, _, rfl, rfl, .of (((k06.trans k7).trans k8) _ _ nas ea), atI_nat (j := j8) hx8, _, rfl, t, _, side, _, rfl, rfl, .of et8, hwv j8, rfl, k7.trans k8, so8, j8, _, _, _, _, hj8, .bl _, .bl _ _, rfl⟩
    clear hsp hoD hod6 hod lsp lsp2 eR hxj et hin hj
    rintro σ' H7 ⟨k7, so7, j, ov, od, v4, v6, hj, hod, hoD, rfl⟩
    have k07 := k06.trans k7
    have S7 := hS.keep k07 so7
    obtain ⟨t, hxj, et, hin⟩ := itm k07 hj
    have ea7 := k07 _ _ nas ea
    refine ⟨_, rfl, _, rfl, a, _, _, _, rfl, rfl, .of ea7, atI_nat (j := j) hxj, t, _, 0, _, rfl, rfl, .of et, rfl, _, rfl, _, rfl, a, _, _, _, rfl, rfl, .of ea7, atI_nat (j := j) hxj, t, _, 1, _, rfl, rfl, .of et, rfl, (by show 2 ≤ sizeLine; decide), fun I nI => ?_⟩
    obtain ⟨H8, e8, S8, k8, s8, eI8, fI, nIs⟩ := fresh (.lst [.int (Pl.getD j 0), .int (f (Pl.getD j 0))]) S7 k07 nI
    rw [e8]
    have nI0 : H I = none := k07.free nIs nI
    have hodm : DaAll (addA S I) H8 [ov] [od] := (DaAll.one (hod.more nI)).same s8
    have aI : I ≠ a := fun z => by rw [z, ea7] at nI; cases nI
    refine ⟨_, rfl, _, rfl, _, rfl, I, _, _, js, rfl, by rw [hjs], eI8, ixN_some (by show js < 2; exact hjs2), ?_⟩
    have hset : DaAll S (upd H8 I (.lst ([V.int (Pl.getD j 0), V.int (f (Pl.getD j 0))].set js ov))) ([V.int (Pl.getD j 0), V.int (f (Pl.getD j 0))].set js ov) ([PyData.int (Pl.getD j 0), .int (f (Pl.getD j 0))].set js od) := by
      have h1 := hodm.at (o := .lst ([V.int (Pl.getD j 0), V.int (f (Pl.getD j 0))].set js ov))
      cases h1 with
      | cons h _ => exact DaAll.set h.less js (.cons (.int _) (.one (.int _)))
    have k9 : Keep s H (upd H8 I (.lst ([V.int (Pl.getD j 0), V.int (f (Pl.getD j 0))].set js ov))) := k8.new nI0
    have so9 : SO S s (upd H8 I (.lst ([V.int (Pl.getD j 0), V.int (f (Pl.getD j 0))].set js ov))) := S8.so.put fI
    have eI9 : upd H8 I (.lst ([V.int (Pl.getD j 0), V.int (f (Pl.getD j 0))].set js ov)) I = some (.lst ([V.int (Pl.getD j 0), V.int (f (Pl.getD j 0))].set js ov)) := upd_same
    generalize upd H8 I (.lst ([V.int (Pl.getD j 0), V.int (f (Pl.getD j 0))].set js ov)) = H9 at hset k9 so9 eI9
    have hDs : ∀ d ∈ [PyData.int (Pl.getD j 0), .int (f (Pl.getD j 0))].set js od, Dd 5000 10 d := fun d hd => by
      rcases List.mem_or_eq_of_mem_set hd with h | h
      · simp only [List.mem_cons, List.not_mem_nil, or_false] at h
        rcases h with rfl | rfl
        · exact .int _ _
        · exact .int _ _
      · rw [h]
        exact hoD
    refine splice (S := S) (s := s) (a := a) (xs := xs) (ds := (papD Pl f).map pd) (i1 := (j : Int)) (i2 := (j : Int) + 1) (fun d => Dd 5000 60 d) rfl (hS.keep k9 so9) nas (k9 _ _ nas ea) (hA.keep k9 hS.at_) lds (fun _ _ h => ⟨_, rfl, _, rfl, h⟩) (fun _ _ h => ⟨_, rfl, _, _, rfl, rfl, _, rfl, h⟩) ?_ ?_
    · intro H1 R' kk so hh
      refine ⟨_, rfl, .inl ⟨I, _, rfl, .of (kk _ _ nIs eI9), fun qa nq => ?_⟩⟩
      refine hh _ _ (.tuple ([PyData.int (Pl.getD j 0), .int (f (Pl.getD j 0))].set js od)) ((Keep.refl s H1).new nq) (so.new nq) (.tup (((hS.keep k9 so9).keep kk so).free nq) upd_same ((hset.keep kk hS.at_).new nq)) ?_
      exact .tup (by rw [List.length_set]; show 2 ≤ 5000; decide) fun d hd => (hDs d hd).lift (by decide)
    · intro H' p ys es kk Sx nps fp ep hes hin' hle
      refine q H' _ (.list es) (k9.trans kk) Sx.so (.lst fp ep hes) (.lst (by omega) fun e he => ?_)
      rcases hin' e he with h | h
      · obtain ⟨z, _, rfl⟩ := List.mem_map.mp h
        exact (dd_pdX z).lift (by decide)
      · exact h.lift (by decide)


set_option maxHeartbeats 4000000 in
theorem ok_law_bent  (F : Fun K "_law_bent" "_law_bent" s_law_bent f fd) (T : Txt w K mg)
    (O_law_take : Own P w K mg base k "_law_take" ["store", "many"] (sp_law_take))
    (O_law_plain : Own P w K mg base k "_law_plain" ["store"] (sp_law_plain))
    (O_law_pick : Own P w K mg base k "_law_pick" ["store", "things"] (sp_law_pick K))
    (O_law_odd_place : Own P w K mg base k "_law_odd_place" ["store", "paper"] (sp_law_odd_place))
    (O_law_odd_part : Own P w K mg base k "_law_odd_part" ["store", "paper", "side"] (sp_law_odd_part))
    (O_law_atom : Own P w K mg base k "_law_atom" ["store"] (sp_law_atom)) : FnOk P w K mg base CX0 (k + 1) f fd ["store", "paper"] (sp_law_bent) := by
  refine F.ok sc_law_bent (fun vs H Q E h => ?_) (fun cdv A outer s0 H vs Q E hr h => ?_)
  · obtain ⟨S, s, x, Pl, f, rfl, hS, hx, pos, h64, hP, hf, q⟩ := h
    rfl
  · obtain ⟨S, s, x, Pl, f, rfl, hS, hx, pos, h64, hP, hf, q⟩ := h
    refine ⟨_, (pss_cons (ps_set (i := 2) sc_law_bent.nd rfl (Or.inl rfl) (pe_own O_law_take hr (by rfl) (pa_cons (pv 0) (pa_cons pe_int pa_nil))))
      (pss_cons (ps_set (i := 3) sc_law_bent.nd rfl (Or.inl rfl) (pe_own O_law_take hr (by rfl) (pa_cons (pv 0) (pa_cons (pe_callB call_len_seq (by rfl) T.len PySem.boot_len (pa_cons (pv 1) pa_nil)) pa_nil))))
      (pss_cons (ps_set (i := 4) sc_law_bent.nd rfl (Or.inl rfl) (pe_ix ix_list (pv 1) (pv 3) (fun _ _ => rfl)))
      (pss_cons (ps_if (pt_cmpR op_eq (pv 2) pe_int (nomark _))
        (pss_one (ps_ret (pe_own O_law_plain hr (by rfl) (pa_cons (pv 0) pa_nil))))
        pss_nil)
      (pss_cons (ps_if (pt_cmpR op_eq (pv 2) pe_int (nomark _))
        (pss_one (ps_ret (pe_tupleOf (by rfl) T.tuple (pv 1))))
        pss_nil)
      (pss_cons (ps_if (pt_cmpR op_eq (pv 2) pe_int (nomark _))
        (pss_cons (ps_set (i := 5) sc_law_bent.nd rfl (Or.inl rfl) (pe_own O_law_take hr (by rfl) (pa_cons (pv 0) (pa_cons (pe_callB call_len_seq (by rfl) T.len PySem.boot_len (pa_cons (pv 1) pa_nil)) pa_nil))))
        (pss_cons (ps_set (i := 6) sc_law_bent.nd rfl (Or.inl rfl) (pe_callTy call_list_of (by rfl) T.list (by decide +kernel) (pa_cons (pv 1) pa_nil)))
        (pss_cons (ps_asg (pe_ix ix_list (pv 1) (pv 5) (fun _ _ => rfl)) (pg_sub (pv 6) (pv 3) set_list))
        (pss_cons (ps_asg (pv 4) (pg_sub (pv 6) (pv 5) set_list))
        (pss_one (ps_ret (pv 6)))))))
        pss_nil)
      (pss_cons (ps_if (pt_cmpR op_eq (pv 2) pe_int (nomark _))
        (pss_cons (ps_set (i := 7) sc_law_bent.nd rfl (Or.inl rfl) (pe_own O_law_pick hr (by rfl) (pa_cons (pv 0) (pa_cons (pe_lst (pa_cons (pe_callTy call_list_of (by rfl) T.list (by decide +kernel) (pa_cons (pv 4) pa_nil)) (pa_cons (pe_op op_catT (pv 4) (pe_tup (pa_cons (pe_ix ix_tup (pv 4) pe_int (fun _ _ => rfl)) pa_nil))) (pa_cons (pe_slice sl_tup (pv 4) po_none (po_some pe_int)) (pa_cons (pe_tup pa_nil) (pa_cons (pe_tup (pa_cons (pv 4) pa_nil)) (pa_cons pe_non (pa_cons (pe_ix ix_tup (pv 4) pe_int (fun _ _ => rfl)) pa_nil)))))))) pa_nil))))
        (pss_one (ps_ret (pe_op op_cat (pe_op op_cat (pe_slice sl_list (pv 1) po_none (po_some (pv 3))) (pe_lst (pa_cons (pv 7) pa_nil))) (pe_slice sl_list (pv 1) (po_some (pe_op op_add (pv 3) pe_int)) po_none)))))
        pss_nil)
      (pss_cons (ps_if (pt_cmpR op_eq (pv 2) pe_int (nomark _))
        (pss_one (ps_ret (pe_op op_cat (pe_op op_cat (pe_slice sl_list (pv 1) po_none (po_some (pv 3))) (pe_lst (pa_cons (pv 4) pa_nil))) (pe_slice sl_list (pv 1) (po_some (pv 3)) po_none))))
        pss_nil)
      (pss_cons (ps_if (pt_cmpR op_eq (pv 2) pe_int (nomark _))
        (pss_one (ps_ret (pe_op op_cat (pe_slice sl_list (pv 1) po_none (po_some (pv 3))) (pe_slice sl_list (pv 1) (po_some (pe_op op_add (pv 3) pe_int)) po_none))))
        pss_nil)
      (pss_cons (ps_if (pt_cmpR op_eq (pv 2) pe_int (nomark _))
        (pss_one (ps_ret (pe_own O_law_odd_place hr (by rfl) (pa_cons (pv 0) (pa_cons (pv 1) pa_nil)))))
        pss_nil)
      (pss_cons (ps_if (pt_cmpR op_eq (pv 2) pe_int (nomark _))
        (pss_one (ps_ret (pe_own O_law_odd_part hr (by rfl) (pa_cons (pv 0) (pa_cons (pv 1) (pa_cons pe_int pa_nil))))))
        pss_nil)
      (pss_one (ps_ret (pe_op op_cat (pe_op op_cat (pe_slice sl_list (pv 1) po_none (po_some (pv 3))) (pe_lst (pa_cons (pe_own O_law_atom hr (by rfl) (pa_cons (pv 0) pa_nil)) pa_nil))) (pe_slice sl_list (pv 1) (po_some (pv 3)) po_none))))))))))))))), ?_⟩
    have sz : 100000 < sizeLine := by decide
    have hx0 := hx
    obtain ⟨a, xs, rfl, nSa, ea, hA⟩ := hx.list
    have nas : a ≠ s := fun z => nSa (z ▸ hS.at_)
    have lx : xs.length = Pl.length := by rw [hA.length, List.length_map, List.length_map]
    have lds : ((papD Pl f).map pd).length ≤ 70 := by rw [List.length_map, List.length_map]; omega
    have itm : ∀ {H' : Hp} {j : Nat}, Keep s H H' → j < Pl.length → ∃ t : Addr, xs[j]? = some (.ref t) ∧ H' t = some (.tup [.int (Pl.getD j 0), .int (f (Pl.getD j 0))]) ∧ ¬ S t := fun {H'} {j} k hj => by
      have hx : xs[j]? = some (xs[j]'(by omega)) := List.getElem?_eq_getElem (by omega)
      obtain ⟨p, t, ed, e, nt, et⟩ := (hA.keep k hS.at_).pd hx
      rw [e] at hx
      have e1 : Pl[j]? = some (Pl[j]'hj) := List.getElem?_eq_getElem hj
      have e2 : Pl.getD j 0 = Pl[j]'hj := by rw [List.getD_eq_getElem?_getD, e1]; rfl
      rw [List.getElem?_map, e1] at ed
      cases ed
      exact ⟨t, hx, by rw [e2]; exact et, nt⟩
    have hpl : Dd 5000 70 (pdL (papD Pl f)) := (dd_pdL (by rw [List.length_map]; omega)).mono (by decide) (by decide)
    have fin : ∀ {H0 : Hp}, Keep s H H0 → ∀ H' p ys es, Keep s H0 H' → SS S s H' → p ≠ s → ¬ S p → H' p = some (.lst ys) → DaAll S H' ys es → (∀ e ∈ es, e ∈ (papD Pl f).map pd ∨ Dd 5000 60 e) → es.length ≤ 141 → Q (.ref p) H' := by
      intro H0 k0 H' p ys es kk Sx nps fp ep hes hin' hle
      refine q H' _ (.list es) (k0.trans kk) Sx.so (.lst fp ep hes) (.lst (by omega) fun e he => ?_)
      rcases hin' e he with h | h
      · obtain ⟨z, _, rfl⟩ := List.mem_map.mp h
        exact (dd_pdX z).lift (by decide)
      · exact h.lift (by decide)
    refine ⟨_, rfl, S, s, 9, rfl, hS.so, by decide, fun H1 how k1 so1 _ _ => ?_⟩
    refine ⟨_, rfl, _, rfl, a, _, rfl, .inl (.of (k1 _ _ nas ea)), S, s, _, rfl, so1, by omega, fun H2 r k2 so2 r0 r1 => ?_⟩
    rw [lx] at r1
    obtain ⟨j, rfl⟩ : ∃ j : Nat, r = (j : Int) := ⟨r.toNat, by omega⟩
    have hj : j < Pl.length := by omega
    have k02 := k1.trans k2
    have S2 := hS.keep k02 so2
    obtain ⟨t, hxj, et, nSt⟩ := itm k02 hj
    have nts : t ≠ s := fun z => nSt (by rw [z]; exact hS.at_)
    have ea2 := k02 _ _ nas ea
    refine ⟨_, rfl, _, rfl, a, _, _, _, rfl, rfl, .of ea2, atI_nat (j := j) hxj, ?_⟩
    refine ⟨_, rfl, rfl, _, rfl, ite2 (fun _ => ?_) fun _ => ?_⟩
    · exact ⟨_, rfl, S, s, rfl, S2, fun H' v d k so hd hD => q H' v d (k02.trans k) so hd (hD.mono (by decide) (by decide))⟩
    refine ⟨_, rfl, rfl, _, rfl, ite2 (fun _ => ?_) fun _ => ?_⟩
    · refine ⟨_, rfl, .inl ⟨a, xs, rfl, .of ea2, fun qa nq => ?_⟩⟩
      exact q _ _ (.tuple ((papD Pl f).map pd)) (k02.new (k02.free (S2.ne nq) nq)) (so2.new nq) (.tup (S2.free nq) upd_same ((hA.keep k02 hS.at_).new nq)) (.tup (by omega) fun e he => by obtain ⟨z, _, rfl⟩ := List.mem_map.mp he; exact (dd_pdX z).lift (by decide))
    refine ⟨_, rfl, rfl, _, rfl, ite2 (fun _ => ?_) fun _ => ?_⟩
    · refine ⟨_, rfl, _, rfl, a, _, rfl, .inl (.of ea2), S, s, _, rfl, so2, by omega, fun H3 r k3 so3 r0 r1 => ?_⟩
      rw [lx] at r1
      obtain ⟨j2, rfl⟩ : ∃ j : Nat, r = (j : Int) := ⟨r.toNat, by omega⟩
      have hj2 : j2 < Pl.length := by omega
      have k03 := k02.trans k3
      have S3 := hS.keep k03 so3
      refine ⟨_, rfl, a, xs, rfl, .inl (.of (k03 _ _ nas ea)), fun M nM => ?_⟩
      obtain ⟨H4, e4, S4, k4, s4, eM4, fM, nMs⟩ := fresh (.lst xs) S3 k03 nM
      rw [e4]
      have nM0 : H M = none := k03.free nMs nM
      obtain ⟨t2, hxj2, et2, _⟩ := itm k4 hj2
      refine ⟨_, rfl, _, rfl, a, _, _, _, rfl, rfl, .of (k4 _ _ nas ea), atI_nat (j := j2) hxj2, _, rfl, _, rfl, M, _, _, j, rfl, rfl, eM4, ixN_some (by omega), ?_⟩
      refine ⟨_, rfl, _, rfl, _, rfl, M, _, _, j2, rfl, rfl, upd_same, ixN_some (by rw [List.length_set]; omega), ?_⟩
      have hA4 := hA.keep k4 hS.at_
      obtain ⟨dj, edj, hdj⟩ := hA4.get hxj
      obtain ⟨dj2, edj2, hdj2⟩ := hA4.get hxj2
      have hs4 : DaAll S H4 ((xs.set j (.ref t2)).set j2 (.ref t)) ((((papD Pl f).map pd).set j dj2).set j2 dj) := DaAll.set hdj j2 (DaAll.set hdj2 j hA4)
      have hpd : ∀ e ∈ (((papD Pl f).map pd).set j dj2).set j2 dj, timedD e = true := fun e he => by
        have hm : e ∈ (papD Pl f).map pd := by
          rcases List.mem_or_eq_of_mem_set he with h | h
          · rcases List.mem_or_eq_of_mem_set h with h | h
            · exact h
            · rw [h]
              exact List.mem_of_getElem? edj2
          · rw [h]
            exact List.mem_of_getElem? edj
        obtain ⟨z, _, rfl⟩ := List.mem_map.mp hm
        rfl
      obtain ⟨As2, hAs2⟩ := all_pd_of hpd
      have hl2 : As2.length = Pl.length := by
        have := congrArg List.length hAs2
        rw [List.length_set, List.length_set, List.length_map, List.length_map, List.length_map] at this
        exact this.symm
      rw [hAs2] at hs4
      exact ⟨_, rfl, q _ _ (pdL As2) ((k4.new nM0).new nM0) ((S4.so.put fM).put fM) (.lst fM upd_same (pd_ne (fun zs z => by rw [upd_same] at z; cases z) (pd_ne (fun zs z => by rw [eM4] at z; cases z) hs4))) ((dd_pdL (by omega)).mono (by decide) (by decide))⟩
    refine ⟨_, rfl, rfl, _, rfl, ite2 (fun _ => ?_) fun _ => ?_⟩
    · refine ⟨_, rfl, _, rfl, t, _, rfl, .inr (.of et), fun L1 nL1 => ?_⟩
      obtain ⟨H3, e3, S3, k3, s3, c1, f1, _⟩ := fresh (.lst [.int (Pl.getD j 0), .int (f (Pl.getD j 0))]) S2 k02 nL1
      rw [e3]
      refine ⟨_, rfl, _, rfl, t, _, 1, _, rfl, rfl, .of (s3 _ _ et), rfl, (by show 1 ≤ sizeLine; decide), fun T1 nT1 => ?_⟩
      obtain ⟨H4, e4, S4, k4, s4, c2, f2, _⟩ := fresh (.tup [.int (f (Pl.getD j 0))]) S3 k3 nT1
      rw [e4]
      have et4 := s4 _ _ (s3 _ _ et)
      refine ⟨t, T1, _, _, rfl, rfl, .of et4, .of c2, by simp, by show 3 ≤ sizeLine; decide, (fun e => by cases e), fun _ T2 nT2 => ?_⟩
      obtain ⟨H5, e5, S5, k5, s5, c3, f3, _⟩ := fresh (.tup ([.int (Pl.getD j 0), .int (f (Pl.getD j 0))] ++ [.int (f (Pl.getD j 0))])) S4 k4 nT2
      rw [e5]
      have et5 := s5 _ _ et4
      refine ⟨_, rfl, _, rfl, t, _, rfl, .of et5, (fun z => absurd z.2 (show ¬ HT.sIx 2 2 (some 1) = 2 by decide)), fun T3 nT3 => ?_⟩
      obtain ⟨H6, e6, S6, k6, s6, c4, f4, _⟩ := fresh (.tup (cutV [.int (Pl.getD j 0), .int (f (Pl.getD j 0))] none (some 1))) S5 k5 nT3
      rw [e6]
      refine ⟨(by show 0 ≤ sizeLine; decide), fun T4 nT4 => ?_⟩
      obtain ⟨H7, e7, S7, k7, s7, c5, f5, _⟩ := fresh (.tup []) S6 k6 nT4
      rw [e7]
      refine ⟨_, rfl, (by show 1 ≤ sizeLine; decide), fun T5 nT5 => ?_⟩
      obtain ⟨H8, e8, S8, k8, s8, c6, f6, _⟩ := fresh (.tup [.ref t]) S7 k7 nT5
      rw [e8]
      have s58 := (s6.trans s7).trans s8
      have et8 := s58 _ _ et5
      refine ⟨_, rfl, t, _, 1, _, rfl, rfl, .of et8, rfl, (by show 7 ≤ sizeLine; decide), fun pp np => ?_⟩
      refine pick_list S8.so np (by simp) (by simp) fun H9 ov k9 _ so9 hv => ?_
      have k09 := k8.trans k9
      have S9 := hS.keep k09 so9
      have ii : ∀ {n : Nat} (d : PyData), d = .int (Pl.getD j 0) ∨ d = .int (f (Pl.getD j 0)) → Dd 5000 n d := fun d h => by
        rcases h with rfl | rfl
        · exact .int _ _
        · exact .int _ _
      obtain ⟨od, hod, hoD⟩ : ∃ od, Da S H9 ov od ∧ Dd 5000 20 od := by
        simp only [List.mem_cons, List.not_mem_nil, or_false] at hv
        rcases hv with rfl | rfl | rfl | rfl | rfl | rfl | rfl
        · exact ⟨.list [.int _, .int _], (Da.lst f1 (s58 _ _ (s5 _ _ (s4 _ _ c1))) (.cons (.int _) (.one (.int _)))).keep k9 hS.at_, .lst (by show 2 ≤ 5000; decide) fun d hd => ii d (by simpa using hd)⟩
        · exact ⟨.tuple [.int _, .int _, .int _], (Da.tup f3 (s58 _ _ c3) (.cons (.int _) (.cons (.int _) (.one (.int _))))).keep k9 hS.at_, .tup (by show 3 ≤ 5000; decide) fun d hd => ii d (by simp only [List.mem_cons, List.not_mem_nil, or_false] at hd; exact hd.elim .inl fun h => h.elim .inr .inr)⟩
        · obtain ⟨d1, a1, m1, ll1⟩ := cut_da (S := S) (H := H8) (xs := [.int (Pl.getD j 0), .int (f (Pl.getD j 0))]) (ds := [.int (Pl.getD j 0), .int (f (Pl.getD j 0))]) (.cons (.int _) (.one (.int _))) none (some 1)
          exact ⟨.tuple d1, (Da.tup f4 (s8 _ _ (s7 _ _ c4)) a1).keep k9 hS.at_, .tup (Nat.le_trans ll1 (by show 2 ≤ 5000; decide)) fun d hd => ii d (by simpa using m1 d hd)⟩
        · exact ⟨.tuple [], (Da.tup f5 (s8 _ _ c5) .nil).keep k9 hS.at_, .tup (by show 0 ≤ 5000; decide) fun d hd => by cases hd⟩
        · exact ⟨.tuple [pd (Pl.getD j 0, f (Pl.getD j 0))], (Da.tup f6 c6 (.one (da_ofpd nSt et8))).keep k9 hS.at_, .tup (by show 1 ≤ 5000; decide) fun d hd => by rw [List.mem_singleton.mp hd]; exact .tup (by show 2 ≤ 5000; decide) fun d hd => ii d (by simpa using hd)⟩
        · exact ⟨_, .non, .non _⟩
        · exact ⟨_, .int _, .int _ _⟩
      refine splice (S := S) (s := s) (a := a) (xs := xs) (ds := (papD Pl f).map pd) (i1 := (j : Int)) (i2 := (j : Int) + 1) (fun d => Dd 5000 60 d) rfl S9 nas (k09 _ _ nas ea) (hA.keep k09 hS.at_) lds (fun _ _ h => ⟨_, rfl, _, rfl, h⟩) (fun _ _ h => ⟨_, rfl, _, _, rfl, rfl, _, rfl, h⟩) ?_ (fin k09)
      intro H1 R' kk so hh
      exact ⟨_, rfl, hh _ _ od (Keep.refl _ _) so (hod.keep kk hS.at_) (hoD.lift (by decide))⟩
    refine ⟨_, rfl, rfl, _, rfl, ite2 (fun _ => ?_) fun _ => ?_⟩
    · refine splice (S := S) (s := s) (a := a) (xs := xs) (ds := (papD Pl f).map pd) (i1 := (j : Int)) (i2 := (j : Int)) (fun d => Dd 5000 60 d) rfl S2 nas (k02 _ _ nas ea) (hA.keep k02 hS.at_) lds (fun _ _ h => ⟨_, rfl, _, rfl, h⟩) (fun _ _ h => ⟨_, rfl, _, rfl, h⟩) ?_ (fin k02)
      intro H1 R' kk so hh
      exact ⟨_, rfl, hh _ _ (pd (Pl.getD j 0, f (Pl.getD j 0))) (Keep.refl _ _) so (da_ofpd nSt (kk _ _ nts et)) (dd_pdX _)⟩
    refine ⟨_, rfl, rfl, _, rfl, ite2 (fun _ => ?_) fun _ => ?_⟩
    · have hA2 := hA.keep k02 hS.at_
      have c1l := cutV_length xs none (some (j : Int))
      have c2l := cutV_length xs (some ((j : Int) + 1)) none
      obtain ⟨d1, a1, m1, ll1⟩ := cut_da hA2 none (some (j : Int))
      obtain ⟨d2, a2, m2, ll2⟩ := cut_da hA2 (some ((j : Int) + 1)) none
      refine ⟨_, rfl, _, rfl, _, rfl, a, xs, rfl, .of ea2, fun p1 n1 => ?_⟩
      obtain ⟨H3, e3, S3, k3, s3, c1, f1, _⟩ := fresh (.lst (cutV xs none (some (j : Int)))) S2 k02 n1
      rw [e3]
      refine ⟨_, rfl, _, rfl, _, _, rfl, rfl, _, rfl, a, xs, rfl, .of (k3 _ _ nas ea), fun p4 n4 => ?_⟩
      obtain ⟨H4, e4, S4, k4, s4, c2, f2, _⟩ := fresh (.lst (cutV xs (some ((j : Int) + 1)) none)) S3 k3 n4
      rw [e4]
      refine ⟨p1, p4, _, _, rfl, rfl, s4 _ _ c1, c2, by omega, fun p5 n5 => ?_⟩
      obtain ⟨H5, e5, S5, k5, s5, c3, f3, nps⟩ := fresh (.lst (cutV xs none (some (j : Int)) ++ cutV xs (some ((j : Int) + 1)) none)) S4 k4 n5
      rw [e5]
      have s25 := (s3.trans s4).trans s5
      exact fin (Keep.refl s H) H5 p5 _ (d1 ++ d2) k5 S5 nps f3 c3 ((a1.same s25).app (a2.same s25)) (fun e he => .inl ((List.mem_append.mp he).elim (m1 e) (m2 e))) (by rw [List.length_append]; omega)
    refine ⟨_, rfl, rfl, _, rfl, ite2 (fun _ => ?_) fun _ => ?_⟩
    · exact ⟨_, rfl, _, rfl, S, s, .ref a, Pl, f, rfl, S2, hx0.keep k02 hS.at_, pos, h64, hP, hf, fun H' v d k so hd hD => q H' v d (k02.trans k) so hd hD⟩
    refine ⟨_, rfl, rfl, _, rfl, ite2 (fun _ => ?_) fun _ => ?_⟩
    · exact ⟨_, rfl, _, rfl, S, s, .ref a, Pl, f, 1, rfl, S2, hx0.keep k02 hS.at_, pos, h64, hP, hf, .inr rfl, fun H' v d k so hd hD => q H' v d (k02.trans k) so hd hD⟩
    refine splice (S := S) (s := s) (a := a) (xs := xs) (ds := (papD Pl f).map pd) (i1 := (j : Int)) (i2 := (j : Int)) (fun d => Dd 5000 60 d) rfl S2 nas (k02 _ _ nas ea) (hA.keep k02 hS.at_) lds (fun _ _ h => ⟨_, rfl, _, rfl, h⟩) (fun _ _ h => ⟨_, rfl, _, rfl, h⟩) ?_ (fin k02)
    intro H1 R' kk so hh
    exact ⟨_, rfl, S, s, rfl, so, fun H2 v d k so2 hd hD => hh H2 v d k so2 (hd S H2) (hD.mono (by decide) (by decide))⟩


set_option maxHeartbeats 4000000 in
theorem ok_law_asked  (F : Fun K "_law_asked" "_law_asked" s_law_asked f fd) (T : Txt w K mg)
    (O_law_moment_fault : Own P w K mg base k "_law_moment_fault" ["net", "paper"] (sp_law_moment_fault))
    (O_law_copy : Own P w K mg base k "_law_copy" ["value"] (sp_law_copy 71))
    (O_law_same : Own P w K mg base k "_law_same" ["given", "due"] (sp_law_same 71))
    (O_moment_fault : Own P w K mg base k "moment_fault" ["net", "paper"] (sp_moment_fault K))
    (O_is_moments : Own P w K mg base k "is_moments" ["net", "paper"] (sp_is_moments K)) : FnOk P w K mg base CX0 (k + 1) f fd ["made", "net", "paper"] (sp_law_asked K) := by
  refine F.ok sc_law_asked (fun vs H Q E h => ?_) (fun cdv A outer s0 H vs Q E hr h => ?_)
  · obtain ⟨S, o, x, y, d, As, Bs, Ls, Ls', Ms, Pl, root, rfl, al, hN, hx, g, hB, hy, hD, q⟩ := h
    rfl
  · obtain ⟨S, o, x, y, d, As, Bs, Ls, Ls', Ms, Pl, root, rfl, al, hN, hx, g, hB, hy, hD, q⟩ := h
    refine ⟨_, (pss_cons (ps_set (i := 3) sc_law_asked.nd rfl (Or.inl rfl) (pe_own O_law_moment_fault hr (by rfl) (pa_cons (pv 1) (pa_cons (pv 2) pa_nil))))
      (pss_cons (ps_set (i := 4) sc_law_asked.nd rfl (Or.inl rfl) (pe_own O_law_copy hr (by rfl) (pa_cons (pv 2) pa_nil)))
      (pss_cons (ps_if (pt_not (pt_val (pe_own O_law_same hr (by rfl) (pa_cons (pe_own O_moment_fault hr (by rfl) (pa_cons (pv 0) (pa_cons (pv 4) pa_nil))) (pa_cons (pv 3) pa_nil)))))
        (pss_one (ps_ret pe_bl))
        pss_nil)
      (pss_cons (ps_if (pt_not (pt_val (pe_own O_law_same hr (by rfl) (pa_cons (pe_own O_is_moments hr (by rfl) (pa_cons (pv 0) (pa_cons (pv 4) pa_nil))) (pa_cons (pe_cmpR op_isN (pv 3) pe_non (nomark _)) pa_nil)))))
        (pss_one (ps_ret pe_bl))
        pss_nil)
      (pss_one (ps_ret (pe_own O_law_same hr (by rfl) (pa_cons (pv 4) (pa_cons (pv 2) pa_nil))))))))), ?_⟩
    have sz : 1000 < sizeLine := by decide
    have a46 := g.a46
    have p64 := g.p64
    have lB : Bs.length = As.length := hB.1.length_eq
    have hends : ∀ b ∈ Bs, b.1 ∈ Pl ∧ b.2 ∈ Pl := fun b hb => g.ends b (hB.1.mem_iff.mp hb)
    have absd : ∀ {α : Prop}, (!true) = true → α := fun e => absurd e (by decide)
    have at_ : ∀ {H' : Hp}, Same H H' → NetAt S K H' o Bs Ls' Ms Pl root := fun s => hN.go fun b u hb e => ⟨hb, s _ _ e⟩
    obtain ⟨r, hc, hrD⟩ : ∃ r, ((hfB Pl d = false ∧ r = formD) ∨ ∃ f, d = pdL (papD Pl f) ∧ r = mfD Pl Bs f) ∧ Dd 1000 2 r := by
      cases h : hfB Pl d with
      | false => exact ⟨formD, .inl ⟨rfl, rfl⟩, .tup (by decide) fun e he => by
          simp only [List.mem_cons, List.not_mem_nil, or_false] at he
          rcases he with rfl | rfl
          · exact .str _ (by decide +kernel)
          · exact .non _⟩
      | true =>
        obtain ⟨f, hf⟩ := hf_some g.asc.nodup h
        exact ⟨_, .inr ⟨f, hf, rfl⟩, mfD_dd⟩
    refine ⟨_, rfl, _, rfl, S, x, y, d, r, As, Bs, Ls, Pl, rfl, al, hx, hy, hD, g, hB, hc, fun H1 v1 s1 d1 => ?_⟩
    refine ⟨_, rfl, S, y, d, 5000, 70, rfl, al.same s1, hy.same s1, hD, by decide, by decide, fun H2 v2 s2 d2 => ?_⟩
    have t2 := s1.trans s2
    have d1 := d1.same s2
    refine ⟨_, rfl, _, rfl, S, o, v2, d, r, Bs, Ls', Ms, Pl, root, rfl, at_ t2, al.same t2, d2, hD, hc, p64, g.asc.1, by omega, hends, fun H3 v3 s3 d3 => ⟨_, rfl, ?_⟩⟩
    have t3 := t2.trans s3
    have d1 := d1.same s3
    have d2 := d2.same s3
    refine ⟨S, v3, v1, r, r, 1000, 2, rfl, al.same t3, d3, d1, hrD, by decide, by decide, fun H4 b s4 hb => ⟨_, rfl, ?_⟩⟩
    obtain rfl := hb.mpr rfl
    refine ite2 absd fun _ => ?_
    refine next_h ?_
    dsimp only
    have t4 := t3.trans s4
    have d1 := d1.same s4
    have d2 := d2.same s4
    refine ⟨_, rfl, _, rfl, S, o, v2, d, r, Bs, Ls', Ms, Pl, root, rfl, at_ t4, al.same t4, d2, hD, hc, p64, g.asc.1, by omega, hends, fun H7 c s7 hcc => ⟨_, rfl, rfl, ?_⟩⟩
    have t7 := t4.trans s7
    have d1 := d1.same s7
    have d2 := d2.same s7
    have ec : c = decide (v1 = .non) := by
      rw [Bool.eq_iff_iff, decide_eq_true_iff, hcc]
      cases d1 <;> simp
    refine ⟨S, .bl c, .bl c, .bool c, .bool c, 1000, 0, by rw [ec]; rfl, al.same t7, .bl _, .bl _, .bl _ _, by decide, by decide, fun H8 b s8 hb => ⟨_, rfl, ?_⟩⟩
    obtain rfl := hb.mpr rfl
    refine ite2 absd fun _ => ?_
    refine next_h ?_
    dsimp only
    have t8 := t7.trans s8
    exact ⟨_, rfl, _, rfl, S, v2, y, d, d, 5000, 70, rfl, al.same t8, d2.same s8, hy.same t8, hD, by decide, by decide, fun H9 b s9 hb => by obtain rfl := hb.mpr rfl; exact q _ (t8.trans s9)⟩


set_option maxHeartbeats 4000000 in
theorem ok_law  (F : Fun K "law" "law" s_law f fd) (T : Txt w K mg)
    (O_law_store : Own P w K mg base k "_law_store" ["script"] (sp_law_store K))
    (O_law_case : Own P w K mg base k "_law_case" ["store"] (sp_law_case))
    (O_law_lists : Own P w K mg base k "_law_lists" ["store", "net"] (sp_law_lists))
    (O_Net___init : OwnC P w K mg base k "Net" (He.ga K "Net") ["self", "arrows", "leaves"] (sp_Net___init K))
    (O_law_paper : Own P w K mg base k "_law_paper" ["number"] (sp_law_paper))
    (O_law_same : Own P w K mg base k "_law_same" ["given", "due"] (sp_law_same 4))
    (O_is_moments : Own P w K mg base k "is_moments" ["net", "paper"] (sp_is_moments K))
    (O_law_copy : Own P w K mg base k "_law_copy" ["value"] (sp_law_copy 71))
    (O_law_asked : Own P w K mg base k "_law_asked" ["made", "net", "paper"] (sp_law_asked K))
    (O_law_bent : Own P w K mg base k "_law_bent" ["store", "paper"] (sp_law_bent))
    (O_law_is_net : Own P w K mg base k "_law_is_net" ["given", "net"] (sp_law_is_net K)) : FnOk P w K mg base CX0 (k + 1) f fd ["script"] (sp_law K) := by
  refine F.ok sc_law (fun vs H Q E h => ?_) (fun cdv A outer s0 H vs Q E hr h => ?_)
  · obtain ⟨a, ns, rfl, hns, hlen, q⟩ := h
    rfl
  · obtain ⟨a, ns, rfl, hns, hlen, q⟩ := h
    refine ⟨_, (pss_cons (ps_set (i := 1) sc_law.nd rfl (Or.inl rfl) (pe_own O_law_store hr (by rfl) (pa_cons (pv 0) pa_nil)))
      (pss_cons (ps_set (i := 2) sc_law.nd rfl (Or.inl rfl) (pe_own O_law_case hr (by rfl) (pa_cons (pv 1) pa_nil)))
      (pss_cons (ps_set (i := 3) sc_law.nd rfl (Or.inl rfl) (pe_ix ix_list (pv 2) pe_int (fun _ _ => rfl)))
      (pss_cons (ps_set (i := 4) sc_law.nd rfl (Or.inl rfl) (pe_own O_law_lists hr (by rfl) (pa_cons (pv 1) (pa_cons (pv 3) pa_nil))))
      (pss_cons (ps_set (i := 5) sc_law.nd rfl (Or.inl rfl) (pe_ownC O_Net___init hr (by rfl) (pa_cons (pe_ix ix_list (pv 4) pe_int (fun _ _ => rfl)) (pa_cons (pe_ix ix_list (pv 4) pe_int (fun _ _ => rfl)) pa_nil))))
      (pss_cons (ps_set (i := 6) sc_law.nd rfl (Or.inl rfl) (pe_own O_law_paper hr (by rfl) (pa_cons (pe_ix ix_list (pv 2) pe_int (fun _ _ => rfl)) pa_nil)))
      (pss_cons (ps_if (pt_not (pt_val (pe_own O_law_same hr (by rfl) (pa_cons (pe_own O_is_moments hr (by rfl) (pa_cons (pv 5) (pa_cons (pe_own O_law_copy hr (by rfl) (pa_cons (pv 6) pa_nil)) pa_nil))) (pa_cons pe_bl pa_nil)))))
        (pss_one (ps_ret pe_bl))
        pss_nil)
      (pss_cons (ps_for PassesOwn.never rfl (pi_range1 (by rfl) T.range (pa_cons pe_int pa_nil)) (pg_name (i := 7) sc_law.nd rfl (Or.inl rfl))
        (pss_one (ps_if (pt_not (pt_val (pe_own O_law_asked hr (by rfl) (pa_cons (pv 5) (pa_cons (pv 3) (pa_cons (pe_own O_law_bent hr (by rfl) (pa_cons (pv 1) (pa_cons (pv 6) pa_nil))) pa_nil))))))
          (pss_one (ps_ret pe_bl))
          pss_nil)))
      (pss_one (ps_ret (pe_and (pe_own O_law_asked hr (by rfl) (pa_cons (pv 5) (pa_cons (pv 3) (pa_cons (pv 6) pa_nil)))) (pe_one (pe_own O_law_is_net hr (by rfl) (pa_cons (pv 5) (pa_cons (pv 3) pa_nil))))))))))))))), ?_⟩
    have sz : 1000 < sizeLine := by decide
    refine ⟨_, rfl, a, ns, rfl, hns, hlen, fun H1 S s sm1 al1 so1 => ?_⟩
    have S1 : SS S s H1 := ⟨so1, al1⟩
    refine ⟨_, rfl, S, s, rfl, S1, fun H3 R v D As Ls P P0 f k3 so3 nRs nDs eR hv eD hp g b1 b2 hf hfb => ?_⟩
    have S3 := S1.keep k3 so3
    have a46 := g.a46
    have l12 := g.l12
    have p64 := g.p64
    refine ⟨_, rfl, R, _, ((0 : Nat) : Int), v, rfl, rfl, .of eR, atI_nat (j := 0) rfl, ?_⟩
    refine ⟨_, rfl, _, rfl, S, s, v, As, Ls, rfl, S3, hv, by omega, by omega, fun H4 w1 As1 Ls1 k4 so4 p1 l1 dw1 _ => ?_⟩
    have S4 := S3.keep k4 so4
    obtain ⟨W, A, L, xs', ys', rfl, nW, eW, nA, eA, hA, nL, eL, hL⟩ := da_net dw1
    refine ⟨_, rfl, W, _, ((0 : Nat) : Int), .ref A, rfl, rfl, .of eW, atI_nat (j := 0) rfl, _, rfl, W, _, ((1 : Nat) : Int), .ref L, rfl, rfl, .of eW, atI_nat (j := 1) rfl, fun o1 dx no ndx ndxo => ?_⟩
    have g' := g.perm p1 l1
    obtain ⟨Bs1, hB⟩ := srtA_exists As1
    obtain ⟨root1, hroot, hfil, hups⟩ := g'.roots hB
    have no2 : upd H4 dx (.own o1) o1 = none := by rw [upd_ne ndxo.symm]; exact no
    have s2 : Same H4 (upd (upd H4 dx (.own o1)) o1 (.ins (He.ga K "Net") dx [])) := same_snoc (same_snoc (Same.refl _) ndx) no2
    have al1 : Al S (upd (upd H4 dx (.own o1)) o1 (.ins (He.ga K "Net") dx [])) := S4.al.upd.upd
    have a46' := g'.a46
    have l12' := g'.l12
    refine ⟨S, o1, dx, .ref A, .ref L, As1, Bs1, Ls1, P, (fun _ => false), root1, rfl, upd_same, S4.al.free no, al1, ⟨A, _, rfl, s2 _ _ eA, hA.same s2⟩, ⟨L, _, rfl, s2 _ _ eL, hL.same s2⟩, by omega, by omega, g'.asc, g'.p64, hB, g'.noring hB, fun p hp => Nat.le_trans (g'.nm p hp).2 (by decide), g'.lf, g'.pf hB, g'.lp, g'.ln, hfil, fun H6 Ms1 bt hN1 => ⟨rfl, ?_⟩⟩
    have s46 : Same H4 H6 := fun b u e => bt b u (fun z => by rw [z, no] at e; cases e) (s2 b u e)
    have hM := hN1.srt
    have hB1 : SrtA As Bs1 := ⟨hB.1.trans p1, hB.2⟩
    have hM1 : SrtL Ls Ms1 := ⟨hM.1.trans l1, hM.2⟩
    clear hM hB g' hroot hfil hups no2 s2 al1 a46' l12' bt nW eW nA eA hA nL eL hL no ndx ndxo
    have S6 := S4.same s46
    have k36 := k4.trans (Keep.of s46)
    have eD6 := k36 _ _ nDs eD
    have hv6 := hv.keep k36 S1.at_
    have hends : ∀ b ∈ Bs1, b.1 ∈ P ∧ b.2 ∈ P := fun b hb => g.ends b (hB1.1.mem_iff.mp hb)
    have lB1 : Bs1.length = As.length := hB1.1.length_eq
    have pos : 0 < P.length := by
      obtain ⟨r, hr, _⟩ := g.root
      exact List.length_pos_of_mem hr
    have hfP : ∀ p ∈ P, -10000000000000000000000000000000000000000000000000000 ≤ f p ∧ f p ≤ 10000000000000000000000000000000000000000000000000000 := fun p h => hfb p (hp.mem_iff.mpr h)
    have hpl : Dd 5000 70 (pdL (papD P f)) := (dd_pdL (by rw [List.length_map]; omega)).mono (by decide) (by decide)
    have tn : ∀ {Hx : Hp}, Keep s H6 Hx → NetAt S K Hx o1 Bs1 Ls1 Ms1 P root1 := fun k => hN1.go fun b u hb e => ⟨hb, k _ _ (fun z => hb (by rw [z]; exact S1.at_)) e⟩
    refine ⟨_, rfl, R, _, ((1 : Nat) : Int), .ref D, rfl, rfl, .of (k36 _ _ nRs eR), atI_nat (j := 1) rfl, S, D, P0, P, f, rfl, S6.al, eD6, hp, p64, g.asc.1, fun H7 pv s7 dp => ?_⟩
    refine ⟨_, rfl, _, rfl, S, pv, pdL (papD P f), 5000, 70, rfl, S6.al.same s7, dp, hpl, by decide, by decide, fun H8 cv s8 dc => ?_⟩
    have t8 := s7.trans s8
    refine ⟨S, o1, cv, _, mfD P Bs1 f, Bs1, Ls1, Ms1, P, root1, rfl, tn (Keep.of t8), S6.al.same t8, dc, hpl, .inr ⟨f, rfl, rfl⟩, p64, g.asc.1, by omega, hends, fun H9 b s9 hb => ?_⟩
    obtain rfl := hb.mpr ((hf.fits hB1.1).mf)
    have t9 := t8.trans s9
    refine ⟨S, .bl true, .bl true, .bool true, .bool true, 1000, 0, rfl, S6.al.same t9, .bl _, .bl _, .bl _ _, by decide, by decide, fun H10 c s10 hc => ⟨_, rfl, ?_⟩⟩
    obtain rfl := hc.mpr rfl
    refine ite2 (fun e => absurd e (by decide)) fun _ => ?_
    have t10 := t9.trans s10
    have dp10 := ((dp.same s8).same s9).same s10
    refine ⟨6, rfl, by decide, by decide, ?_⟩
    refine for_range (n := 6) (fun i σ H' => Keep s H6 H' ∧ SO S s H' ∧ Da S H' pv (pdL (papD P f)) ∧ ∃ w4 w : Option V, σ = [some (.ref a), some (.ref s), some (.ref R), some v, w4, some (.ref o1), some pv, w]) ⟨Keep.of t10, S6.so.same t10, dp10, _, _, rfl⟩ ?_ ?_
    · rintro i σ H11 _ ⟨k11, so11, dp11, w4, w, rfl⟩
      refine ⟨_, rfl, _, rfl, _, rfl, _, rfl, S, s, pv, P, f, rfl, S6.keep k11 so11, dp11, pos, p64, g.rng, hfP, fun H12 bv bd k12 so12 hbv hbD => ?_⟩
      have k12' := k11.trans k12
      refine ⟨S, o1, v, bv, bd, As, Bs1, Ls, Ls1, Ms1, P, root1, rfl, (S6.keep k12' so12).al, tn k12', hv6.keep k12' S1.at_, g, hB1, hbv, hbD, fun H13 s13 => ⟨_, rfl, ?_⟩⟩
      exact ite2 (fun e => absurd e (by decide)) fun _ => ⟨k12'.trans (Keep.of s13), so12.same s13, (dp11.keep k12 S1.at_).same s13, _, _, rfl⟩
    rintro σ H11 ⟨k11, so11, dp11, w4, w, rfl⟩
    refine ⟨_, rfl, _, rfl, _, rfl, S, o1, v, pv, _, As, Bs1, Ls, Ls1, Ms1, P, root1, rfl, (S6.keep k11 so11).al, tn k11, hv6.keep k11 S1.at_, g, hB1, dp11, hpl, fun H12 s12 => ⟨_, rfl, ?_⟩⟩
    refine ite2 (fun _ => ?_) fun e => absurd rfl e
    have k12 := k11.trans (Keep.of s12)
    exact ⟨_, rfl, _, rfl, S, o1, v, As, Bs1, Ls, Ls1, Ms1, P, root1, rfl, (S6.keep k12 (so11.same s12)).al, tn k12, hv6.keep k12 S1.at_, g, hB1, hM1, fun H13 s13 => q _⟩
end
set_option maxHeartbeats 0 in
theorem facts {P : Program} {w : World} {K : PySem.W.Frag} {h : Heap} {mg : Str → Option Value} {f : Addr} (X : K.In h) (G : h.Ns mainGlobals mg) (hfa : mg ("law" : Str) = some (.ref f)) (cx : SaysX faL fnL tsL psL ckL w K) :
    ∃ fd : FuncData, (∀ (s : Shared) (v : Value), BindsTo s fd ⟨[v], []⟩ [("script", v)]) ∧ ∀ base : Heap, K.In base → base.Ns mainGlobals mg → FnOk P w K mg base CX0 73 f fd ["script"] (sp_law K) := by
  have c := cx.t.d
  have hck := cx.test
  unfold ckL at hck
  simp only [Bool.and_eq_true] at hck
  obtain ⟨h1, h2, h3, h4, h5, h6, h7, h8⟩ := hck
  have T : Txt w K mg := ⟨He.free_ok X G (c.fact 62 (f := .free "len") rfl), He.int_ok X G (c.fact 63 (f := .int "LONGEST_NAME" 8) rfl), He.free_ok X G (c.fact 64 (f := .free "isinstance") rfl), He.free_ok X G (c.fact 65 (f := .free "str") rfl), He.free_ok X G (c.fact 66 (f := .free "all") rfl), He.str_ok X G (c.fact 67 (f := .str "LETTERS" "abcdefghijklmnopqrstuvwxyz") rfl), He.str_ok X G (c.fact 68 (f := .str "DIGITS" "0123456789") rfl), He.free_ok X G (c.fact 69 (f := .free "bool") rfl), He.free_ok X G (c.fact 70 (f := .free "int") rfl), He.int_ok X G (c.fact 71 (f := .int "LAST_PLACE" 9999) rfl), He.free_ok X G (c.fact 72 (f := .free "tuple") rfl), He.free_ok X G (c.fact 73 (f := .free "sorted") rfl), He.free_ok X G (c.fact 74 (f := .free "set") rfl), He.free_ok X G (c.fact 75 (f := .free "list") rfl), He.int_ok X G (c.fact 76 (f := .int "MOST_LEAVES" 12) rfl), He.int_ok X G (c.fact 77 (f := .int "MOST_ARROWS" 46) rfl), He.free_ok X G (c.fact 78 (f := .free "enumerate") rfl), He.free_ok X G (c.fact 79 (f := .free "range") rfl), ⟨He.glo_ok X G (c.fact 80 (f := .glo "DEGREES") rfl), tup2B_ok (by decide) (by decide) h1⟩, He.int_ok X G (c.fact 81 (f := .int "MOST_MIXINGS" 8) rfl), ⟨He.glo_ok X G (c.fact 82 (f := .glo "LIST_FAULTS") rfl), ktab_of (cx.keys 0 rfl) (by decide), refsB_ok h3, kdct_of (cx.keys 0 rfl) h2 (q := ("long", .glo "_long_lists")) (by simp), He.glo_ok X G (c.fact 9 (f := .glo "_long_lists") rfl), kdct_of (cx.keys 0 rfl) h2 (q := ("arrow", .glo "_bad_arrows")) (by simp), He.glo_ok X G (c.fact 10 (f := .glo "_bad_arrows") rfl), kdct_of (cx.keys 0 rfl) h2 (q := ("leaf", .glo "_bad_leaves")) (by simp), He.glo_ok X G (c.fact 11 (f := .glo "_bad_leaves") rfl), kdct_of (cx.keys 0 rfl) h2 (q := ("name", .glo "_bad_names")) (by simp), He.glo_ok X G (c.fact 12 (f := .glo "_bad_names") rfl), kdct_of (cx.keys 0 rfl) h2 (q := ("again", .glo "_leaves_again")) (by simp), He.glo_ok X G (c.fact 13 (f := .glo "_leaves_again") rfl), kdct_of (cx.keys 0 rfl) h2 (q := ("double", .glo "_arrows_again")) (by simp), He.glo_ok X G (c.fact 14 (f := .glo "_arrows_again") rfl), kdct_of (cx.keys 0 rfl) h2 (q := ("none", .glo "_no_leaves")) (by simp), He.glo_ok X G (c.fact 15 (f := .glo "_no_leaves") rfl)⟩, ⟨He.glo_ok X G (c.fact 83 (f := .glo "PLACE_FAULTS") rfl), ktab_of (cx.keys 1 rfl) (by decide), refsB_ok h5, kdct_of (cx.keys 1 rfl) h4 (q := ("degree", .glo "_bad_degrees")) (by simp), He.glo_ok X G (c.fact 16 (f := .glo "_bad_degrees") rfl), kdct_of (cx.keys 1 rfl) h4 (q := ("roots", .glo "_bad_roots")) (by simp), He.glo_ok X G (c.fact 17 (f := .glo "_bad_roots") rfl), kdct_of (cx.keys 1 rfl) h4 (q := ("ring", .glo "_ring_places")) (by simp), He.glo_ok X G (c.fact 18 (f := .glo "_ring_places") rfl), kdct_of (cx.keys 1 rfl) h4 (q := ("label", .glo "_bad_labels")) (by simp), He.glo_ok X G (c.fact 19 (f := .glo "_bad_labels") rfl), kdct_of (cx.keys 1 rfl) h4 (q := ("mixings", .glo "_too_many_mixings")) (by simp), He.glo_ok X G (c.fact 20 (f := .glo "_too_many_mixings") rfl)⟩, ⟨He.glo_ok X G (c.fact 84 (f := .glo "MOMENT_FAULTS") rfl), ktab_of (cx.keys 2 rfl) (by decide), refsB_ok h7, kdct_of (cx.keys 2 rfl) h6 (q := ("back", .glo "_back_arrows")) (by simp), He.glo_ok X G (c.fact 24 (f := .glo "_back_arrows") rfl), kdct_of (cx.keys 2 rfl) h6 (q := ("gift", .glo "_bad_gifts")) (by simp), He.glo_ok X G (c.fact 25 (f := .glo "_bad_gifts") rfl), kdct_of (cx.keys 2 rfl) h6 (q := ("late", .glo "_late_places")) (by simp), He.glo_ok X G (c.fact 26 (f := .glo "_late_places") rfl)⟩, He.free_ok X G (c.fact 85 (f := .free "dict") rfl), He.free_ok X G (c.fact 86 (f := .free "max") rfl), He.free_ok X G (c.fact 87 (f := .free "abs") rfl), He.cls_ok (c.fact 88 (f := .cls "Net") rfl), (fun f hf => by
    simp only [List.mem_cons, List.not_mem_nil, or_false] at hf
    rcases hf with rfl | rfl | rfl | rfl | rfl | rfl | rfl | rfl
    · exact He.noat_ok (c.fact 89 (f := .noat "Net" "_arrows") rfl)
    · exact He.noat_ok (c.fact 90 (f := .noat "Net" "_leaves") rfl)
    · exact He.noat_ok (c.fact 91 (f := .noat "Net" "_mothers") rfl)
    · exact He.noat_ok (c.fact 92 (f := .noat "Net" "_children") rfl)
    · exact He.noat_ok (c.fact 93 (f := .noat "Net" "_name_at") rfl)
    · exact He.noat_ok (c.fact 94 (f := .noat "Net" "_place_at") rfl)
    · exact He.noat_ok (c.fact 95 (f := .noat "Net" "_names") rfl)
    · exact He.noat_ok (c.fact 96 (f := .noat "Net" "_root") rfl)), He.glo_ok X G (c.fact 97 (f := .glo "Net") rfl), insXB_ok (He.cls_ok (c.fact 88 (f := .cls "Net") rfl)) h8⟩
  obtain ⟨fd0, F0⟩ := c.def_ 73 (d := d_law) rfl
  have e := hfa.symm.trans (He.glo_ok X G (c.fact 61 (f := .glo "law") rfl))
  cases e
  have b := FunD.bindsA (ps := ["script"]) F0 fun _ _ _ _ _ _ us hl => match us, hl with | [_], _ => rfl
  refine ⟨fd0, fun s v => b s [v] rfl, fun base _ _ => ?_⟩
  obtain ⟨fd_is_name, FD_is_name⟩ := c.def_ 0 (d := d_is_name) rfl
  have F_is_name : Fun K "is_name" "is_name" s_is_name (He.fAd K d_is_name.at_) fd_is_name := fun_of FD_is_name
  have b_is_name : Binds K fd_is_name ["value"] [] := FD_is_name.bindsN fun _ _ _ _ _ _ us hl => match us, hl with | [_], _ => rfl
  have kb_is_name : KBn K fd_is_name ["value"] 0 ["value"] (fun _ ws => ws) (fun _ zs => zs) := kbn_of F_is_name fun _ _ _ _ _ _ ws hl => match ws, hl with | [_], _ => rfl
  have O_is_name : Own P w K mg base 1 "is_name" ["value"] (sp_is_name) := Own.mk' F_is_name (ok_is_name (k := 0) F_is_name T ) (He.glo_ok X G (c.fact 0 (f := .glo "is_name") rfl)) b_is_name kb_is_name
  obtain ⟨fd_is_whole, FD_is_whole⟩ := c.def_ 1 (d := d_is_whole) rfl
  have F_is_whole : Fun K "is_whole" "is_whole" s_is_whole (He.fAd K d_is_whole.at_) fd_is_whole := fun_of FD_is_whole
  have b_is_whole : Binds K fd_is_whole ["value"] [] := FD_is_whole.bindsN fun _ _ _ _ _ _ us hl => match us, hl with | [_], _ => rfl
  have kb_is_whole : KBn K fd_is_whole ["value"] 0 ["value"] (fun _ ws => ws) (fun _ zs => zs) := kbn_of F_is_whole fun _ _ _ _ _ _ ws hl => match ws, hl with | [_], _ => rfl
  have O_is_whole : Own P w K mg base 1 "is_whole" ["value"] (sp_is_whole) := Own.mk' F_is_whole (ok_is_whole (k := 0) F_is_whole T ) (He.glo_ok X G (c.fact 1 (f := .glo "is_whole") rfl)) b_is_whole kb_is_whole
  obtain ⟨fd_is_place, FD_is_place⟩ := c.def_ 2 (d := d_is_place) rfl
  have F_is_place : Fun K "is_place" "is_place" s_is_place (He.fAd K d_is_place.at_) fd_is_place := fun_of FD_is_place
  have b_is_place : Binds K fd_is_place ["value"] [] := FD_is_place.bindsN fun _ _ _ _ _ _ us hl => match us, hl with | [_], _ => rfl
  have kb_is_place : KBn K fd_is_place ["value"] 0 ["value"] (fun _ ws => ws) (fun _ zs => zs) := kbn_of F_is_place fun _ _ _ _ _ _ ws hl => match ws, hl with | [_], _ => rfl
  have O_is_place : Own P w K mg base 2 "is_place" ["value"] (sp_is_place) := Own.mk' F_is_place (ok_is_place (k := 1) F_is_place T (O_is_whole.up (by decide))) (He.glo_ok X G (c.fact 2 (f := .glo "is_place") rfl)) b_is_place kb_is_place
  obtain ⟨fd_is_whole_pair, FD_is_whole_pair⟩ := c.def_ 3 (d := d_is_whole_pair) rfl
  have F_is_whole_pair : Fun K "is_whole_pair" "is_whole_pair" s_is_whole_pair (He.fAd K d_is_whole_pair.at_) fd_is_whole_pair := fun_of FD_is_whole_pair
  have b_is_whole_pair : Binds K fd_is_whole_pair ["value"] [] := FD_is_whole_pair.bindsN fun _ _ _ _ _ _ us hl => match us, hl with | [_], _ => rfl
  have kb_is_whole_pair : KBn K fd_is_whole_pair ["value"] 0 ["value"] (fun _ ws => ws) (fun _ zs => zs) := kbn_of F_is_whole_pair fun _ _ _ _ _ _ ws hl => match ws, hl with | [_], _ => rfl
  have O_is_whole_pair : Own P w K mg base 2 "is_whole_pair" ["value"] (sp_is_whole_pair) := Own.mk' F_is_whole_pair (ok_is_whole_pair (k := 1) F_is_whole_pair T (O_is_whole.up (by decide))) (He.glo_ok X G (c.fact 3 (f := .glo "is_whole_pair") rfl)) b_is_whole_pair kb_is_whole_pair
  obtain ⟨fd_is_place_pair, FD_is_place_pair⟩ := c.def_ 4 (d := d_is_place_pair) rfl
  have F_is_place_pair : Fun K "is_place_pair" "is_place_pair" s_is_place_pair (He.fAd K d_is_place_pair.at_) fd_is_place_pair := fun_of FD_is_place_pair
  have b_is_place_pair : Binds K fd_is_place_pair ["value"] [] := FD_is_place_pair.bindsN fun _ _ _ _ _ _ us hl => match us, hl with | [_], _ => rfl
  have kb_is_place_pair : KBn K fd_is_place_pair ["value"] 0 ["value"] (fun _ ws => ws) (fun _ zs => zs) := kbn_of F_is_place_pair fun _ _ _ _ _ _ ws hl => match ws, hl with | [_], _ => rfl
  have O_is_place_pair : Own P w K mg base 3 "is_place_pair" ["value"] (sp_is_place_pair) := Own.mk' F_is_place_pair (ok_is_place_pair (k := 2) F_is_place_pair T (O_is_place.up (by decide))) (He.glo_ok X G (c.fact 4 (f := .glo "is_place_pair") rfl)) b_is_place_pair kb_is_place_pair
  obtain ⟨fd_is_labelled_place, FD_is_labelled_place⟩ := c.def_ 5 (d := d_is_labelled_place) rfl
  have F_is_labelled_place : Fun K "_is_labelled_place" "_is_labelled_place" s_is_labelled_place (He.fAd K d_is_labelled_place.at_) fd_is_labelled_place := fun_of FD_is_labelled_place
  have b_is_labelled_place : Binds K fd_is_labelled_place ["value"] [] := FD_is_labelled_place.bindsN fun _ _ _ _ _ _ us hl => match us, hl with | [_], _ => rfl
  have kb_is_labelled_place : KBn K fd_is_labelled_place ["value"] 0 ["value"] (fun _ ws => ws) (fun _ zs => zs) := kbn_of F_is_labelled_place fun _ _ _ _ _ _ ws hl => match ws, hl with | [_], _ => rfl
  have O_is_labelled_place : Own P w K mg base 3 "_is_labelled_place" ["value"] (sp_is_labelled_place) := Own.mk' F_is_labelled_place (ok_is_labelled_place (k := 2) F_is_labelled_place T (O_is_place.up (by decide))) (He.glo_ok X G (c.fact 5 (f := .glo "_is_labelled_place") rfl)) b_is_labelled_place kb_is_labelled_place
  obtain ⟨fd_all_places, FD_all_places⟩ := c.def_ 6 (d := d_all_places) rfl
  have F_all_places : Fun K "all_places" "all_places" s_all_places (He.fAd K d_all_places.at_) fd_all_places := fun_of FD_all_places
  have b_all_places : Binds K fd_all_places ["arrows", "leaves"] [] := FD_all_places.bindsN fun _ _ _ _ _ _ us hl => match us, hl with | [_, _], _ => rfl
  have kb_all_places : KBn K fd_all_places ["arrows", "leaves"] 0 ["arrows", "leaves"] (fun _ ws => ws) (fun _ zs => zs) := kbn_of F_all_places fun _ _ _ _ _ _ ws hl => match ws, hl with | [_, _], _ => rfl
  have O_all_places : Own P w K mg base 1 "all_places" ["arrows", "leaves"] (sp_all_places) := Own.mk' F_all_places (ok_all_places (k := 0) F_all_places T ) (He.glo_ok X G (c.fact 6 (f := .glo "all_places") rfl)) b_all_places kb_all_places
  obtain ⟨fd_relatives, FD_relatives⟩ := c.def_ 7 (d := d_relatives) rfl
  have F_relatives : Fun K "relatives" "relatives" s_relatives (He.fAd K d_relatives.at_) fd_relatives := fun_of FD_relatives
  have b_relatives : Binds K fd_relatives ["arrows", "leaves"] [] := FD_relatives.bindsN fun _ _ _ _ _ _ us hl => match us, hl with | [_, _], _ => rfl
  have kb_relatives : KBn K fd_relatives ["arrows", "leaves"] 0 ["arrows", "leaves"] (fun _ ws => ws) (fun _ zs => zs) := kbn_of F_relatives fun _ _ _ _ _ _ ws hl => match ws, hl with | [_, _], _ => rfl
  have O_relatives : Own P w K mg base 2 "relatives" ["arrows", "leaves"] (sp_relatives) := Own.mk' F_relatives (ok_relatives (k := 1) F_relatives T (O_all_places.up (by decide))) (He.glo_ok X G (c.fact 7 (f := .glo "relatives") rfl)) b_relatives kb_relatives
  obtain ⟨fd_places_below, FD_places_below⟩ := c.def_ 8 (d := d_places_below) rfl
  have F_places_below : Fun K "places_below" "places_below" s_places_below (He.fAd K d_places_below.at_) fd_places_below := fun_of FD_places_below
  have b_places_below : Binds K fd_places_below ["place", "children"] [] := FD_places_below.bindsN fun _ _ _ _ _ _ us hl => match us, hl with | [_, _], _ => rfl
  have kb_places_below : KBn K fd_places_below ["place", "children"] 0 ["place", "children"] (fun _ ws => ws) (fun _ zs => zs) := kbn_of F_places_below fun _ _ _ _ _ _ ws hl => match ws, hl with | [_, _], _ => rfl
  have O_places_below : Own P w K mg base 1 "places_below" ["place", "children"] (sp_places_below) := Own.mk' F_places_below (ok_places_below (k := 0) F_places_below T ) (He.glo_ok X G (c.fact 8 (f := .glo "places_below") rfl)) b_places_below kb_places_below
  obtain ⟨fd_long_lists, FD_long_lists⟩ := c.def_ 9 (d := d_long_lists) rfl
  have F_long_lists : Fun K "_long_lists" "_long_lists" s_long_lists (He.fAd K d_long_lists.at_) fd_long_lists := fun_of FD_long_lists
  have b_long_lists : Binds K fd_long_lists ["arrows", "leaves"] [] := FD_long_lists.bindsN fun _ _ _ _ _ _ us hl => match us, hl with | [_, _], _ => rfl
  have kb_long_lists : KBn K fd_long_lists ["arrows", "leaves"] 0 ["arrows", "leaves"] (fun _ ws => ws) (fun _ zs => zs) := kbn_of F_long_lists fun _ _ _ _ _ _ ws hl => match ws, hl with | [_, _], _ => rfl
  have O_long_lists : Own P w K mg base 1 "_long_lists" ["arrows", "leaves"] (sp_long_lists) := Own.mk' F_long_lists (ok_long_lists (k := 0) F_long_lists T ) (He.glo_ok X G (c.fact 9 (f := .glo "_long_lists") rfl)) b_long_lists kb_long_lists
  obtain ⟨fd_bad_arrows, FD_bad_arrows⟩ := c.def_ 10 (d := d_bad_arrows) rfl
  have F_bad_arrows : Fun K "_bad_arrows" "_bad_arrows" s_bad_arrows (He.fAd K d_bad_arrows.at_) fd_bad_arrows := fun_of FD_bad_arrows
  have b_bad_arrows : Binds K fd_bad_arrows ["arrows", "leaves"] [] := FD_bad_arrows.bindsN fun _ _ _ _ _ _ us hl => match us, hl with | [_, _], _ => rfl
  have kb_bad_arrows : KBn K fd_bad_arrows ["arrows", "leaves"] 0 ["arrows", "leaves"] (fun _ ws => ws) (fun _ zs => zs) := kbn_of F_bad_arrows fun _ _ _ _ _ _ ws hl => match ws, hl with | [_, _], _ => rfl
  have O_bad_arrows : Own P w K mg base 4 "_bad_arrows" ["arrows", "leaves"] (sp_bad_arrows) := Own.mk' F_bad_arrows (ok_bad_arrows (k := 3) F_bad_arrows T (O_is_place_pair.up (by decide))) (He.glo_ok X G (c.fact 10 (f := .glo "_bad_arrows") rfl)) b_bad_arrows kb_bad_arrows
  obtain ⟨fd_bad_leaves, FD_bad_leaves⟩ := c.def_ 11 (d := d_bad_leaves) rfl
  have F_bad_leaves : Fun K "_bad_leaves" "_bad_leaves" s_bad_leaves (He.fAd K d_bad_leaves.at_) fd_bad_leaves := fun_of FD_bad_leaves
  have b_bad_leaves : Binds K fd_bad_leaves ["arrows", "leaves"] [] := FD_bad_leaves.bindsN fun _ _ _ _ _ _ us hl => match us, hl with | [_, _], _ => rfl
  have kb_bad_leaves : KBn K fd_bad_leaves ["arrows", "leaves"] 0 ["arrows", "leaves"] (fun _ ws => ws) (fun _ zs => zs) := kbn_of F_bad_leaves fun _ _ _ _ _ _ ws hl => match ws, hl with | [_, _], _ => rfl
  have O_bad_leaves : Own P w K mg base 4 "_bad_leaves" ["arrows", "leaves"] (sp_bad_leaves) := Own.mk' F_bad_leaves (ok_bad_leaves (k := 3) F_bad_leaves T (O_is_labelled_place.up (by decide))) (He.glo_ok X G (c.fact 11 (f := .glo "_bad_leaves") rfl)) b_bad_leaves kb_bad_leaves
  obtain ⟨fd_bad_names, FD_bad_names⟩ := c.def_ 12 (d := d_bad_names) rfl
  have F_bad_names : Fun K "_bad_names" "_bad_names" s_bad_names (He.fAd K d_bad_names.at_) fd_bad_names := fun_of FD_bad_names
  have b_bad_names : Binds K fd_bad_names ["arrows", "leaves"] [] := FD_bad_names.bindsN fun _ _ _ _ _ _ us hl => match us, hl with | [_, _], _ => rfl
  have kb_bad_names : KBn K fd_bad_names ["arrows", "leaves"] 0 ["arrows", "leaves"] (fun _ ws => ws) (fun _ zs => zs) := kbn_of F_bad_names fun _ _ _ _ _ _ ws hl => match ws, hl with | [_, _], _ => rfl
  have O_bad_names : Own P w K mg base 2 "_bad_names" ["arrows", "leaves"] (sp_bad_names) := Own.mk' F_bad_names (ok_bad_names (k := 1) F_bad_names T (O_is_name.up (by decide))) (He.glo_ok X G (c.fact 12 (f := .glo "_bad_names") rfl)) b_bad_names kb_bad_names
  obtain ⟨fd_leaves_again, FD_leaves_again⟩ := c.def_ 13 (d := d_leaves_again) rfl
  have F_leaves_again : Fun K "_leaves_again" "_leaves_again" s_leaves_again (He.fAd K d_leaves_again.at_) fd_leaves_again := fun_of FD_leaves_again
  have b_leaves_again : Binds K fd_leaves_again ["arrows", "leaves"] [] := FD_leaves_again.bindsN fun _ _ _ _ _ _ us hl => match us, hl with | [_, _], _ => rfl
  have kb_leaves_again : KBn K fd_leaves_again ["arrows", "leaves"] 0 ["arrows", "leaves"] (fun _ ws => ws) (fun _ zs => zs) := kbn_of F_leaves_again fun _ _ _ _ _ _ ws hl => match ws, hl with | [_, _], _ => rfl
  have O_leaves_again : Own P w K mg base 1 "_leaves_again" ["arrows", "leaves"] (sp_leaves_again) := Own.mk' F_leaves_again (ok_leaves_again (k := 0) F_leaves_again T ) (He.glo_ok X G (c.fact 13 (f := .glo "_leaves_again") rfl)) b_leaves_again kb_leaves_again
  obtain ⟨fd_arrows_again, FD_arrows_again⟩ := c.def_ 14 (d := d_arrows_again) rfl
  have F_arrows_again : Fun K "_arrows_again" "_arrows_again" s_arrows_again (He.fAd K d_arrows_again.at_) fd_arrows_again := fun_of FD_arrows_again
  have b_arrows_again : Binds K fd_arrows_again ["arrows", "leaves"] [] := FD_arrows_again.bindsN fun _ _ _ _ _ _ us hl => match us, hl with | [_, _], _ => rfl
  have kb_arrows_again : KBn K fd_arrows_again ["arrows", "leaves"] 0 ["arrows", "leaves"] (fun _ ws => ws) (fun _ zs => zs) := kbn_of F_arrows_again fun _ _ _ _ _ _ ws hl => match ws, hl with | [_, _], _ => rfl
  have O_arrows_again : Own P w K mg base 1 "_arrows_again" ["arrows", "leaves"] (sp_arrows_again) := Own.mk' F_arrows_again (ok_arrows_again (k := 0) F_arrows_again T ) (He.glo_ok X G (c.fact 14 (f := .glo "_arrows_again") rfl)) b_arrows_again kb_arrows_again
  obtain ⟨fd_no_leaves, FD_no_leaves⟩ := c.def_ 15 (d := d_no_leaves) rfl
  have F_no_leaves : Fun K "_no_leaves" "_no_leaves" s_no_leaves (He.fAd K d_no_leaves.at_) fd_no_leaves := fun_of FD_no_leaves
  have b_no_leaves : Binds K fd_no_leaves ["arrows", "leaves"] [] := FD_no_leaves.bindsN fun _ _ _ _ _ _ us hl => match us, hl with | [_, _], _ => rfl
  have kb_no_leaves : KBn K fd_no_leaves ["arrows", "leaves"] 0 ["arrows", "leaves"] (fun _ ws => ws) (fun _ zs => zs) := kbn_of F_no_leaves fun _ _ _ _ _ _ ws hl => match ws, hl with | [_, _], _ => rfl
  have O_no_leaves : Own P w K mg base 1 "_no_leaves" ["arrows", "leaves"] (sp_no_leaves) := Own.mk' F_no_leaves (ok_no_leaves (k := 0) F_no_leaves T ) (He.glo_ok X G (c.fact 15 (f := .glo "_no_leaves") rfl)) b_no_leaves kb_no_leaves
  obtain ⟨fd_bad_degrees, FD_bad_degrees⟩ := c.def_ 16 (d := d_bad_degrees) rfl
  have F_bad_degrees : Fun K "_bad_degrees" "_bad_degrees" s_bad_degrees (He.fAd K d_bad_degrees.at_) fd_bad_degrees := fun_of FD_bad_degrees
  have b_bad_degrees : Binds K fd_bad_degrees ["mothers", "children", "labelled"] [] := FD_bad_degrees.bindsN fun _ _ _ _ _ _ us hl => match us, hl with | [_, _, _], _ => rfl
  have kb_bad_degrees : KBn K fd_bad_degrees ["mothers", "children", "labelled"] 0 ["mothers", "children", "labelled"] (fun _ ws => ws) (fun _ zs => zs) := kbn_of F_bad_degrees fun _ _ _ _ _ _ ws hl => match ws, hl with | [_, _, _], _ => rfl
  have O_bad_degrees : Own P w K mg base 1 "_bad_degrees" ["mothers", "children", "labelled"] (sp_bad_degrees) := Own.mk' F_bad_degrees (ok_bad_degrees (k := 0) F_bad_degrees T ) (He.glo_ok X G (c.fact 16 (f := .glo "_bad_degrees") rfl)) b_bad_degrees kb_bad_degrees
  obtain ⟨fd_bad_roots, FD_bad_roots⟩ := c.def_ 17 (d := d_bad_roots) rfl
  have F_bad_roots : Fun K "_bad_roots" "_bad_roots" s_bad_roots (He.fAd K d_bad_roots.at_) fd_bad_roots := fun_of FD_bad_roots
  have b_bad_roots : Binds K fd_bad_roots ["mothers", "children", "labelled"] [] := FD_bad_roots.bindsN fun _ _ _ _ _ _ us hl => match us, hl with | [_, _, _], _ => rfl
  have kb_bad_roots : KBn K fd_bad_roots ["mothers", "children", "labelled"] 0 ["mothers", "children", "labelled"] (fun _ ws => ws) (fun _ zs => zs) := kbn_of F_bad_roots fun _ _ _ _ _ _ ws hl => match ws, hl with | [_, _, _], _ => rfl
  have O_bad_roots : Own P w K mg base 1 "_bad_roots" ["mothers", "children", "labelled"] (sp_bad_roots) := Own.mk' F_bad_roots (ok_bad_roots (k := 0) F_bad_roots T ) (He.glo_ok X G (c.fact 17 (f := .glo "_bad_roots") rfl)) b_bad_roots kb_bad_roots
  obtain ⟨fd_ring_places, FD_ring_places⟩ := c.def_ 18 (d := d_ring_places) rfl
  have F_ring_places : Fun K "_ring_places" "_ring_places" s_ring_places (He.fAd K d_ring_places.at_) fd_ring_places := fun_of FD_ring_places
  have b_ring_places : Binds K fd_ring_places ["mothers", "children", "labelled"] [] := FD_ring_places.bindsN fun _ _ _ _ _ _ us hl => match us, hl with | [_, _, _], _ => rfl
  have kb_ring_places : KBn K fd_ring_places ["mothers", "children", "labelled"] 0 ["mothers", "children", "labelled"] (fun _ ws => ws) (fun _ zs => zs) := kbn_of F_ring_places fun _ _ _ _ _ _ ws hl => match ws, hl with | [_, _, _], _ => rfl
  have O_ring_places : Own P w K mg base 2 "_ring_places" ["mothers", "children", "labelled"] (sp_ring_places) := Own.mk' F_ring_places (ok_ring_places (k := 1) F_ring_places T (O_places_below.up (by decide))) (He.glo_ok X G (c.fact 18 (f := .glo "_ring_places") rfl)) b_ring_places kb_ring_places
  obtain ⟨fd_bad_labels, FD_bad_labels⟩ := c.def_ 19 (d := d_bad_labels) rfl
  have F_bad_labels : Fun K "_bad_labels" "_bad_labels" s_bad_labels (He.fAd K d_bad_labels.at_) fd_bad_labels := fun_of FD_bad_labels
  have b_bad_labels : Binds K fd_bad_labels ["mothers", "children", "labelled"] [] := FD_bad_labels.bindsN fun _ _ _ _ _ _ us hl => match us, hl with | [_, _, _], _ => rfl
  have kb_bad_labels : KBn K fd_bad_labels ["mothers", "children", "labelled"] 0 ["mothers", "children", "labelled"] (fun _ ws => ws) (fun _ zs => zs) := kbn_of F_bad_labels fun _ _ _ _ _ _ ws hl => match ws, hl with | [_, _, _], _ => rfl
  have O_bad_labels : Own P w K mg base 1 "_bad_labels" ["mothers", "children", "labelled"] (sp_bad_labels) := Own.mk' F_bad_labels (ok_bad_labels (k := 0) F_bad_labels T ) (He.glo_ok X G (c.fact 19 (f := .glo "_bad_labels") rfl)) b_bad_labels kb_bad_labels
  obtain ⟨fd_too_many_mixings, FD_too_many_mixings⟩ := c.def_ 20 (d := d_too_many_mixings) rfl
  have F_too_many_mixings : Fun K "_too_many_mixings" "_too_many_mixings" s_too_many_mixings (He.fAd K d_too_many_mixings.at_) fd_too_many_mixings := fun_of FD_too_many_mixings
  have b_too_many_mixings : Binds K fd_too_many_mixings ["mothers", "children", "labelled"] [] := FD_too_many_mixings.bindsN fun _ _ _ _ _ _ us hl => match us, hl with | [_, _, _], _ => rfl
  have kb_too_many_mixings : KBn K fd_too_many_mixings ["mothers", "children", "labelled"] 0 ["mothers", "children", "labelled"] (fun _ ws => ws) (fun _ zs => zs) := kbn_of F_too_many_mixings fun _ _ _ _ _ _ ws hl => match ws, hl with | [_, _, _], _ => rfl
  have O_too_many_mixings : Own P w K mg base 1 "_too_many_mixings" ["mothers", "children", "labelled"] (sp_too_many_mixings) := Own.mk' F_too_many_mixings (ok_too_many_mixings (k := 0) F_too_many_mixings T ) (He.glo_ok X G (c.fact 20 (f := .glo "_too_many_mixings") rfl)) b_too_many_mixings kb_too_many_mixings
  obtain ⟨fd_Net_mixings, FD_Net_mixings⟩ := c.def_ 33 (d := d_Net_mixings) rfl
  have F_Net_mixings : Fun K "mixings" "Net.mixings" s_Net_mixings (He.fAd K d_Net_mixings.at_) fd_Net_mixings := fun_of FD_Net_mixings
  have b_Net_mixings : Binds K fd_Net_mixings ["self"] [] := FD_Net_mixings.bindsN fun _ _ _ _ _ _ us hl => match us, hl with | [_], _ => rfl
  have O_Net_mixings : OwnM P w K mg base 1 (He.ga K "Net") "mixings" ["self"] (sp_Net_mixings K) := ⟨⟨He.fAd K d_Net_mixings.at_, fd_Net_mixings, ok_Net_mixings (k := 0) F_Net_mixings T , He.meth_ok (c.fact 98 (f := .meth "Net" "mixings") rfl), b_Net_mixings⟩⟩
  obtain ⟨fd_Net_arrows, FD_Net_arrows⟩ := c.def_ 34 (d := d_Net_arrows) rfl
  have F_Net_arrows : Fun K "arrows" "Net.arrows" s_Net_arrows (He.fAd K d_Net_arrows.at_) fd_Net_arrows := fun_of FD_Net_arrows
  have b_Net_arrows : Binds K fd_Net_arrows ["self"] [] := FD_Net_arrows.bindsN fun _ _ _ _ _ _ us hl => match us, hl with | [_], _ => rfl
  have O_Net_arrows : OwnM P w K mg base 1 (He.ga K "Net") "arrows" ["self"] (sp_Net_arrows K) := ⟨⟨He.fAd K d_Net_arrows.at_, fd_Net_arrows, ok_Net_arrows (k := 0) F_Net_arrows T , He.meth_ok (c.fact 99 (f := .meth "Net" "arrows") rfl), b_Net_arrows⟩⟩
  obtain ⟨fd_back_arrows, FD_back_arrows⟩ := c.def_ 24 (d := d_back_arrows) rfl
  have F_back_arrows : Fun K "_back_arrows" "_back_arrows" s_back_arrows (He.fAd K d_back_arrows.at_) fd_back_arrows := fun_of FD_back_arrows
  have b_back_arrows : Binds K fd_back_arrows ["net", "times"] [] := FD_back_arrows.bindsN fun _ _ _ _ _ _ us hl => match us, hl with | [_, _], _ => rfl
  have kb_back_arrows : KBn K fd_back_arrows ["net", "times"] 0 ["net", "times"] (fun _ ws => ws) (fun _ zs => zs) := kbn_of F_back_arrows fun _ _ _ _ _ _ ws hl => match ws, hl with | [_, _], _ => rfl
  have O_back_arrows : Own P w K mg base 2 "_back_arrows" ["net", "times"] (sp_back_arrows K) := Own.mk' F_back_arrows (ok_back_arrows (k := 1) F_back_arrows T (O_Net_mixings.up (by decide)) (O_Net_arrows.up (by decide))) (He.glo_ok X G (c.fact 24 (f := .glo "_back_arrows") rfl)) b_back_arrows kb_back_arrows
  obtain ⟨fd_Net__demand, FD_Net__demand⟩ := c.def_ 40 (d := d_Net__demand) rfl
  have F_Net__demand : Fun K "_demand" "Net._demand" s_Net__demand (He.fAd K d_Net__demand.at_) fd_Net__demand := fun_of FD_Net__demand
  have b_Net__demand : Binds K fd_Net__demand ["self", "place"] [] := FD_Net__demand.bindsN fun _ _ _ _ _ _ us hl => match us, hl with | [_, _], _ => rfl
  have O_Net__demand : OwnM P w K mg base 1 (He.ga K "Net") "_demand" ["self", "place"] (sp_Net__demand K) := ⟨⟨He.fAd K d_Net__demand.at_, fd_Net__demand, ok_Net__demand (k := 0) F_Net__demand T , He.meth_ok (c.fact 100 (f := .meth "Net" "_demand") rfl), b_Net__demand⟩⟩
  obtain ⟨fd_Net_mothers, FD_Net_mothers⟩ := c.def_ 37 (d := d_Net_mothers) rfl
  have F_Net_mothers : Fun K "mothers" "Net.mothers" s_Net_mothers (He.fAd K d_Net_mothers.at_) fd_Net_mothers := fun_of FD_Net_mothers
  have b_Net_mothers : Binds K fd_Net_mothers ["self", "place"] [] := FD_Net_mothers.bindsN fun _ _ _ _ _ _ us hl => match us, hl with | [_, _], _ => rfl
  have O_Net_mothers : OwnM P w K mg base 2 (He.ga K "Net") "mothers" ["self", "place"] (sp_Net_mothers K) := ⟨⟨He.fAd K d_Net_mothers.at_, fd_Net_mothers, ok_Net_mothers (k := 1) F_Net_mothers T (O_Net__demand.up (by decide)), He.meth_ok (c.fact 101 (f := .meth "Net" "mothers") rfl), b_Net_mothers⟩⟩
  obtain ⟨fd_bad_gifts, FD_bad_gifts⟩ := c.def_ 25 (d := d_bad_gifts) rfl
  have F_bad_gifts : Fun K "_bad_gifts" "_bad_gifts" s_bad_gifts (He.fAd K d_bad_gifts.at_) fd_bad_gifts := fun_of FD_bad_gifts
  have b_bad_gifts : Binds K fd_bad_gifts ["net", "times"] [] := FD_bad_gifts.bindsN fun _ _ _ _ _ _ us hl => match us, hl with | [_, _], _ => rfl
  have kb_bad_gifts : KBn K fd_bad_gifts ["net", "times"] 0 ["net", "times"] (fun _ ws => ws) (fun _ zs => zs) := kbn_of F_bad_gifts fun _ _ _ _ _ _ ws hl => match ws, hl with | [_, _], _ => rfl
  have O_bad_gifts : Own P w K mg base 3 "_bad_gifts" ["net", "times"] (sp_bad_gifts K) := Own.mk' F_bad_gifts (ok_bad_gifts (k := 2) F_bad_gifts T (O_Net_mixings.up (by decide)) (O_Net_mothers.up (by decide))) (He.glo_ok X G (c.fact 25 (f := .glo "_bad_gifts") rfl)) b_bad_gifts kb_bad_gifts
  obtain ⟨fd_Net_inner, FD_Net_inner⟩ := c.def_ 31 (d := d_Net_inner) rfl
  have F_Net_inner : Fun K "inner" "Net.inner" s_Net_inner (He.fAd K d_Net_inner.at_) fd_Net_inner := fun_of FD_Net_inner
  have b_Net_inner : Binds K fd_Net_inner ["self"] [] := FD_Net_inner.bindsN fun _ _ _ _ _ _ us hl => match us, hl with | [_], _ => rfl
  have O_Net_inner : OwnM P w K mg base 1 (He.ga K "Net") "inner" ["self"] (sp_Net_inner K) := ⟨⟨He.fAd K d_Net_inner.at_, fd_Net_inner, ok_Net_inner (k := 0) F_Net_inner T , He.meth_ok (c.fact 102 (f := .meth "Net" "inner") rfl), b_Net_inner⟩⟩
  obtain ⟨fd_Net_children, FD_Net_children⟩ := c.def_ 38 (d := d_Net_children) rfl
  have F_Net_children : Fun K "children" "Net.children" s_Net_children (He.fAd K d_Net_children.at_) fd_Net_children := fun_of FD_Net_children
  have b_Net_children : Binds K fd_Net_children ["self", "place"] [] := FD_Net_children.bindsN fun _ _ _ _ _ _ us hl => match us, hl with | [_, _], _ => rfl
  have O_Net_children : OwnM P w K mg base 2 (He.ga K "Net") "children" ["self", "place"] (sp_Net_children K) := ⟨⟨He.fAd K d_Net_children.at_, fd_Net_children, ok_Net_children (k := 1) F_Net_children T (O_Net__demand.up (by decide)), He.meth_ok (c.fact 103 (f := .meth "Net" "children") rfl), b_Net_children⟩⟩
  obtain ⟨fd_late_places, FD_late_places⟩ := c.def_ 26 (d := d_late_places) rfl
  have F_late_places : Fun K "_late_places" "_late_places" s_late_places (He.fAd K d_late_places.at_) fd_late_places := fun_of FD_late_places
  have b_late_places : Binds K fd_late_places ["net", "times"] [] := FD_late_places.bindsN fun _ _ _ _ _ _ us hl => match us, hl with | [_, _], _ => rfl
  have kb_late_places : KBn K fd_late_places ["net", "times"] 0 ["net", "times"] (fun _ ws => ws) (fun _ zs => zs) := kbn_of F_late_places fun _ _ _ _ _ _ ws hl => match ws, hl with | [_, _], _ => rfl
  have O_late_places : Own P w K mg base 3 "_late_places" ["net", "times"] (sp_late_places K) := Own.mk' F_late_places (ok_late_places (k := 2) F_late_places T (O_Net_inner.up (by decide)) (O_Net_children.up (by decide))) (He.glo_ok X G (c.fact 26 (f := .glo "_late_places") rfl)) b_late_places kb_late_places
  obtain ⟨fd_first_fault, FD_first_fault⟩ := c.def_ 21 (d := d_first_fault) rfl
  have F_first_fault : Fun K "first_fault" "first_fault" s_first_fault (He.fAd K d_first_fault.at_) fd_first_fault := fun_of FD_first_fault
  have O_first_fault : OwnR P w K mg base 5 "first_fault" (starSp 1 (sp_first_fault K)) := ⟨⟨_, ok_first_fault (k := 4) F_first_fault T (O_long_lists.up (by decide)) (O_bad_arrows.up (by decide)) (O_bad_leaves.up (by decide)) (O_bad_names.up (by decide)) (O_leaves_again.up (by decide)) (O_arrows_again.up (by decide)) (O_no_leaves.up (by decide)) (O_bad_degrees.up (by decide)) (O_bad_roots.up (by decide)) (O_ring_places.up (by decide)) (O_bad_labels.up (by decide)) (O_too_many_mixings.up (by decide)) (O_back_arrows.up (by decide)) (O_bad_gifts.up (by decide)) (O_late_places.up (by decide)), He.glo_ok X G (c.fact 21 (f := .glo "first_fault") rfl), FD_first_fault.kp⟩⟩
  obtain ⟨fd_net_fault, FD_net_fault⟩ := c.def_ 22 (d := d_net_fault) rfl
  have F_net_fault : Fun K "net_fault" "net_fault" s_net_fault (He.fAd K d_net_fault.at_) fd_net_fault := fun_of FD_net_fault
  have b_net_fault : Binds K fd_net_fault ["arrows", "leaves"] [] := FD_net_fault.bindsN fun _ _ _ _ _ _ us hl => match us, hl with | [_, _], _ => rfl
  have kb_net_fault : KBn K fd_net_fault ["arrows", "leaves"] 0 ["arrows", "leaves"] (fun _ ws => ws) (fun _ zs => zs) := kbn_of F_net_fault fun _ _ _ _ _ _ ws hl => match ws, hl with | [_, _], _ => rfl
  have O_net_fault : Own P w K mg base 6 "net_fault" ["arrows", "leaves"] (sp_net_fault K) := Own.mk' F_net_fault (ok_net_fault (k := 5) F_net_fault T (O_first_fault.up (by decide)) (O_relatives.up (by decide))) (He.glo_ok X G (c.fact 22 (f := .glo "net_fault") rfl)) b_net_fault kb_net_fault
  obtain ⟨fd_Net_places, FD_Net_places⟩ := c.def_ 30 (d := d_Net_places) rfl
  have F_Net_places : Fun K "places" "Net.places" s_Net_places (He.fAd K d_Net_places.at_) fd_Net_places := fun_of FD_Net_places
  have b_Net_places : Binds K fd_Net_places ["self"] [] := FD_Net_places.bindsN fun _ _ _ _ _ _ us hl => match us, hl with | [_], _ => rfl
  have O_Net_places : OwnM P w K mg base 1 (He.ga K "Net") "places" ["self"] (sp_Net_places K) := ⟨⟨He.fAd K d_Net_places.at_, fd_Net_places, ok_Net_places (k := 0) F_Net_places T , He.meth_ok (c.fact 104 (f := .meth "Net" "places") rfl), b_Net_places⟩⟩
  obtain ⟨fd_has_form, FD_has_form⟩ := c.def_ 23 (d := d_has_form) rfl
  have F_has_form : Fun K "_has_form" "_has_form" s_has_form (He.fAd K d_has_form.at_) fd_has_form := fun_of FD_has_form
  have b_has_form : Binds K fd_has_form ["net", "paper"] [] := FD_has_form.bindsN fun _ _ _ _ _ _ us hl => match us, hl with | [_, _], _ => rfl
  have kb_has_form : KBn K fd_has_form ["net", "paper"] 0 ["net", "paper"] (fun _ ws => ws) (fun _ zs => zs) := kbn_of F_has_form fun _ _ _ _ _ _ ws hl => match ws, hl with | [_, _], _ => rfl
  have O_has_form : Own P w K mg base 3 "_has_form" ["net", "paper"] (sp_has_form K) := Own.mk' F_has_form (ok_has_form (k := 2) F_has_form T (O_is_whole_pair.up (by decide)) (O_Net_places.up (by decide))) (He.glo_ok X G (c.fact 23 (f := .glo "_has_form") rfl)) b_has_form kb_has_form
  obtain ⟨fd_moment_fault, FD_moment_fault⟩ := c.def_ 27 (d := d_moment_fault) rfl
  have F_moment_fault : Fun K "moment_fault" "moment_fault" s_moment_fault (He.fAd K d_moment_fault.at_) fd_moment_fault := fun_of FD_moment_fault
  have b_moment_fault : Binds K fd_moment_fault ["net", "paper"] [] := FD_moment_fault.bindsN fun _ _ _ _ _ _ us hl => match us, hl with | [_, _], _ => rfl
  have kb_moment_fault : KBn K fd_moment_fault ["net", "paper"] 0 ["net", "paper"] (fun _ ws => ws) (fun _ zs => zs) := kbn_of F_moment_fault fun _ _ _ _ _ _ ws hl => match ws, hl with | [_, _], _ => rfl
  have O_moment_fault : Own P w K mg base 6 "moment_fault" ["net", "paper"] (sp_moment_fault K) := Own.mk' F_moment_fault (ok_moment_fault (k := 5) F_moment_fault T (O_has_form.up (by decide)) (O_first_fault.up (by decide))) (He.glo_ok X G (c.fact 27 (f := .glo "moment_fault") rfl)) b_moment_fault kb_moment_fault
  obtain ⟨fd_is_moments, FD_is_moments⟩ := c.def_ 28 (d := d_is_moments) rfl
  have F_is_moments : Fun K "is_moments" "is_moments" s_is_moments (He.fAd K d_is_moments.at_) fd_is_moments := fun_of FD_is_moments
  have b_is_moments : Binds K fd_is_moments ["net", "paper"] [] := FD_is_moments.bindsN fun _ _ _ _ _ _ us hl => match us, hl with | [_, _], _ => rfl
  have kb_is_moments : KBn K fd_is_moments ["net", "paper"] 0 ["net", "paper"] (fun _ ws => ws) (fun _ zs => zs) := kbn_of F_is_moments fun _ _ _ _ _ _ ws hl => match ws, hl with | [_, _], _ => rfl
  have O_is_moments : Own P w K mg base 7 "is_moments" ["net", "paper"] (sp_is_moments K) := Own.mk' F_is_moments (ok_is_moments (k := 6) F_is_moments T (O_moment_fault.up (by decide))) (He.glo_ok X G (c.fact 28 (f := .glo "is_moments") rfl)) b_is_moments kb_is_moments
  obtain ⟨fd_Net___init, FD_Net___init⟩ := c.def_ 29 (d := d_Net___init) rfl
  have F_Net___init : Fun K "__init__" "Net.__init__" s_Net___init (He.fAd K d_Net___init.at_) fd_Net___init := fun_of FD_Net___init
  have b_Net___init : Binds K fd_Net___init ["self", "arrows", "leaves"] [] := FD_Net___init.bindsN fun _ _ _ _ _ _ us hl => match us, hl with | [_, _, _], _ => rfl
  have O_Net___init : OwnC P w K mg base 8 "Net" (He.ga K "Net") ["self", "arrows", "leaves"] (sp_Net___init K) := ⟨⟨7, He.fAd K d_Net___init.at_, fd_Net___init, Nat.le_refl _, ok_Net___init (k := 6) F_Net___init T (O_net_fault.up (by decide)) (O_relatives.up (by decide)), He.mkr_ok (c.fact 105 (f := .mkr "Net") rfl), He.glo_ok X G (c.fact 97 (f := .glo "Net") rfl), b_Net___init⟩⟩
  obtain ⟨fd_Net_splits, FD_Net_splits⟩ := c.def_ 32 (d := d_Net_splits) rfl
  have F_Net_splits : Fun K "splits" "Net.splits" s_Net_splits (He.fAd K d_Net_splits.at_) fd_Net_splits := fun_of FD_Net_splits
  have b_Net_splits : Binds K fd_Net_splits ["self"] [] := FD_Net_splits.bindsN fun _ _ _ _ _ _ us hl => match us, hl with | [_], _ => rfl
  have O_Net_splits : OwnM P w K mg base 1 (He.ga K "Net") "splits" ["self"] (sp_Net_splits K) := ⟨⟨He.fAd K d_Net_splits.at_, fd_Net_splits, ok_Net_splits (k := 0) F_Net_splits T , He.meth_ok (c.fact 106 (f := .meth "Net" "splits") rfl), b_Net_splits⟩⟩
  obtain ⟨fd_Net_leaves, FD_Net_leaves⟩ := c.def_ 35 (d := d_Net_leaves) rfl
  have F_Net_leaves : Fun K "leaves" "Net.leaves" s_Net_leaves (He.fAd K d_Net_leaves.at_) fd_Net_leaves := fun_of FD_Net_leaves
  have b_Net_leaves : Binds K fd_Net_leaves ["self"] [] := FD_Net_leaves.bindsN fun _ _ _ _ _ _ us hl => match us, hl with | [_], _ => rfl
  have O_Net_leaves : OwnM P w K mg base 1 (He.ga K "Net") "leaves" ["self"] (sp_Net_leaves K) := ⟨⟨He.fAd K d_Net_leaves.at_, fd_Net_leaves, ok_Net_leaves (k := 0) F_Net_leaves T , He.meth_ok (c.fact 107 (f := .meth "Net" "leaves") rfl), b_Net_leaves⟩⟩
  obtain ⟨fd_Net_names, FD_Net_names⟩ := c.def_ 36 (d := d_Net_names) rfl
  have F_Net_names : Fun K "names" "Net.names" s_Net_names (He.fAd K d_Net_names.at_) fd_Net_names := fun_of FD_Net_names
  have b_Net_names : Binds K fd_Net_names ["self"] [] := FD_Net_names.bindsN fun _ _ _ _ _ _ us hl => match us, hl with | [_], _ => rfl
  have O_Net_names : OwnM P w K mg base 1 (He.ga K "Net") "names" ["self"] (sp_Net_names K) := ⟨⟨He.fAd K d_Net_names.at_, fd_Net_names, ok_Net_names (k := 0) F_Net_names T , He.meth_ok (c.fact 108 (f := .meth "Net" "names") rfl), b_Net_names⟩⟩
  obtain ⟨fd_Net___eq, FD_Net___eq⟩ := c.def_ 39 (d := d_Net___eq) rfl
  have F_Net___eq : Fun K "__eq__" "Net.__eq__" s_Net___eq (He.fAd K d_Net___eq.at_) fd_Net___eq := fun_of FD_Net___eq
  have b_Net___eq : Binds K fd_Net___eq ["self", "other"] [] := FD_Net___eq.bindsN fun _ _ _ _ _ _ us hl => match us, hl with | [_, _], _ => rfl
  have O_Net___eq : OwnM P w K mg base 1 (He.ga K "Net") "__eq__" ["self", "other"] (sp_Net___eq K) := ⟨⟨He.fAd K d_Net___eq.at_, fd_Net___eq, ok_Net___eq (k := 0) F_Net___eq T , He.meth_ok (c.fact 109 (f := .meth "Net" "__eq__") rfl), b_Net___eq⟩⟩
  obtain ⟨fd_law_mix, FD_law_mix⟩ := c.def_ 41 (d := d_law_mix) rfl
  have F_law_mix : Fun K "_law_mix" "_law_mix" s_law_mix (He.fAd K d_law_mix.at_) fd_law_mix := fun_of FD_law_mix
  have b_law_mix : Binds K fd_law_mix ["cell", "turn"] [] := FD_law_mix.bindsN fun _ _ _ _ _ _ us hl => match us, hl with | [_, _], _ => rfl
  have kb_law_mix : KBn K fd_law_mix ["cell", "turn"] 0 ["cell", "turn"] (fun _ ws => ws) (fun _ zs => zs) := kbn_of F_law_mix fun _ _ _ _ _ _ ws hl => match ws, hl with | [_, _], _ => rfl
  have O_law_mix : Own P w K mg base 1 "_law_mix" ["cell", "turn"] (sp_law_mix) := Own.mk' F_law_mix (ok_law_mix (k := 0) F_law_mix T ) (He.glo_ok X G (c.fact 29 (f := .glo "_law_mix") rfl)) b_law_mix kb_law_mix
  obtain ⟨fd_law_store, FD_law_store⟩ := c.def_ 42 (d := d_law_store) rfl
  have F_law_store : Fun K "_law_store" "_law_store" s_law_store (He.fAd K d_law_store.at_) fd_law_store := fun_of FD_law_store
  have b_law_store : Binds K fd_law_store ["script"] [] := FD_law_store.bindsN fun _ _ _ _ _ _ us hl => match us, hl with | [_], _ => rfl
  have kb_law_store : KBn K fd_law_store ["script"] 0 ["script"] (fun _ ws => ws) (fun _ zs => zs) := kbn_of F_law_store fun _ _ _ _ _ _ ws hl => match ws, hl with | [_], _ => rfl
  have O_law_store : Own P w K mg base 2 "_law_store" ["script"] (sp_law_store K) := Own.mk' F_law_store (ok_law_store (k := 1) F_law_store T (O_law_mix.up (by decide))) (He.glo_ok X G (c.fact 30 (f := .glo "_law_store") rfl)) b_law_store kb_law_store
  obtain ⟨fd_law_take, FD_law_take⟩ := c.def_ 43 (d := d_law_take) rfl
  have F_law_take : Fun K "_law_take" "_law_take" s_law_take (He.fAd K d_law_take.at_) fd_law_take := fun_of FD_law_take
  have b_law_take : Binds K fd_law_take ["store", "many"] [] := FD_law_take.bindsN fun _ _ _ _ _ _ us hl => match us, hl with | [_, _], _ => rfl
  have kb_law_take : KBn K fd_law_take ["store", "many"] 0 ["store", "many"] (fun _ ws => ws) (fun _ zs => zs) := kbn_of F_law_take fun _ _ _ _ _ _ ws hl => match ws, hl with | [_, _], _ => rfl
  have O_law_take : Own P w K mg base 2 "_law_take" ["store", "many"] (sp_law_take) := Own.mk' F_law_take (ok_law_take (k := 1) F_law_take T (O_law_mix.up (by decide))) (He.glo_ok X G (c.fact 31 (f := .glo "_law_take") rfl)) b_law_take kb_law_take
  obtain ⟨fd_law_pick, FD_law_pick⟩ := c.def_ 44 (d := d_law_pick) rfl
  have F_law_pick : Fun K "_law_pick" "_law_pick" s_law_pick (He.fAd K d_law_pick.at_) fd_law_pick := fun_of FD_law_pick
  have b_law_pick : Binds K fd_law_pick ["store", "things"] [] := FD_law_pick.bindsN fun _ _ _ _ _ _ us hl => match us, hl with | [_, _], _ => rfl
  have kb_law_pick : KBn K fd_law_pick ["store", "things"] 0 ["store", "things"] (fun _ ws => ws) (fun _ zs => zs) := kbn_of F_law_pick fun _ _ _ _ _ _ ws hl => match ws, hl with | [_, _], _ => rfl
  have O_law_pick : Own P w K mg base 3 "_law_pick" ["store", "things"] (sp_law_pick K) := Own.mk' F_law_pick (ok_law_pick (k := 2) F_law_pick T (O_law_take.up (by decide))) (He.glo_ok X G (c.fact 32 (f := .glo "_law_pick") rfl)) b_law_pick kb_law_pick
  obtain ⟨fd_law_mixed, FD_law_mixed⟩ := c.def_ 45 (d := d_law_mixed) rfl
  have F_law_mixed : Fun K "_law_mixed" "_law_mixed" s_law_mixed (He.fAd K d_law_mixed.at_) fd_law_mixed := fun_of FD_law_mixed
  have b_law_mixed : Binds K fd_law_mixed ["store", "things"] [] := FD_law_mixed.bindsN fun _ _ _ _ _ _ us hl => match us, hl with | [_, _], _ => rfl
  have kb_law_mixed : KBn K fd_law_mixed ["store", "things"] 0 ["store", "things"] (fun _ ws => ws) (fun _ zs => zs) := kbn_of F_law_mixed fun _ _ _ _ _ _ ws hl => match ws, hl with | [_, _], _ => rfl
  have O_law_mixed : Own P w K mg base 3 "_law_mixed" ["store", "things"] (sp_law_mixed) := Own.mk' F_law_mixed (ok_law_mixed (k := 2) F_law_mixed T (O_law_take.up (by decide))) (He.glo_ok X G (c.fact 33 (f := .glo "_law_mixed") rfl)) b_law_mixed kb_law_mixed
  obtain ⟨fd_law_number, FD_law_number⟩ := c.def_ 46 (d := d_law_number) rfl
  have F_law_number : Fun K "_law_number" "_law_number" s_law_number (He.fAd K d_law_number.at_) fd_law_number := fun_of FD_law_number
  have b_law_number : Binds K fd_law_number ["store"] [] := FD_law_number.bindsN fun _ _ _ _ _ _ us hl => match us, hl with | [_], _ => rfl
  have kb_law_number : KBn K fd_law_number ["store"] 0 ["store"] (fun _ ws => ws) (fun _ zs => zs) := kbn_of F_law_number fun _ _ _ _ _ _ ws hl => match ws, hl with | [_], _ => rfl
  have O_law_number : Own P w K mg base 4 "_law_number" ["store"] (sp_law_number) := Own.mk' F_law_number (ok_law_number (k := 3) F_law_number T (O_law_take.up (by decide)) (O_law_pick.up (by decide))) (He.glo_ok X G (c.fact 34 (f := .glo "_law_number") rfl)) b_law_number kb_law_number
  obtain ⟨fd_law_same, FD_law_same⟩ := c.def_ 47 (d := d_law_same) rfl
  have F_law_same : Fun K "_law_same" "_law_same" s_law_same (He.fAd K d_law_same.at_) fd_law_same := fun_of FD_law_same
  have b_law_same : Binds K fd_law_same ["given", "due"] [] := FD_law_same.bindsN fun _ _ _ _ _ _ us hl => match us, hl with | [_, _], _ => rfl
  have kb_law_same : KBn K fd_law_same ["given", "due"] 0 ["given", "due"] (fun _ ws => ws) (fun _ zs => zs) := kbn_of F_law_same fun _ _ _ _ _ _ ws hl => match ws, hl with | [_, _], _ => rfl
  have g_law_same := He.glo_ok X G (c.fact 35 (f := .glo "_law_same") rfl)
  have O_law_same : ∀ n : Nat, Own P w K mg base (0 + n) "_law_same" ["given", "due"] (sp_law_same n) := fun n => by
      induction n with
      | zero => exact Own.mk' F_law_same (FnOk.never fun vs H Q E h => by
          obtain ⟨S, x, y, d, e, L, m, rfl, hS, hd, he, hD, hm, hL, q⟩ := h
          omega) g_law_same b_law_same kb_law_same
      | succ n ih => exact Own.mk' F_law_same (ok_law_same (k := 0 + n) F_law_same T ih) g_law_same b_law_same kb_law_same
  obtain ⟨fd_law_copy, FD_law_copy⟩ := c.def_ 48 (d := d_law_copy) rfl
  have F_law_copy : Fun K "_law_copy" "_law_copy" s_law_copy (He.fAd K d_law_copy.at_) fd_law_copy := fun_of FD_law_copy
  have b_law_copy : Binds K fd_law_copy ["value"] [] := FD_law_copy.bindsN fun _ _ _ _ _ _ us hl => match us, hl with | [_], _ => rfl
  have kb_law_copy : KBn K fd_law_copy ["value"] 0 ["value"] (fun _ ws => ws) (fun _ zs => zs) := kbn_of F_law_copy fun _ _ _ _ _ _ ws hl => match ws, hl with | [_], _ => rfl
  have g_law_copy := He.glo_ok X G (c.fact 36 (f := .glo "_law_copy") rfl)
  have O_law_copy : ∀ n : Nat, Own P w K mg base (0 + n) "_law_copy" ["value"] (sp_law_copy n) := fun n => by
      induction n with
      | zero => exact Own.mk' F_law_copy (FnOk.never fun vs H Q E h => by
          obtain ⟨S, x, d, L, m, rfl, hS, hd, hD, hm, hL, q⟩ := h
          omega) g_law_copy b_law_copy kb_law_copy
      | succ n ih => exact Own.mk' F_law_copy (ok_law_copy (k := 0 + n) F_law_copy T ih) g_law_copy b_law_copy kb_law_copy
  obtain ⟨fd_law_whole, FD_law_whole⟩ := c.def_ 49 (d := d_law_whole) rfl
  have F_law_whole : Fun K "_law_whole" "_law_whole" s_law_whole (He.fAd K d_law_whole.at_) fd_law_whole := fun_of FD_law_whole
  have b_law_whole : Binds K fd_law_whole ["value"] [] := FD_law_whole.bindsN fun _ _ _ _ _ _ us hl => match us, hl with | [_], _ => rfl
  have kb_law_whole : KBn K fd_law_whole ["value"] 0 ["value"] (fun _ ws => ws) (fun _ zs => zs) := kbn_of F_law_whole fun _ _ _ _ _ _ ws hl => match ws, hl with | [_], _ => rfl
  have O_law_whole : Own P w K mg base 1 "_law_whole" ["value"] (sp_law_whole) := Own.mk' F_law_whole (ok_law_whole (k := 0) F_law_whole T ) (He.glo_ok X G (c.fact 37 (f := .glo "_law_whole") rfl)) b_law_whole kb_law_whole
  obtain ⟨fd_law_sign, FD_law_sign⟩ := c.def_ 50 (d := d_law_sign) rfl
  have F_law_sign : Fun K "_law_sign" "_law_sign" s_law_sign (He.fAd K d_law_sign.at_) fd_law_sign := fun_of FD_law_sign
  have b_law_sign : Binds K fd_law_sign ["store"] [] := FD_law_sign.bindsN fun _ _ _ _ _ _ us hl => match us, hl with | [_], _ => rfl
  have kb_law_sign : KBn K fd_law_sign ["store"] 0 ["store"] (fun _ ws => ws) (fun _ zs => zs) := kbn_of F_law_sign fun _ _ _ _ _ _ ws hl => match ws, hl with | [_], _ => rfl
  have O_law_sign : Own P w K mg base 4 "_law_sign" ["store"] (sp_law_sign) := Own.mk' F_law_sign (ok_law_sign (k := 3) F_law_sign T (O_law_pick.up (by decide))) (He.glo_ok X G (c.fact 38 (f := .glo "_law_sign") rfl)) b_law_sign kb_law_sign
  obtain ⟨fd_law_string, FD_law_string⟩ := c.def_ 51 (d := d_law_string) rfl
  have F_law_string : Fun K "_law_string" "_law_string" s_law_string (He.fAd K d_law_string.at_) fd_law_string := fun_of FD_law_string
  have b_law_string : Binds K fd_law_string ["store"] [] := FD_law_string.bindsN fun _ _ _ _ _ _ us hl => match us, hl with | [_], _ => rfl
  have kb_law_string : KBn K fd_law_string ["store"] 0 ["store"] (fun _ ws => ws) (fun _ zs => zs) := kbn_of F_law_string fun _ _ _ _ _ _ ws hl => match ws, hl with | [_], _ => rfl
  have O_law_string : Own P w K mg base 5 "_law_string" ["store"] (sp_law_string) := Own.mk' F_law_string (ok_law_string (k := 4) F_law_string T (O_law_take.up (by decide)) (O_law_sign.up (by decide))) (He.glo_ok X G (c.fact 39 (f := .glo "_law_string") rfl)) b_law_string kb_law_string
  obtain ⟨fd_law_atom, FD_law_atom⟩ := c.def_ 52 (d := d_law_atom) rfl
  have F_law_atom : Fun K "_law_atom" "_law_atom" s_law_atom (He.fAd K d_law_atom.at_) fd_law_atom := fun_of FD_law_atom
  have b_law_atom : Binds K fd_law_atom ["store"] [] := FD_law_atom.bindsN fun _ _ _ _ _ _ us hl => match us, hl with | [_], _ => rfl
  have kb_law_atom : KBn K fd_law_atom ["store"] 0 ["store"] (fun _ ws => ws) (fun _ zs => zs) := kbn_of F_law_atom fun _ _ _ _ _ _ ws hl => match ws, hl with | [_], _ => rfl
  have O_law_atom : Own P w K mg base 6 "_law_atom" ["store"] (sp_law_atom) := Own.mk' F_law_atom (ok_law_atom (k := 5) F_law_atom T (O_law_take.up (by decide)) (O_law_number.up (by decide)) (O_law_string.up (by decide)) (O_law_pick.up (by decide))) (He.glo_ok X G (c.fact 40 (f := .glo "_law_atom") rfl)) b_law_atom kb_law_atom
  obtain ⟨fd_law_plain, FD_law_plain⟩ := c.def_ 53 (d := d_law_plain) rfl
  have F_law_plain : Fun K "_law_plain" "_law_plain" s_law_plain (He.fAd K d_law_plain.at_) fd_law_plain := fun_of FD_law_plain
  have b_law_plain : Binds K fd_law_plain ["store"] [] := FD_law_plain.bindsN fun _ _ _ _ _ _ us hl => match us, hl with | [_], _ => rfl
  have kb_law_plain : KBn K fd_law_plain ["store"] 0 ["store"] (fun _ ws => ws) (fun _ zs => zs) := kbn_of F_law_plain fun _ _ _ _ _ _ ws hl => match ws, hl with | [_], _ => rfl
  have O_law_plain : Own P w K mg base 7 "_law_plain" ["store"] (sp_law_plain) := Own.mk' F_law_plain (ok_law_plain (k := 6) F_law_plain T (O_law_take.up (by decide)) (O_law_pick.up (by decide)) (O_law_atom.up (by decide))) (He.glo_ok X G (c.fact 41 (f := .glo "_law_plain") rfl)) b_law_plain kb_law_plain
  obtain ⟨fd_law_all, FD_law_all⟩ := c.def_ 54 (d := d_law_all) rfl
  have F_law_all : Fun K "_law_all" "_law_all" s_law_all (He.fAd K d_law_all.at_) fd_law_all := fun_of FD_law_all
  have b_law_all : Binds K fd_law_all ["net"] [] := FD_law_all.bindsN fun _ _ _ _ _ _ us hl => match us, hl with | [_], _ => rfl
  have kb_law_all : KBn K fd_law_all ["net"] 0 ["net"] (fun _ ws => ws) (fun _ zs => zs) := kbn_of F_law_all fun _ _ _ _ _ _ ws hl => match ws, hl with | [_], _ => rfl
  have O_law_all : Own P w K mg base 1 "_law_all" ["net"] (sp_law_all) := Own.mk' F_law_all (ok_law_all (k := 0) F_law_all T ) (He.glo_ok X G (c.fact 42 (f := .glo "_law_all") rfl)) b_law_all kb_law_all
  obtain ⟨fd_law_ups, FD_law_ups⟩ := c.def_ 55 (d := d_law_ups) rfl
  have F_law_ups : Fun K "_law_ups" "_law_ups" s_law_ups (He.fAd K d_law_ups.at_) fd_law_ups := fun_of FD_law_ups
  have b_law_ups : Binds K fd_law_ups ["net"] [] := FD_law_ups.bindsN fun _ _ _ _ _ _ us hl => match us, hl with | [_], _ => rfl
  have kb_law_ups : KBn K fd_law_ups ["net"] 0 ["net"] (fun _ ws => ws) (fun _ zs => zs) := kbn_of F_law_ups fun _ _ _ _ _ _ ws hl => match ws, hl with | [_], _ => rfl
  have O_law_ups : Own P w K mg base 2 "_law_ups" ["net"] (sp_law_ups) := Own.mk' F_law_ups (ok_law_ups (k := 1) F_law_ups T (O_law_all.up (by decide))) (He.glo_ok X G (c.fact 43 (f := .glo "_law_ups") rfl)) b_law_ups kb_law_ups
  obtain ⟨fd_law_downs, FD_law_downs⟩ := c.def_ 56 (d := d_law_downs) rfl
  have F_law_downs : Fun K "_law_downs" "_law_downs" s_law_downs (He.fAd K d_law_downs.at_) fd_law_downs := fun_of FD_law_downs
  have b_law_downs : Binds K fd_law_downs ["net"] [] := FD_law_downs.bindsN fun _ _ _ _ _ _ us hl => match us, hl with | [_], _ => rfl
  have kb_law_downs : KBn K fd_law_downs ["net"] 0 ["net"] (fun _ ws => ws) (fun _ zs => zs) := kbn_of F_law_downs fun _ _ _ _ _ _ ws hl => match ws, hl with | [_], _ => rfl
  have O_law_downs : Own P w K mg base 2 "_law_downs" ["net"] (sp_law_downs) := Own.mk' F_law_downs (ok_law_downs (k := 1) F_law_downs T (O_law_all.up (by decide))) (He.glo_ok X G (c.fact 44 (f := .glo "_law_downs") rfl)) b_law_downs kb_law_downs
  obtain ⟨fd_law_renamed, FD_law_renamed⟩ := c.def_ 57 (d := d_law_renamed) rfl
  have F_law_renamed : Fun K "_law_renamed" "_law_renamed" s_law_renamed (He.fAd K d_law_renamed.at_) fd_law_renamed := fun_of FD_law_renamed
  have b_law_renamed : Binds K fd_law_renamed ["net", "number"] [] := FD_law_renamed.bindsN fun _ _ _ _ _ _ us hl => match us, hl with | [_, _], _ => rfl
  have kb_law_renamed : KBn K fd_law_renamed ["net", "number"] 0 ["net", "number"] (fun _ ws => ws) (fun _ zs => zs) := kbn_of F_law_renamed fun _ _ _ _ _ _ ws hl => match ws, hl with | [_, _], _ => rfl
  have O_law_renamed : Own P w K mg base 1 "_law_renamed" ["net", "number"] (sp_law_renamed) := Own.mk' F_law_renamed (ok_law_renamed (k := 0) F_law_renamed T ) (He.glo_ok X G (c.fact 45 (f := .glo "_law_renamed") rfl)) b_law_renamed kb_law_renamed
  obtain ⟨fd_law_lists, FD_law_lists⟩ := c.def_ 58 (d := d_law_lists) rfl
  have F_law_lists : Fun K "_law_lists" "_law_lists" s_law_lists (He.fAd K d_law_lists.at_) fd_law_lists := fun_of FD_law_lists
  have b_law_lists : Binds K fd_law_lists ["store", "net"] [] := FD_law_lists.bindsN fun _ _ _ _ _ _ us hl => match us, hl with | [_, _], _ => rfl
  have kb_law_lists : KBn K fd_law_lists ["store", "net"] 0 ["store", "net"] (fun _ ws => ws) (fun _ zs => zs) := kbn_of F_law_lists fun _ _ _ _ _ _ ws hl => match ws, hl with | [_, _], _ => rfl
  have O_law_lists : Own P w K mg base 4 "_law_lists" ["store", "net"] (sp_law_lists) := Own.mk' F_law_lists (ok_law_lists (k := 3) F_law_lists T (O_law_mixed.up (by decide))) (He.glo_ok X G (c.fact 46 (f := .glo "_law_lists") rfl)) b_law_lists kb_law_lists
  obtain ⟨fd_law_is_net, FD_law_is_net⟩ := c.def_ 59 (d := d_law_is_net) rfl
  have F_law_is_net : Fun K "_law_is_net" "_law_is_net" s_law_is_net (He.fAd K d_law_is_net.at_) fd_law_is_net := fun_of FD_law_is_net
  have b_law_is_net : Binds K fd_law_is_net ["given", "net"] [] := FD_law_is_net.bindsN fun _ _ _ _ _ _ us hl => match us, hl with | [_, _], _ => rfl
  have kb_law_is_net : KBn K fd_law_is_net ["given", "net"] 0 ["given", "net"] (fun _ ws => ws) (fun _ zs => zs) := kbn_of F_law_is_net fun _ _ _ _ _ _ ws hl => match ws, hl with | [_, _], _ => rfl
  have O_law_is_net : Own P w K mg base 5 "_law_is_net" ["given", "net"] (sp_law_is_net K) := Own.mk' F_law_is_net (ok_law_is_net (k := 4) F_law_is_net T ((O_law_same 4).up (by decide)) (O_Net_leaves.up (by decide)) (O_Net_arrows.up (by decide))) (He.glo_ok X G (c.fact 47 (f := .glo "_law_is_net") rfl)) b_law_is_net kb_law_is_net
  obtain ⟨fd_law_paper, FD_law_paper⟩ := c.def_ 60 (d := d_law_paper) rfl
  have F_law_paper : Fun K "_law_paper" "_law_paper" s_law_paper (He.fAd K d_law_paper.at_) fd_law_paper := fun_of FD_law_paper
  have b_law_paper : Binds K fd_law_paper ["number"] [] := FD_law_paper.bindsN fun _ _ _ _ _ _ us hl => match us, hl with | [_], _ => rfl
  have kb_law_paper : KBn K fd_law_paper ["number"] 0 ["number"] (fun _ ws => ws) (fun _ zs => zs) := kbn_of F_law_paper fun _ _ _ _ _ _ ws hl => match ws, hl with | [_], _ => rfl
  have O_law_paper : Own P w K mg base 1 "_law_paper" ["number"] (sp_law_paper) := Own.mk' F_law_paper (ok_law_paper (k := 0) F_law_paper T ) (He.glo_ok X G (c.fact 48 (f := .glo "_law_paper") rfl)) b_law_paper kb_law_paper
  obtain ⟨fd_law_fits, FD_law_fits⟩ := c.def_ 61 (d := d_law_fits) rfl
  have F_law_fits : Fun K "_law_fits" "_law_fits" s_law_fits (He.fAd K d_law_fits.at_) fd_law_fits := fun_of FD_law_fits
  have b_law_fits : Binds K fd_law_fits ["net", "number"] [] := FD_law_fits.bindsN fun _ _ _ _ _ _ us hl => match us, hl with | [_, _], _ => rfl
  have kb_law_fits : KBn K fd_law_fits ["net", "number"] 0 ["net", "number"] (fun _ ws => ws) (fun _ zs => zs) := kbn_of F_law_fits fun _ _ _ _ _ _ ws hl => match ws, hl with | [_, _], _ => rfl
  have O_law_fits : Own P w K mg base 3 "_law_fits" ["net", "number"] (sp_law_fits) := Own.mk' F_law_fits (ok_law_fits (k := 2) F_law_fits T (O_law_ups.up (by decide)) (O_law_downs.up (by decide)) (O_law_all.up (by decide))) (He.glo_ok X G (c.fact 49 (f := .glo "_law_fits") rfl)) b_law_fits kb_law_fits
  obtain ⟨fd_law_moment_fault, FD_law_moment_fault⟩ := c.def_ 62 (d := d_law_moment_fault) rfl
  have F_law_moment_fault : Fun K "_law_moment_fault" "_law_moment_fault" s_law_moment_fault (He.fAd K d_law_moment_fault.at_) fd_law_moment_fault := fun_of FD_law_moment_fault
  have b_law_moment_fault : Binds K fd_law_moment_fault ["net", "paper"] [] := FD_law_moment_fault.bindsN fun _ _ _ _ _ _ us hl => match us, hl with | [_, _], _ => rfl
  have kb_law_moment_fault : KBn K fd_law_moment_fault ["net", "paper"] 0 ["net", "paper"] (fun _ ws => ws) (fun _ zs => zs) := kbn_of F_law_moment_fault fun _ _ _ _ _ _ ws hl => match ws, hl with | [_, _], _ => rfl
  have O_law_moment_fault : Own P w K mg base 4 "_law_moment_fault" ["net", "paper"] (sp_law_moment_fault) := Own.mk' F_law_moment_fault (ok_law_moment_fault (k := 3) F_law_moment_fault T (O_law_whole.up (by decide)) (O_law_all.up (by decide)) (O_law_fits.up (by decide))) (He.glo_ok X G (c.fact 50 (f := .glo "_law_moment_fault") rfl)) b_law_moment_fault kb_law_moment_fault
  obtain ⟨fd_law_gap, FD_law_gap⟩ := c.def_ 63 (d := d_law_gap) rfl
  have F_law_gap : Fun K "_law_gap" "_law_gap" s_law_gap (He.fAd K d_law_gap.at_) fd_law_gap := fun_of FD_law_gap
  have b_law_gap : Binds K fd_law_gap ["store", "kind"] [] := FD_law_gap.bindsN fun _ _ _ _ _ _ us hl => match us, hl with | [_, _], _ => rfl
  have kb_law_gap : KBn K fd_law_gap ["store", "kind"] 0 ["store", "kind"] (fun _ ws => ws) (fun _ zs => zs) := kbn_of F_law_gap fun _ _ _ _ _ _ ws hl => match ws, hl with | [_, _], _ => rfl
  have O_law_gap : Own P w K mg base 4 "_law_gap" ["store", "kind"] (sp_law_gap) := Own.mk' F_law_gap (ok_law_gap (k := 3) F_law_gap T (O_law_take.up (by decide)) (O_law_pick.up (by decide))) (He.glo_ok X G (c.fact 51 (f := .glo "_law_gap") rfl)) b_law_gap kb_law_gap
  obtain ⟨fd_law_measures, FD_law_measures⟩ := c.def_ 64 (d := d_law_measures) rfl
  have F_law_measures : Fun K "_law_measures" "_law_measures" s_law_measures (He.fAd K d_law_measures.at_) fd_law_measures := fun_of FD_law_measures
  have b_law_measures : Binds K fd_law_measures ["store"] [] := FD_law_measures.bindsN fun _ _ _ _ _ _ us hl => match us, hl with | [_], _ => rfl
  have kb_law_measures : KBn K fd_law_measures ["store"] 0 ["store"] (fun _ ws => ws) (fun _ zs => zs) := kbn_of F_law_measures fun _ _ _ _ _ _ ws hl => match ws, hl with | [_], _ => rfl
  have O_law_measures : Own P w K mg base 4 "_law_measures" ["store"] (sp_law_measures) := Own.mk' F_law_measures (ok_law_measures (k := 3) F_law_measures T (O_law_take.up (by decide)) (O_law_pick.up (by decide))) (He.glo_ok X G (c.fact 52 (f := .glo "_law_measures") rfl)) b_law_measures kb_law_measures
  obtain ⟨fd_law_called, FD_law_called⟩ := c.def_ 65 (d := d_law_called) rfl
  have F_law_called : Fun K "_law_called" "_law_called" s_law_called (He.fAd K d_law_called.at_) fd_law_called := fun_of FD_law_called
  have b_law_called : Binds K fd_law_called ["store", "many"] [] := FD_law_called.bindsN fun _ _ _ _ _ _ us hl => match us, hl with | [_, _], _ => rfl
  have kb_law_called : KBn K fd_law_called ["store", "many"] 0 ["store", "many"] (fun _ ws => ws) (fun _ zs => zs) := kbn_of F_law_called fun _ _ _ _ _ _ ws hl => match ws, hl with | [_, _], _ => rfl
  have O_law_called : Own P w K mg base 4 "_law_called" ["store", "many"] (sp_law_called) := Own.mk' F_law_called (ok_law_called (k := 3) F_law_called T (O_law_take.up (by decide)) (O_law_pick.up (by decide))) (He.glo_ok X G (c.fact 53 (f := .glo "_law_called") rfl)) b_law_called kb_law_called
  obtain ⟨fd_law_counted, FD_law_counted⟩ := c.def_ 66 (d := d_law_counted) rfl
  have F_law_counted : Fun K "_law_counted" "_law_counted" s_law_counted (He.fAd K d_law_counted.at_) fd_law_counted := fun_of FD_law_counted
  have b_law_counted : Binds K fd_law_counted ["store", "places"] [] := FD_law_counted.bindsN fun _ _ _ _ _ _ us hl => match us, hl with | [_, _], _ => rfl
  have kb_law_counted : KBn K fd_law_counted ["store", "places"] 0 ["store", "places"] (fun _ ws => ws) (fun _ zs => zs) := kbn_of F_law_counted fun _ _ _ _ _ _ ws hl => match ws, hl with | [_, _], _ => rfl
  have O_law_counted : Own P w K mg base 4 "_law_counted" ["store", "places"] (sp_law_counted K) := Own.mk' F_law_counted (ok_law_counted (k := 3) F_law_counted T (O_law_pick.up (by decide)) (O_law_mixed.up (by decide))) (He.glo_ok X G (c.fact 54 (f := .glo "_law_counted") rfl)) b_law_counted kb_law_counted
  obtain ⟨fd_law_timed, FD_law_timed⟩ := c.def_ 67 (d := d_law_timed) rfl
  have F_law_timed : Fun K "_law_timed" "_law_timed" s_law_timed (He.fAd K d_law_timed.at_) fd_law_timed := fun_of FD_law_timed
  have b_law_timed : Binds K fd_law_timed ["store", "names", "mixings"] [] := FD_law_timed.bindsN fun _ _ _ _ _ _ us hl => match us, hl with | [_, _, _], _ => rfl
  have kb_law_timed : KBn K fd_law_timed ["store", "names", "mixings"] 0 ["store", "names", "mixings"] (fun _ ws => ws) (fun _ zs => zs) := kbn_of F_law_timed fun _ _ _ _ _ _ ws hl => match ws, hl with | [_, _, _], _ => rfl
  have O_law_timed : Own P w K mg base 5 "_law_timed" ["store", "names", "mixings"] (sp_law_timed K) := Own.mk' F_law_timed (ok_law_timed (k := 4) F_law_timed T (O_law_take.up (by decide)) (O_law_pick.up (by decide)) (O_law_gap.up (by decide))) (He.glo_ok X G (c.fact 55 (f := .glo "_law_timed") rfl)) b_law_timed kb_law_timed
  obtain ⟨fd_law_case, FD_law_case⟩ := c.def_ 68 (d := d_law_case) rfl
  have F_law_case : Fun K "_law_case" "_law_case" s_law_case (He.fAd K d_law_case.at_) fd_law_case := fun_of FD_law_case
  have b_law_case : Binds K fd_law_case ["store"] [] := FD_law_case.bindsN fun _ _ _ _ _ _ us hl => match us, hl with | [_], _ => rfl
  have kb_law_case : KBn K fd_law_case ["store"] 0 ["store"] (fun _ ws => ws) (fun _ zs => zs) := kbn_of F_law_case fun _ _ _ _ _ _ ws hl => match ws, hl with | [_], _ => rfl
  have O_law_case : Own P w K mg base 6 "_law_case" ["store"] (sp_law_case) := Own.mk' F_law_case (ok_law_case (k := 5) F_law_case T (O_law_measures.up (by decide)) (O_law_timed.up (by decide)) (O_law_called.up (by decide)) (O_law_counted.up (by decide)) (O_law_all.up (by decide)) (O_law_renamed.up (by decide))) (He.glo_ok X G (c.fact 56 (f := .glo "_law_case") rfl)) b_law_case kb_law_case
  obtain ⟨fd_law_odd_part, FD_law_odd_part⟩ := c.def_ 70 (d := d_law_odd_part) rfl
  have F_law_odd_part : Fun K "_law_odd_part" "_law_odd_part" s_law_odd_part (He.fAd K d_law_odd_part.at_) fd_law_odd_part := fun_of FD_law_odd_part
  have b_law_odd_part : Binds K fd_law_odd_part ["store", "paper", "side"] [] := FD_law_odd_part.bindsN fun _ _ _ _ _ _ us hl => match us, hl with | [_, _, _], _ => rfl
  have kb_law_odd_part : KBn K fd_law_odd_part ["store", "paper", "side"] 0 ["store", "paper", "side"] (fun _ ws => ws) (fun _ zs => zs) := kbn_of F_law_odd_part fun _ _ _ _ _ _ ws hl => match ws, hl with | [_, _, _], _ => rfl
  have O_law_odd_part : Own P w K mg base 4 "_law_odd_part" ["store", "paper", "side"] (sp_law_odd_part) := Own.mk' F_law_odd_part (ok_law_odd_part (k := 3) F_law_odd_part T (O_law_take.up (by decide)) (O_law_pick.up (by decide))) (He.glo_ok X G (c.fact 58 (f := .glo "_law_odd_part") rfl)) b_law_odd_part kb_law_odd_part
  obtain ⟨fd_law_odd_place, FD_law_odd_place⟩ := c.def_ 69 (d := d_law_odd_place) rfl
  have F_law_odd_place : Fun K "_law_odd_place" "_law_odd_place" s_law_odd_place (He.fAd K d_law_odd_place.at_) fd_law_odd_place := fun_of FD_law_odd_place
  have b_law_odd_place : Binds K fd_law_odd_place ["store", "paper"] [] := FD_law_odd_place.bindsN fun _ _ _ _ _ _ us hl => match us, hl with | [_, _], _ => rfl
  have kb_law_odd_place : KBn K fd_law_odd_place ["store", "paper"] 0 ["store", "paper"] (fun _ ws => ws) (fun _ zs => zs) := kbn_of F_law_odd_place fun _ _ _ _ _ _ ws hl => match ws, hl with | [_, _], _ => rfl
  have O_law_odd_place : Own P w K mg base 5 "_law_odd_place" ["store", "paper"] (sp_law_odd_place) := Own.mk' F_law_odd_place (ok_law_odd_place (k := 4) F_law_odd_place T (O_law_take.up (by decide)) (O_law_pick.up (by decide)) (O_law_odd_part.up (by decide))) (He.glo_ok X G (c.fact 57 (f := .glo "_law_odd_place") rfl)) b_law_odd_place kb_law_odd_place
  obtain ⟨fd_law_bent, FD_law_bent⟩ := c.def_ 71 (d := d_law_bent) rfl
  have F_law_bent : Fun K "_law_bent" "_law_bent" s_law_bent (He.fAd K d_law_bent.at_) fd_law_bent := fun_of FD_law_bent
  have b_law_bent : Binds K fd_law_bent ["store", "paper"] [] := FD_law_bent.bindsN fun _ _ _ _ _ _ us hl => match us, hl with | [_, _], _ => rfl
  have kb_law_bent : KBn K fd_law_bent ["store", "paper"] 0 ["store", "paper"] (fun _ ws => ws) (fun _ zs => zs) := kbn_of F_law_bent fun _ _ _ _ _ _ ws hl => match ws, hl with | [_, _], _ => rfl
  have O_law_bent : Own P w K mg base 8 "_law_bent" ["store", "paper"] (sp_law_bent) := Own.mk' F_law_bent (ok_law_bent (k := 7) F_law_bent T (O_law_take.up (by decide)) (O_law_plain.up (by decide)) (O_law_pick.up (by decide)) (O_law_odd_place.up (by decide)) (O_law_odd_part.up (by decide)) (O_law_atom.up (by decide))) (He.glo_ok X G (c.fact 59 (f := .glo "_law_bent") rfl)) b_law_bent kb_law_bent
  obtain ⟨fd_law_asked, FD_law_asked⟩ := c.def_ 72 (d := d_law_asked) rfl
  have F_law_asked : Fun K "_law_asked" "_law_asked" s_law_asked (He.fAd K d_law_asked.at_) fd_law_asked := fun_of FD_law_asked
  have b_law_asked : Binds K fd_law_asked ["made", "net", "paper"] [] := FD_law_asked.bindsN fun _ _ _ _ _ _ us hl => match us, hl with | [_, _, _], _ => rfl
  have kb_law_asked : KBn K fd_law_asked ["made", "net", "paper"] 0 ["made", "net", "paper"] (fun _ ws => ws) (fun _ zs => zs) := kbn_of F_law_asked fun _ _ _ _ _ _ ws hl => match ws, hl with | [_, _, _], _ => rfl
  have O_law_asked : Own P w K mg base 72 "_law_asked" ["made", "net", "paper"] (sp_law_asked K) := Own.mk' F_law_asked (ok_law_asked (k := 71) F_law_asked T (O_law_moment_fault.up (by decide)) ((O_law_copy 71).up (by decide)) ((O_law_same 71).up (by decide)) (O_moment_fault.up (by decide)) (O_is_moments.up (by decide))) (He.glo_ok X G (c.fact 60 (f := .glo "_law_asked") rfl)) b_law_asked kb_law_asked
  obtain ⟨fd_law, FD_law⟩ := c.def_ 73 (d := d_law) rfl
  have F_law : Fun K "law" "law" s_law (He.fAd K d_law.at_) fd_law := fun_of FD_law
  have LAW : FnOk P w K mg base CX0 73 (He.fAd K d_law.at_) fd_law ["script"] (sp_law K) := ok_law (k := 72) F_law T (O_law_store.up (by decide)) (O_law_case.up (by decide)) (O_law_lists.up (by decide)) (O_Net___init.up (by decide)) (O_law_paper.up (by decide)) ((O_law_same 4).up (by decide)) (O_is_moments.up (by decide)) ((O_law_copy 71).up (by decide)) (O_law_asked.up (by decide)) (O_law_bent.up (by decide)) (O_law_is_net.up (by decide))
  have e2 : fd0 = fd_law := by
    obtain ⟨_, _, _, _, _, _, _, _, _, _, _, l1, _⟩ := F0.ex
    obtain ⟨_, _, _, _, _, _, _, _, _, _, _, l2, _⟩ := FD_law.ex
    rw [l1] at l2
    injection l2 with l2
    injection l2 with _ _ l2 _
    injection l2
  rw [e2]
  exact LAW
end Pf
open PySem PySem.W PySem.Calls PyProof.Rows
set_option maxRecDepth 100000 in
set_option maxHeartbeats 0 in
theorem PySem.Challenge.cw_levelgifts_k26_moments_in_form_holds : PySem.Challenge.rw_levelgifts_k26_moments_in_form.Holds := by
  w_on; o_law
  refine HandSHeadRun.head_any (r := OpenLaw.row PySem.Challenge.rw_levelgifts_k26_moments_in_form) (q := view (OpenLaw.row PySem.Challenge.rw_levelgifts_k26_moments_in_form).prog [82]) (H := Pf.hk) (ob := Pf.ob) (M := 6000) (loose := Pf.loose) (d := HandSHeadRun.topDef (OpenLaw.row PySem.Challenge.rw_levelgifts_k26_moments_in_form).prog 82) (kwd := []) Pf.ob_eq
    (by kernel_rfl) (fun s => by kernel_rfl) Pf.run (by kernel_rfl) (by kernel_rfl) (by kernel_rfl) (by rfl) (by first | assumption | decide +kernel) (by decide +kernel) ⟨rfl, rfl, rfl, rfl, rfl, by decide +kernel⟩ ?hw ?hc
  case hw => w_witness2
  case hc =>
    refine L2.walk_ofE (l := PySem.Challenge.rw_levelgifts_k26_moments_in_form) (n := 63) (k := 73) (x := "script") (CX := L2.CX0) rfl (by decide) (by kernel_rfl) ⟨rfl, by decide, by decide⟩ ?F (fun _ _ _ _ z => z)
    intro w mg fa h Y G hmg0
    obtain ⟨K, KX, c⟩ := Y
    have hmg : mg ("law" : PySem.Str) = some (.ref fa) := by
      have e : (HandSHeadRun.topDef (OpenLaw.row PySem.Challenge.rw_levelgifts_k26_moments_in_form).prog 82).name = ("law" : PySem.Str) := by kernel_rfl
      rw [← e]
      exact hmg0
    obtain ⟨fd, hb, hF⟩ := Pf.facts (P := (PySem.Challenge.rw_levelgifts_k26_moments_in_form).prog) (w := w) KX G hmg c
    exact ⟨K, fd, Pf.sp_law K, KX, hb, fun H a ns hl _ hS => ⟨a, ns, rfl, hS, hl, fun _ => rfl⟩, hF⟩
