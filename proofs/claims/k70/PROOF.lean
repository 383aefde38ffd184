import PyProof.Rows.All
import Wide.All
import OpenK.AllK
import Wide.FinOn
import KE.KStateDown
import HandS.More
import HandS.Words
import HandS.Head0
import HandS.Head1
import HandS.Head2
import HandS.HeadEnd
import HandS.HeadHook1
import HandS.HeadHook2
import HandS.HeadHook3
import HandS.HeadHook4
import HandS.Exc
import KE.KIsAll
import HandS.Property
import HandS.ExcIs
import PySem.Challenge.RW_telltrove_k70_disk
import HandS.ForMost
import HandS.Defaults
import HandS.Wide
import HandS.WideBits
import HandS.IsInst
import HandS.Deep
import HandS.TupAny
import HandS.Star
import HandS.RaiseMore
import HandS.Conv
import HandS.Zip
import HandS.Rev
import HandS.Flow
import HandS.Style
import HandS.AnyAll
import HandS.GenList
import PyProof.SumAny
import HandS.Strs
import KE.SortData
import HandS.RevTup
import KE.GoesNew
import KE.GoesMore
import HandS.EndTab
import HandS.HeadWalk
import KE.GoesEnum
import KE.DataCmp
import KE.LtSeq
import HandS.DictComp
import KE.KDictPairs
import KE.KDictZip
import HandS.SetFor
import HandS.TupMul
import HandS.TupSets
import HandS.SetKeys
import PyProof.WalksMore
import HandS.ExcOwn
import HandS.ExcInit
import HandS.ExcField
import KE.KExcIs
import KE.KWords
import HandS.Text
import HandS.MakeKw
import HandS.MakeKwOnly
import HandS.List
import HandS.Steps
import PyProof.ExcBaseAll.ValueError
set_option Elab.async false
set_option linter.all false
set_option maxRecDepth 100000
set_option maxHeartbeats 4000000
namespace Y
open PySem PySem.Spec PyProof.Rows L2 L2
/-! ### what the head's run is asked; it stands ahead of all else, for the run wants memory -/
def noD (K : PySem.W.Frag) (x : Str) : Bool := match K.lookup (He.ga K x) with
  | some o => o.dict.isNone
  | none => false
def tupNB (K : PySem.W.Frag) (x : Str) (vs : List He.Dv) : Bool := He.tupB K x vs && noD K x
def defsH (K : PySem.W.Frag) (x : Str) (kvs : List (Str × Str)) : Bool := kvs.all fun q => He.eqO (PySem.W.nsIn K (He.ga K x) q.1) (some (some (.ref (He.ga K q.2))))
def lettH : Str := "abcdefghijklmnopqrstuvwxyz"
def digtH : Str := "0123456789"
def RSH : List Str := [Str.ofString "open", Str.ofString "add", Str.ofString "from", Str.ofString "retire", Str.ofString "rule", Str.ofString "step", Str.ofString "to", Str.ofString "by", Str.ofString "none", Str.ofString "num", Str.ofString "pick", Str.ofString "opt", Str.ofString "row", Str.ofString "of", Str.ofString "one", Str.ofString "rec", Str.ofString "same", Str.ofString "rank", Str.ofString "clip", Str.ofString "table", Str.ofString "apart", Str.ofString "some", Str.ofString "must", Str.ofString "each", Str.ofString "arms", Str.ofString "parts", Str.ofString "or", Str.ofString "and", Str.ofString "not", Str.ofString "has", Str.ofString "tag", Str.ofString "long"]
end Y

namespace Y
open PySem PySem.Spec PyProof.Rows L2 L2
/-- a dict of the top whose values are texts -/
def strsH (K : PySem.W.Frag) (x : Str) (kvs : List (Str × Str)) : Bool := kvs.all fun q => match PySem.W.nsIn K (He.ga K x) q.1 with
  | some (some (.str y _)) => decide (y = q.2)
  | _ => false
/-- the item at i of the tuple of the top, if it is an object -/
def itAt (x : Str) (i : Nat) (K : PySem.W.Frag) : Addr := match K.lookup (He.ga K x) with
  | some ⟨_, _, .seq its _, _⟩ => (match its.toList[i]? with
    | some (.ref a) => a
    | _ => 0)
  | _ => 0
/-- an empty tuple -/
def nilB (K : PySem.W.Frag) (a : Addr) : Bool := match K.lookup a with
  | some ⟨.type c, none, .seq its _, _⟩ => decide (c = "tuple") && decide (its.toList.length = 0)
  | _ => false
/-- a word and an empty tuple -/
def wordNilH (K : PySem.W.Frag) (x y : Str) : Bool := tupNB K x [.str y, .adr (itAt x 1)] && nilB K (itAt x 1 K)
end Y

namespace Y
open PySem PySem.Spec PyProof.Rows L2 L2
/-! ### own errors, asked of the head's run -/
def clsErr (K : PySem.W.Frag) (C : Addr) : Bool := match K.lookup C with
  | some ⟨.type "type", _, .cls cd, sl⟩ => (match cd.mro, sl.toList with
    | .ref C' :: bm, [_, _, _, _, some (.builtin n), _] => C' == C && (n == "ValueError.__new__" && (!cd.hasDel && (cd.hasDict && PySem.HandSPX.refsVE bm)))
    | _, _ => false)
  | _ => false
def errB (K : PySem.W.Frag) (x f : Str) : Bool :=
  clsErr K (He.ga K x) && (He.eqO (PySem.W.findIn K (.ref (He.ga K x)) "__setattr__") (some (some (.builtin "object.__setattr__"))) &&
  (decide (PySem.W.subIn K (.ref (He.ga K x)) (.type "BaseException") = some true) && (decide (PySem.W.typeIn K (.ref (He.ga K x)) = some (.type "type")) && (PySem.W.keepIn K (.ref (He.ga K x)) &&
  (He.eqO (PySem.W.findIn K (.ref (He.ga K x)) "__getattribute__") (some (some (.builtin "BaseException.__getattribute__"))) && (He.eqO (PySem.W.findIn K (.ref (He.ga K x)) "__getattr__") (some none) &&
  (PySem.W.hasDictIn K (He.ga K x) && (He.eqO (PySem.W.findIn K (.ref (He.ga K x)) f) (some none) && (He.eqO (PySem.W.findIn K (.ref (He.ga K x)) "__init__") (some (some (.ref (He.ma K (He.ga K x) "__init__")))) &&
  (decide (PySem.W.typeIn K (.ref (He.ma K (He.ga K x) "__init__")) = some (.type "function")) && (He.eqO (PySem.W.findIn K (.ref (He.ga K x)) "__class__") (some (some (.builtin "object.__class__"))) &&
  (He.eqO (PySem.W.specialIn K (.builtin "object.__class__") "__get__") (some (some (.builtin "getset_descriptor.__get__"))) && (decide (PySem.W.takesIn K (.builtin "object.__class__") = some true) && decide (PySem.W.mroIn K (He.ga K x) (.type "object") = some true))))))))))))))
def kitQ (K : PySem.W.Frag) (x y : Str) (b : Bool) : Bool := decide (PySem.W.kitOne K (.ref (He.ga K x)) (.ref (He.ga K y)) = some b)
def kitTB (K : PySem.W.Frag) (x : Str) (t : String) (b : Bool) : Bool := decide (PySem.W.kitOne K (.ref (He.ga K x)) (.type t) = some b)
def exmB (K : PySem.W.Frag) (x y : Str) (b : Bool) : Bool := decide (PySem.W.exmOne K (.ref (He.ga K x)) (.ref (He.ga K y)) = some b)
end Y

namespace Y
open PySem PySem.Spec PyProof.Rows L2 L2
/-! ### a hook whose list of objects is told: few objects, little memory -/
/-- two steps from the top's names, and these methods with what they name -/
def asY (ms : List (Str × Str)) (g : Addr → Option Obj) : List Addr := He.asD g 2 ++ ms.flatMap fun p =>
  (fun f => f :: ((g f).elim [] He.refsO)) (He.ma (He.frG g (He.asD g 2)) (He.ga (He.frG g (He.asD g 2)) p.1) p.2)
def frY (ms : List (Str × Str)) (g : Addr → Option Obj) : PySem.W.Frag := He.frT g (asY ms g)
def obsY (ms : List (Str × Str)) (fa : List He.Fa) (fn : List He.DefD) (ts : List He.Tab) (tf : List He.Defn) (ex : PySem.W.Frag → Bool) (g : Addr → Option Obj) : He.AlX := (He.obsT fa fn ts (frY ms g), ex (frY ms g) && He.tabsB g tf (frY ms g))
theorem saysY {ms : List (Str × Str)} {fa : List He.Fa} {fn : List He.DefD} {ts : List He.Tab} {tf : List He.Defn} {ex : PySem.W.Frag → Bool} {w : World} {h : Heap} (e : obsY ms fa fn ts tf ex h.get? = He.valX fn ts w) : He.SaysX fa fn ts tf ex w h (frY ms h.get?) := by
  obtain ⟨e1, e2⟩ := Prod.mk.inj e
  obtain ⟨b1, b2⟩ := He.ba e2
  have tab : ∀ p ∈ tf, PySem.W.codeHdIn (frY ms h.get?) (He.cT (frY ms h.get?) p).1 (He.cT (frY ms h.get?) p).2 = true ∧ ∃ u, h.get? (He.cT (frY ms h.get?) p).2 = some u ∧ He.emptyTab u = true := by
    intro p hp
    have z := List.all_eq_true.mp b2 p hp
    rw [Bool.and_eq_true] at z
    refine ⟨z.1, ?_⟩
    have y := z.2
    split at y
    · rename_i u hu
      exact ⟨u, hu, y⟩
    · cases y
  refine { t := e1, more := b1, hd := fun p hp => (tab p hp).1, out := fun p hp => ?_, empty := fun p hp => ?_ }
  · obtain ⟨u, hu, hz⟩ := (tab p hp).2
    exact He.frT_none hu hz
  · obtain ⟨u, hu, hz⟩ := (tab p hp).2
    exact hu.trans (congrArg some (He.emptyTab_eq hz))
def hookY (ms : List (Str × Str)) (fa : List He.Fa) (fn : List He.DefD) (ts : List He.Tab) (tf : List He.Defn) (ex : PySem.W.Frag → Bool) : PySem.W.Hook :=
  { α := He.AlX, obs := fun s => obsY ms fa fn ts tf ex s.heap.get?, val := He.valX fn ts, says := fun w h => ∃ K : PySem.W.Frag, K.In h ∧ He.SaysX fa fn ts tf ex w h K,
    of := fun _ _ e => ⟨frY ms _, He.frT_in, saysY e⟩,
    keeps := fun _ _ _ ⟨K, a, c⟩ k => ⟨K, a.keeps k, { t := c.t, more := c.more, hd := c.hd, out := c.out, empty := fun p hp => k _ _ (c.empty p hp) }⟩ }
theorem obsY_eq {ms : List (Str × Str)} {fa : List He.Fa} {fn : List He.DefD} {ts : List He.Tab} {tf : List He.Defn} {ex : PySem.W.Frag → Bool} {g : Addr → Option Obj} {s : Shared} (h : ∀ a, g a = s.heap.get? a) : obsY ms fa fn ts tf ex g = (hookY ms fa fn ts tf ex).obs s := congrArg (obsY ms fa fn ts tf ex) (funext h)
end Y

namespace Y
open PySem PySem.Spec PyProof.Rows L2 L2
/-! ### a head with a class that has a property: five steps from the top's names, and what the getter is -/
def gBA (K : PySem.W.Frag) (x f : Str) : Addr := match PySem.W.recIn K (He.ma K (He.ga K x) f) "property" with
  | some (.ref g :: _) => g
  | _ => 0
abbrev GnW := Option (Arguments × FuncBody × Scope)
def gnW (K : PySem.W.Frag) (a : Addr) : GnW := match K.lookup a with
  | some ⟨_, _, .func fd, _⟩ => some (fd.params, fd.body, fd.scope)
  | _ => none
def gnB (K : PySem.W.Frag) (a : Addr) : Bool := PySem.W.keepIn K (.ref a) && (match K.lookup a with
  | some ⟨_, _, .func fd, _⟩ => decide (fd.globals = mainGlobals) && (fd.closure.isEmpty && (decide (fd.builtins = builtinsNs) && (PySem.W.codeIn K fd.code fd.qualname && (He.dflB K fd.defaults [] && He.kwdB K fd.kwdefaults []))))
  | _ => false)
theorem gn_ok {K : PySem.W.Frag} {a : Addr} {params : Arguments} {body : List Stmt} {scope : Scope} (e : gnW K a = some (params, .stmts body, scope)) (b : gnB K a = true) :
    ∃ (name qual : Str) (fd : FuncData), FunD K name qual params body scope [] [] a fd := by
  obtain ⟨kp, b⟩ := He.ba b
  unfold gnW at e
  cases q : K.lookup a with
  | none =>
    rw [q] at e
    cases e
  | some o =>
    obtain ⟨oc, od, dt, osl⟩ := o
    rw [q] at e b
    cases dt with
    | func fd =>
      obtain ⟨n1, n2, n3, n4, n5, n6, n7, n8, n9, n10, n11, n12, n13, n14, n15⟩ := fd
      have e2 : (some (n3, n4, n5) : GnW) = some (params, .stmts body, scope) := e
      simp only [Option.some.injEq, Prod.mk.injEq] at e2
      obtain ⟨rfl, rfl, rfl⟩ := e2
      have b2 : (decide (n6 = mainGlobals) && (n7.isEmpty && (decide (n15 = builtinsNs) && (PySem.W.codeIn K n13 n2 && (He.dflB K n8 [] && He.kwdB K n9 []))))) = true := b
      obtain ⟨k1, b2⟩ := He.ba b2
      obtain ⟨k2, b2⟩ := He.ba b2
      obtain ⟨k3, b2⟩ := He.ba b2
      obtain ⟨k4, b2⟩ := He.ba b2
      obtain ⟨k5, k6⟩ := He.ba b2
      have h1 : n6 = mainGlobals := of_decide_eq_true k1
      have h2 : n7 = [] := List.isEmpty_iff.mp k2
      have h3 : n15 = builtinsNs := of_decide_eq_true k3
      subst h1 h2 h3
      exact ⟨n1, n2, _, ⟨oc, od, n8, n9, n10, n11, n12, n13, n14, osl, rfl, q, k4, He.dflB_ok k5, He.kwdB_ok k6⟩, kp⟩
    | _ => cases e
def propB (K : PySem.W.Frag) (x f : Str) : Bool := He.eqO (PySem.W.findIn K (.ref (He.ga K x)) f) (some (some (.ref (He.ma K (He.ga K x) f)))) && (He.eqO (PySem.W.specialIn K (.ref (He.ma K (He.ga K x) f)) "__get__") (some (some (.builtin "property.__get__"))) &&
  (decide (PySem.W.takesIn K (.ref (He.ma K (He.ga K x) f)) = some true) && (match PySem.W.recIn K (He.ma K (He.ga K x) f) "property" with
    | some (.ref _ :: _) => true
    | _ => false)))
theorem propB_ok {K : PySem.W.Frag} {x f : Str} (h : propB K x f = true) : PropOf K (He.ga K x) f (He.ma K (He.ga K x) f) (gBA K x f) := by
  obtain ⟨h1, h⟩ := He.ba h
  obtain ⟨h2, h⟩ := He.ba h
  obtain ⟨h3, h4⟩ := He.ba h
  refine ⟨He.eqO_ok h1, He.eqO_ok h2, of_decide_eq_true h3, ?_⟩
  unfold gBA
  split at h4
  · rename_i g rest e
    rw [e]
    exact ⟨rest, rfl⟩
  · cases h4
def emT (K : PySem.W.Frag) (a : Addr) : Bool := match K.lookup a with
  | some ⟨.type c, none, .seq its _, _⟩ => decide (c = "tuple") && decide (its.size = 0)
  | _ => false
theorem emT_ok {K : PySem.W.Frag} {a : Addr} (h : emT K a = true) : ∃ (o : Obj) (its : Array Value) (n : Nat), K.lookup a = some o ∧ o.cls = .type "tuple" ∧ o.dict = none ∧ o.data = .seq its n ∧ its.size = 0 := by
  unfold emT at h
  split at h
  · rename_i c its n sl e
    obtain ⟨h1, h2⟩ := He.ba h
    exact ⟨_, its, n, e, congrArg Value.type (of_decide_eq_true h1), rfl, rfl, of_decide_eq_true h2⟩
  · cases h
def excB (K : PySem.W.Frag) (x : Str) : Bool := He.eqO (PySem.W.findIn K (.ref (He.ga K x)) "__getattribute__") (some (some (.builtin "BaseException.__getattribute__"))) && (He.eqO (PySem.W.findIn K (.ref (He.ga K x)) "__getattr__") (some none) &&
  (decide (PySem.W.subIn K (.ref (He.ga K x)) (.type "BaseException") = some true) && (PySem.W.hasDictIn K (He.ga K x) && (He.eqO (PySem.W.findIn K (.ref (He.ga K x)) "__class__") (some (some (.builtin "object.__class__"))) &&
  (He.eqO (PySem.W.specialIn K (.builtin "object.__class__") "__get__") (some (some (.builtin "getset_descriptor.__get__"))) && (decide (PySem.W.takesIn K (.builtin "object.__class__") = some true) && decide (PySem.W.mroIn K (He.ga K x) (.type "object") = some true)))))))
theorem excB_ok {K : PySem.W.Frag} {x : Str} (h : excB K x = true) : ExcC K (He.ga K x) := by
  obtain ⟨h1, h⟩ := He.ba h
  obtain ⟨h2, h⟩ := He.ba h
  obtain ⟨h3, h⟩ := He.ba h
  obtain ⟨h4, h⟩ := He.ba h
  obtain ⟨h5, h⟩ := He.ba h
  obtain ⟨h6, h⟩ := He.ba h
  obtain ⟨h7, h8⟩ := He.ba h
  exact ⟨He.eqO_ok h1, He.eqO_ok h2, of_decide_eq_true h3, h4, He.eqO_ok h5, He.eqO_ok h6, of_decide_eq_true h7, of_decide_eq_true h8⟩
def frZ (g : Addr → Option Obj) : PySem.W.Frag := He.frT g (He.asD g 5)
def obsZ (pr : Str × Str) (fa : List He.Fa) (fn : List He.DefD) (ts : List He.Tab) (tf : List He.Defn) (ex : PySem.W.Frag → Bool) (g : Addr → Option Obj) : He.AlX × GnW :=
  ((He.obsT fa fn ts (frZ g), ex (frZ g) && He.tabsB g tf (frZ g)), gnW (frZ g) (gBA (frZ g) pr.1 pr.2))
theorem saysZ {pr : Str × Str} {gv : GnW} {fa : List He.Fa} {fn : List He.DefD} {ts : List He.Tab} {tf : List He.Defn} {ex : PySem.W.Frag → Bool} {w : World} {h : Heap} (e : obsZ pr fa fn ts tf ex h.get? = (He.valX fn ts w, gv)) :
    He.SaysX fa fn ts tf ex w h (frZ h.get?) ∧ gnW (frZ h.get?) (gBA (frZ h.get?) pr.1 pr.2) = gv := by
  obtain ⟨e0, eg⟩ := Prod.mk.inj e
  obtain ⟨e1, e2⟩ := Prod.mk.inj e0
  obtain ⟨b1, b2⟩ := He.ba e2
  have tab : ∀ p ∈ tf, PySem.W.codeHdIn (frZ h.get?) (He.cT (frZ h.get?) p).1 (He.cT (frZ h.get?) p).2 = true ∧ ∃ u, h.get? (He.cT (frZ h.get?) p).2 = some u ∧ He.emptyTab u = true := by
    intro p hp
    have z := List.all_eq_true.mp b2 p hp
    rw [Bool.and_eq_true] at z
    refine ⟨z.1, ?_⟩
    have y := z.2
    split at y
    · rename_i u hu
      exact ⟨u, hu, y⟩
    · cases y
  refine ⟨{ t := e1, more := b1, hd := fun p hp => (tab p hp).1, out := fun p hp => ?_, empty := fun p hp => ?_ }, eg⟩
  · obtain ⟨u, hu, hz⟩ := (tab p hp).2
    exact He.frT_none hu hz
  · obtain ⟨u, hu, hz⟩ := (tab p hp).2
    exact hu.trans (congrArg some (He.emptyTab_eq hz))
def hookZ (pr : Str × Str) (gv : GnW) (fa : List He.Fa) (fn : List He.DefD) (ts : List He.Tab) (tf : List He.Defn) (ex : PySem.W.Frag → Bool) : PySem.W.Hook :=
  { α := He.AlX × GnW, obs := fun s => obsZ pr fa fn ts tf ex s.heap.get?, val := fun w => (He.valX fn ts w, gv), says := fun w h => ∃ K : PySem.W.Frag, K.In h ∧ (He.SaysX fa fn ts tf ex w h K ∧ gnW K (gBA K pr.1 pr.2) = gv),
    of := fun _ _ e => ⟨frZ _, He.frT_in, saysZ e⟩,
    keeps := fun _ _ _ ⟨K, a, c, cg⟩ k => ⟨K, a.keeps k, { t := c.t, more := c.more, hd := c.hd, out := c.out, empty := fun p hp => k _ _ (c.empty p hp) }, cg⟩ }
theorem obsZ_eq {pr : Str × Str} {gv : GnW} {fa : List He.Fa} {fn : List He.DefD} {ts : List He.Tab} {tf : List He.Defn} {ex : PySem.W.Frag → Bool} {g : Addr → Option Obj} {s : Shared} (h : ∀ a, g a = s.heap.get? a) : obsZ pr fa fn ts tf ex g = (hookZ pr gv fa fn ts tf ex).obs s := congrArg (obsZ pr fa fn ts tf ex) (funext h)
end Y

namespace Y
open PySem PySem.Spec PyProof.Rows L2 L2
def topH (i : Nat) : Stmt := PySem.Challenge.pw_telltrove_k70_disk.main.body.getD i (.Pass ⟨0, 0, 0, 0⟩)
/-! ### the head -/
def inH (st : Stmt) (j : Nat) : Stmt := match st with
  | .ClassDef _ _ _ body _ _ _ _ _ _ _ => body.getD j (.Pass ⟨0, 0, 0, 0⟩)
  | _ => .Pass ⟨0, 0, 0, 0⟩
def ddA (y x : Str) (st : Stmt) : He.DefD := ⟨(y, none), x, x, defArgs st, defBody st, defScope st, [], []⟩
def dd (x : Str) (st : Stmt) : He.DefD := ddA x x st
def ddD (x : Str) (st : Stmt) (ds : List He.Dv) : He.DefD := ⟨(x, none), x, x, defArgs st, defBody st, defScope st, ds, []⟩
def fn : List He.DefD := [dd "_law_begin" (topH 8), dd "_law_mix" (topH 9), dd "_law_draw" (topH 10), dd "_law_alike" (topH 11), dd "_law_block" (topH 12), dd "_law_begun" (topH 13), dd "_law_write_right" (topH 14), dd "law" (topH 15), ⟨("Disk", some "__init__"), "__init__", "Disk.__init__", defArgs (inH (topH 6) 0), defBody (inH (topH 6) 0), defScope (inH (topH 6) 0), [.adr (He.dflAt ("Disk", some "__init__") 0), .non], []⟩, ⟨("Disk", some "write"), "write", "Disk.write", defArgs (inH (topH 6) 2), defBody (inH (topH 6) 2), defScope (inH (topH 6) 2), [], []⟩]
def fa : List He.Fa := [.glo "_law_begin", .glo "_law_mix", .glo "_law_draw", .glo "_law_alike", .glo "_law_block", .glo "_law_begun", .glo "_law_write_right", .glo "law", .free "abs", .free "all", .free "bool", .free "divmod", .free "int", .free "isinstance", .free "len", .free "list", .free "range", .free "str", .free "tuple", .free "zip", .int "BLOCKS" 32, .glo "TroveError", .glo "DeedError", .glo "Cut", .glo "Disk"]
abbrev R : PySem.W.OpenRow := PySem.W.OpenLaw.row PySem.Challenge.rw_telltrove_k70_disk
def tsL : List He.Tab := []
def tfL : List He.Defn := []
def csL (K : PySem.W.Frag) : List (Addr × Addr) := tfL.map (He.cT K)
def PsL (K : PySem.W.Frag) : List Addr := (csL K).map (·.2)
def ex (K : PySem.W.Frag) : Bool := (He.Fa.cls "Disk").ok K && (He.Fa.noat "Disk" "rows").ok K && (He.Fa.noat "Disk" "room").ok K && (He.Fa.mkr "Disk").ok K && (He.Fa.meth "Disk" "write").ok K && propB K "Disk" "blocks" && gnB K (gBA K "Disk" "blocks") && emT K (He.dflAt ("Disk", some "__init__") 0 K) && (He.Fa.exc "Cut").ok K && exmB K "Cut" "Cut" true && kitQ K "Cut" "TroveError" true && kitQ K "Cut" "DeedError" false && excB K "Cut"
def msL : List (Str × Str) := [("Disk", "__init__"), ("Disk", "write")]
abbrev gv : GnW := some (defArgs (inH (topH 6) 1), .stmts (defBody (inH (topH 6) 1)), defScope (inH (topH 6) 1))
abbrev hk : PySem.W.Hook := hookZ ("Disk", "blocks") gv fa fn tsL tfL ex
def ob (s : PySem.W.SharedT) : He.AlX × GnW := obsZ ("Disk", "blocks") fa fn tsL tfL ex (HandSHeadRun.getT s)
theorem ob_eq (s : PySem.W.SharedT) : ob s = hk.obs s.abs := obsZ_eq (HandSHeadRun.getT_eq s)
def loose : List Str := (["BLOCKS", "TroveError", "DeedError", "Cut", "Disk", "_law_begin", "_law_mix", "_law_draw", "_law_alike", "_law_block", "_law_begun", "_law_write_right"] : List Str)
theorem run (w : World) : HandSHeadRun.RunEq R (PySem.W.view R.prog [15]) hk ob 2000 loose w := by
  intro os
  kernel_rfl
end Y

namespace Y
open PySem PySem.Spec PyProof.Rows L2
/-! ### data by value -/
inductive T where
  | non | bl (b : Bool) | int (i : Int) | str (s : Str) | tup (l : List T) | lst (l : List T) | adr (a : Addr)
  /-- a tuple of which it is not known that it has no dict: a pair of zip, of enumerate -/
  | wtp (l : List T)
  /-- a dict: its keys and what stands under them -/
  | dct (ks : List Key) (vs : List T)
/-- H' holds what H holds -/
abbrev Le (H H' : Hp) : Prop := ∀ a o, H a = some o → H' a = some o
theorem Le.refl (H : Hp) : Le H H := fun _ _ h => h
theorem Le.trans {H H1 H2 : Hp} (a : Le H H1) (b : Le H1 H2) : Le H H2 := fun c o h => b c o (a c o h)
/-- a tuple whose object has no dict -/
def SqN (K : PySem.W.Frag) (H : Hp) (a : Addr) (xs : List V) : Prop := (∃ o : Obj, o.dict = none ∧ H a = some (.frz o (.tup xs))) ∨
  ∃ (o : Obj) (its : Array Value) (n : Nat), K.lookup a = some o ∧ o.cls = .type "tuple" ∧ o.dict = none ∧ o.data = .seq its n ∧ its.size ≤ sizeLine ∧ Vals xs its.toList
theorem SqN.t {K : PySem.W.Frag} {H : Hp} {a : Addr} {xs : List V} (h : SqN K H a xs) : SqT K H a xs := by
  rcases h with ⟨o, _, h⟩ | ⟨o, its, n, h1, h2, _, h3⟩
  · exact .inl (.inr ⟨o, h⟩)
  · exact .inr ⟨o, its, n, h1, h2, h3⟩
theorem sqn_le {K : PySem.W.Frag} {F F' : Hp} (s : Le F F') {a : Addr} {xs : List V} (h : SqN K F a xs) : SqN K F' a xs := by
  rcases h with ⟨o, d, h⟩ | h
  · exact .inl ⟨o, d, s _ _ h⟩
  · exact .inr h
mutual
def Tv (K : PySem.W.Frag) (F : Hp) : T → V → Prop
  | .non, v => v = .non
  | .bl b, v => v = .bl b
  | .int i, v => v = .int i
  | .str s, v => v = .str s
  | .tup l, v => ∃ a xs, v = .ref a ∧ SqN K F a xs ∧ TvL K F l xs
  | .lst l, v => ∃ a xs, v = .ref a ∧ F a = some (.lst xs) ∧ TvL K F l xs
  | .adr a, v => v = .ref a
  | .wtp l, v => ∃ a xs, v = .ref a ∧ SqT K F a xs ∧ TvL K F l xs
  | .dct ks vs, v => ∃ a xs, v = .ref a ∧ F a = some (.dK (ks.zip xs)) ∧ ks.length = vs.length ∧ TvL K F vs xs
def TvL (K : PySem.W.Frag) (F : Hp) : List T → List V → Prop
  | [], xs => xs = []
  | t :: l, xs => ∃ x r, xs = x :: r ∧ Tv K F t x ∧ TvL K F l r
end
section
variable {K : PySem.W.Frag} {F F' H : Hp}
theorem sqw_le (s : Le F F') {a : Addr} {xs : List V} (h : SqT K F a xs) : SqT K F' a xs := by
  rcases h with (h | ⟨o, h⟩) | h
  · exact .inl (.inl (s _ _ h))
  · exact .inl (.inr ⟨o, s _ _ h⟩)
  · exact .inr h
theorem sqt_le (s : Le F F') {a : Addr} {xs : List V} (h : SqN K F a xs) : SqT K F' a xs := sqw_le s h.t
mutual
theorem Tv.le (s : Le F F') : ∀ (t : T) (v : V), Tv K F t v → Tv K F' t v
  | .non, _, h => h
  | .bl _, _, h => h
  | .int _, _, h => h
  | .str _, _, h => h
  | .tup l, _, h => by
    obtain ⟨a, xs, e, h1, h2⟩ := h
    exact ⟨a, xs, e, sqn_le s h1, TvL.le s l xs h2⟩
  | .lst l, _, h => by
    obtain ⟨a, xs, e, h1, h2⟩ := h
    exact ⟨a, xs, e, s _ _ h1, TvL.le s l xs h2⟩
  | .adr _, _, h => h
  | .wtp l, _, h => by
    obtain ⟨a, xs, e, h1, h2⟩ := h
    exact ⟨a, xs, e, sqw_le s h1, TvL.le s l xs h2⟩
  | .dct ks vs, _, h => by
    obtain ⟨a, xs, e, h1, h0, h2⟩ := h
    exact ⟨a, xs, e, s _ _ h1, h0, TvL.le s vs xs h2⟩
theorem TvL.le (s : Le F F') : ∀ (l : List T) (xs : List V), TvL K F l xs → TvL K F' l xs
  | [], _, h => h
  | t :: l, _, h => by
    obtain ⟨x, r, e, h1, h2⟩ := h
    exact ⟨x, r, e, Tv.le s t x h1, TvL.le s l r h2⟩
end
theorem TvL.length : ∀ {l : List T} {xs : List V}, TvL K F l xs → xs.length = l.length
  | [], _, h => by
    rw [show _ = _ from h]
    rfl
  | t :: l, _, h => by
    obtain ⟨x, r, rfl, _, h2⟩ := h
    rw [List.length_cons, List.length_cons, TvL.length h2]
theorem TvL.get : ∀ {l : List T} {xs : List V} {i : Nat} {t : T}, TvL K F l xs → l[i]? = some t → ∃ x, xs[i]? = some x ∧ Tv K F t x
  | [], _, _, _, _, e => by simp at e
  | u :: l, _, 0, t, h, e => by
    obtain ⟨x, r, rfl, h1, _⟩ := h
    have e1 : u = t := Option.some.inj e
    exact ⟨x, rfl, e1 ▸ h1⟩
  | u :: l, _, i + 1, t, h, e => by
    obtain ⟨x, r, rfl, _, h2⟩ := h
    exact TvL.get (i := i) h2 e
theorem TvL.get' : ∀ {l : List T} {xs : List V} {i : Nat} {x : V}, TvL K F l xs → xs[i]? = some x → ∃ t, l[i]? = some t ∧ Tv K F t x
  | [], xs, _, _, h, e => by
    rw [show xs = [] from h] at e
    simp at e
  | u :: l, _, 0, t, h, e => by
    obtain ⟨x, r, rfl, h1, _⟩ := h
    have e1 : x = t := Option.some.inj e
    exact ⟨u, rfl, e1 ▸ h1⟩
  | u :: l, _, i + 1, t, h, e => by
    obtain ⟨x, r, rfl, _, h2⟩ := h
    exact TvL.get' (i := i) h2 e
theorem TvL.app : ∀ {l m : List T} {xs ys : List V}, TvL K F l xs → TvL K F m ys → TvL K F (l ++ m) (xs ++ ys)
  | [], m, xs, ys, h, hv => by
    rw [show xs = [] from h]
    exact hv
  | u :: l, _, _, _, h, hv => by
    obtain ⟨x, r, rfl, h1, h2⟩ := h
    exact ⟨x, r ++ _, rfl, h1, TvL.app h2 hv⟩
theorem TvL.one {t : T} {v : V} (h : Tv K F t v) : TvL K F [t] [v] := ⟨v, [], rfl, h, rfl⟩
theorem TvL.take : ∀ {l : List T} {xs : List V} (n : Nat), TvL K F l xs → TvL K F (l.take n) (xs.take n)
  | _, _, 0, _ => rfl
  | [], xs, n + 1, h => by
    rw [show xs = [] from h]
    rfl
  | t :: l, _, n + 1, h => by
    obtain ⟨x, r, rfl, h1, h2⟩ := h
    exact ⟨x, r.take n, rfl, h1, TvL.take n h2⟩
theorem TvL.drop : ∀ {l : List T} {xs : List V} (n : Nat), TvL K F l xs → TvL K F (l.drop n) (xs.drop n)
  | _, _, 0, h => h
  | [], xs, n + 1, h => by
    rw [show xs = [] from h]
    rfl
  | t :: l, _, n + 1, h => by
    obtain ⟨x, r, rfl, h1, h2⟩ := h
    exact TvL.drop n h2
theorem TvL.set : ∀ {l : List T} {xs : List V} (i : Nat) {t : T} {v : V}, TvL K F l xs → Tv K F t v → TvL K F (l.set i t) (xs.set i v)
  | [], xs, _, _, _, h, _ => by
    rw [show xs = [] from h]
    rfl
  | u :: l, _, 0, t, v, h, hv => by
    obtain ⟨x, r, rfl, h1, h2⟩ := h
    exact ⟨v, r, rfl, hv, h2⟩
  | u :: l, _, i + 1, t, v, h, hv => by
    obtain ⟨x, r, rfl, h1, h2⟩ := h
    exact ⟨x, r.set i v, rfl, h1, TvL.set i h2 hv⟩
theorem TvL.eraseIdx : ∀ {l : List T} {xs : List V} (i : Nat), TvL K F l xs → TvL K F (l.eraseIdx i) (xs.eraseIdx i)
  | [], xs, _, h => by
    rw [show xs = [] from h]
    rfl
  | u :: l, _, 0, h => by
    obtain ⟨x, r, rfl, h1, h2⟩ := h
    exact h2
  | u :: l, _, i + 1, h => by
    obtain ⟨x, r, rfl, h1, h2⟩ := h
    exact ⟨x, r.eraseIdx i, rfl, h1, TvL.eraseIdx i h2⟩
theorem TvL.rev : ∀ {l : List T} {xs : List V}, TvL K F l xs → TvL K F l.reverse xs.reverse
  | [], xs, h => by
    rw [show xs = [] from h]
    rfl
  | u :: l, _, h => by
    obtain ⟨x, r, rfl, h1, h2⟩ := h
    rw [List.reverse_cons, List.reverse_cons]
    exact TvL.app (TvL.rev h2) (TvL.one h1)
theorem TvL.rep {l : List T} {xs : List V} (h : TvL K F l xs) : ∀ k : Nat, TvL K F (List.replicate k l).flatten (List.replicate k xs).flatten
  | 0 => rfl
  | k + 1 => by
    rw [List.replicate_succ, List.replicate_succ, List.flatten_cons, List.flatten_cons]
    exact TvL.app h (TvL.rep h k)
theorem TvL.ints : ∀ {l : List T} {xs : List V} (ns : List Int), l = ns.map T.int → TvL K F l xs → xs = ns.map V.int
  | _, xs, [], rfl, h => h
  | _, xs, n :: ns, rfl, h => by
    obtain ⟨x, r, rfl, h1, h2⟩ := h
    rw [show x = V.int n from h1, TvL.ints ns rfl h2]
    rfl
theorem TvL.strs : ∀ {l : List T} {xs : List V} (ns : List Str), l = ns.map T.str → TvL K F l xs → xs = ns.map V.str
  | _, xs, [], rfl, h => h
  | _, xs, n :: ns, rfl, h => by
    obtain ⟨x, r, rfl, h1, h2⟩ := h
    rw [show x = V.str n from h1, TvL.strs ns rfl h2]
    rfl
theorem TvL.bls : ∀ {l : List T} {xs : List V} (ns : List Bool), l = ns.map T.bl → TvL K F l xs → xs = ns.map V.bl
  | _, xs, [], rfl, h => h
  | _, xs, n :: ns, rfl, h => by
    obtain ⟨x, r, rfl, h1, h2⟩ := h
    rw [show x = V.bl n from h1, TvL.bls ns rfl h2]
    rfl
theorem tvl_ints : ∀ ns : List Int, TvL K F (ns.map T.int) (ns.map V.int)
  | [] => rfl
  | _ :: ns => ⟨_, _, rfl, rfl, tvl_ints ns⟩
theorem tvl_strs : ∀ ns : List Str, TvL K F (ns.map T.str) (ns.map V.str)
  | [] => rfl
  | _ :: ns => ⟨_, _, rfl, rfl, tvl_strs ns⟩
end
/-! ### what a law keeps: the draws' object, tables of code -/
structure Wld where
  D : Addr → Prop
  A : Addr → Prop
  ok : Hp → Prop
  sub : ∀ a, D a → A a
  stb : ∀ H H' : Hp, (∀ a, A a → H' a = H a) → ok H → ok H'
  al : ∀ (H : Hp) a, ok H → A a → H a ≠ none
/-! ### what an object of one's own holds -/
def Ow (K : PySem.W.Frag) (F : Hp) : T → HO → Prop
  | .lst l, o => ∃ xs, o = .lst xs ∧ TvL K F l xs
  | .dct ks vs, o => ∃ xs, o = .dK (ks.zip xs) ∧ ks.length = vs.length ∧ TvL K F vs xs
  | _, _ => False
theorem Ow.le {K : PySem.W.Frag} {F F' : Hp} (s : Le F F') {t : T} {o : HO} (h : Ow K F t o) : Ow K F' t o := by
  cases t <;> first | exact h.elim | skip
  · obtain ⟨xs, e, h⟩ := h
    exact ⟨xs, e, TvL.le s _ _ h⟩
  · obtain ⟨xs, e, h0, h⟩ := h
    exact ⟨xs, e, h0, TvL.le s _ _ h⟩
theorem Ow.tv {K : PySem.W.Frag} {F : Hp} {t : T} {o : HO} {a : Addr} (h : Ow K F t o) (e : F a = some o) : Tv K F t (.ref a) := by
  cases t <;> first | exact h.elim | skip
  · obtain ⟨xs, rfl, h⟩ := h
    exact ⟨a, xs, rfl, e, h⟩
  · obtain ⟨xs, rfl, h0, h⟩ := h
    exact ⟨a, xs, rfl, e, h0, h⟩
/-! ### slots -/
inductive Sl where
  | no | fz (t : T) | own (t : T)
abbrev Sl.ow (l : List T) : Sl := Sl.own (.lst l)
abbrev Sl.od (ks : List Key) (vs : List T) : Sl := Sl.own (.dct ks vs)
abbrev PS' : Type := List Sl
/-- F: what is frozen; B: what the callers keep; F0: what was frozen at the start -/
structure Rep (K : PySem.W.Frag) (W : Wld) (B F0 : Hp) (ρ : PS') (σ : L2.St) (F H : Hp) : Prop where
  fh : Le F H
  f0 : Le F0 F
  fd : ∀ a, F a ≠ none → F0 a ≠ none ∨ B a = none
  bh : Le B H
  ok : W.ok H
  wf : ∀ a, W.D a → F a = none
  wb : ∀ a, W.D a → B a = none
  ln : ρ.length = σ.length
  fz : ∀ (i : Nat) (t : T), ρ[i]? = some (Sl.fz t) → ∃ v, σ[i]? = some (some v) ∧ Tv K F t v
  own : ∀ (i : Nat) (t : T), ρ[i]? = some (Sl.own t) → ∃ a o, σ[i]? = some (some (V.ref a)) ∧ H a = some o ∧ Ow K F t o ∧ F a = none ∧ B a = none ∧ ¬ W.A a
  ds : ∀ (i j : Nat) (t u : T), ρ[i]? = some (Sl.own t) → ρ[j]? = some (Sl.own u) → σ[i]? = σ[j]? → i = j
theorem Rep.ow {K : PySem.W.Frag} {W : Wld} {B F0 F H : Hp} {ρ : PS'} {σ : L2.St} (R : Rep K W B F0 ρ σ F H) (i : Nat) (l : List T) (h : ρ[i]? = some (Sl.ow l)) : ∃ a xs, σ[i]? = some (some (V.ref a)) ∧ H a = some (.lst xs) ∧ TvL K F l xs ∧ F a = none ∧ B a = none ∧ ¬ W.A a := by
  obtain ⟨a, o, e1, e2, ⟨xs, rfl, e3⟩, e4⟩ := R.own i _ h
  exact ⟨a, xs, e1, e2, e3, e4⟩
theorem Rep.od {K : PySem.W.Frag} {W : Wld} {B F0 F H : Hp} {ρ : PS'} {σ : L2.St} (R : Rep K W B F0 ρ σ F H) (i : Nat) (ks : List Key) (vs : List T) (h : ρ[i]? = some (Sl.od ks vs)) : ∃ a xs, σ[i]? = some (some (V.ref a)) ∧ H a = some (.dK (ks.zip xs)) ∧ ks.length = vs.length ∧ TvL K F vs xs ∧ F a = none ∧ B a = none ∧ ¬ W.A a := by
  obtain ⟨a, o, e1, e2, ⟨xs, rfl, e0, e3⟩, e4⟩ := R.own i _ h
  exact ⟨a, xs, e1, e2, e0, e3, e4⟩
/-- a value that an expression gave: frozen, or a new list that nobody else has -/
def VR (K : PySem.W.Frag) (W : Wld) (B : Hp) (ρ : PS') (σ : L2.St) (F H : Hp) (t : T) (f : Bool) (v : V) : Prop :=
  match f with
  | false => Tv K F t v
  | true => ∃ a o, v = .ref a ∧ Ow K F t o ∧ H a = some o ∧ F a = none ∧ B a = none ∧ ¬ W.A a ∧ ∀ (i : Nat) (u : T), ρ[i]? = some (Sl.own u) → σ[i]? ≠ some (some (V.ref a))
theorem some_ne {H : Hp} {a : Addr} {o : HO} (h : H a = some o) : H a ≠ none := fun e => by rw [h] at e; cases e
theorem none_of_le {F H : Hp} (s : Le F H) {a : Addr} (h : H a = none) : F a = none := by
  cases e : F a with
  | none => rfl
  | some o => rw [s _ _ e] at h; cases h
section
variable {K : PySem.W.Frag} {W : Wld} {B F0 F H : Hp} {ρ : PS'} {σ : L2.St}
/-- the new list is frozen -/
theorem Rep.freeze (R : Rep K W B F0 ρ σ F H) {t : T} {f : Bool} {v : V} (h : VR K W B ρ σ F H t f v) : ∃ F', Rep K W B F0 ρ σ F' H ∧ Le F F' ∧ Tv K F' t v := by
  cases f with
  | false => exact ⟨F, R, Le.refl _, h⟩
  | true =>
    obtain ⟨a, ob, rfl, h2, h1, h3, h4, h5, h6⟩ := h
    have le : Le F (upd F a ob) := fun b o e => by
      rw [upd_ne (ne_of_none e h3)]
      exact e
    refine ⟨upd F a ob, ⟨fun b o e => ?_, R.f0.trans le, fun b e => ?_, R.bh, R.ok, fun b e => ?_, R.wb, R.ln, fun i t e => ?_, fun i l' e => ?_, R.ds⟩, le, (h2.le le).tv upd_same⟩
    · by_cases hb : b = a
      · rw [hb, upd_same] at e
        cases e
        rw [hb]
        exact h1
      · rw [upd_ne hb] at e
        exact R.fh _ _ e
    · by_cases hb : b = a
      · rw [hb]
        exact .inr h4
      · rw [upd_ne hb] at e
        exact R.fd _ e
    · have hb : b ≠ a := fun z => h5 (z ▸ W.sub _ e)
      rw [upd_ne hb]
      exact R.wf _ e
    · obtain ⟨v, e1, e2⟩ := R.fz i t e
      exact ⟨v, e1, Tv.le le _ _ e2⟩
    · obtain ⟨b, ys, e1, e2, e3, e4, e5, e6⟩ := R.own i l' e
      have hb : b ≠ a := fun z => h6 i l' e (z ▸ e1)
      exact ⟨b, ys, e1, e2, e3.le le, by rw [upd_ne hb]; exact e4, e5, e6⟩
/-- .. and so what a slot owns -/
theorem Rep.freezeSl (R : Rep K W B F0 ρ σ F H) {i : Nat} {u : T} (h : ρ[i]? = some (Sl.own u)) : ∃ F', Rep K W B F0 (ρ.set i (Sl.fz u)) σ F' H ∧ Le F F' := by
  obtain ⟨a, ob, h0, h1, h2, h3, h4, h5⟩ := R.own i u h
  have hi : i < ρ.length := (List.getElem?_eq_some_iff.mp h).1
  have le : Le F (upd F a ob) := fun b o e => by
    rw [upd_ne (ne_of_none e h3)]
    exact e
  refine ⟨upd F a ob, ⟨fun b o e => ?_, R.f0.trans le, fun b e => ?_, R.bh, R.ok, fun b e => ?_, R.wb, by rw [List.length_set]; exact R.ln, fun j t e => ?_, fun j l' e => ?_, fun j k m m' e1 e2 => ?_⟩, le⟩
  · by_cases hb : b = a
    · rw [hb, upd_same] at e
      cases e
      rw [hb]
      exact h1
    · rw [upd_ne hb] at e
      exact R.fh _ _ e
  · by_cases hb : b = a
    · rw [hb]
      exact .inr h4
    · rw [upd_ne hb] at e
      exact R.fd _ e
  · have hb : b ≠ a := fun z => h5 (z ▸ W.sub _ e)
    rw [upd_ne hb]
    exact R.wf _ e
  · by_cases hj : i = j
    · subst hj
      rw [List.getElem?_set_self hi] at e
      cases e
      exact ⟨_, h0, (h2.le le).tv upd_same⟩
    · rw [List.getElem?_set_ne hj] at e
      obtain ⟨v, e1, e2⟩ := R.fz j t e
      exact ⟨v, e1, Tv.le le _ _ e2⟩
  · by_cases hj : i = j
    · subst hj
      rw [List.getElem?_set_self hi] at e
      cases e
    · rw [List.getElem?_set_ne hj] at e
      obtain ⟨b, ys, e1, e2, e3, e4, e5, e6⟩ := R.own j l' e
      have hb : b ≠ a := fun z => hj (R.ds i j _ _ h e (by rw [h0, e1, z]))
      exact ⟨b, ys, e1, e2, e3.le le, by rw [upd_ne hb]; exact e4, e5, e6⟩
  · have z : ∀ {j : Nat} {m : T}, (ρ.set i (Sl.fz u))[j]? = some (Sl.own m) → ρ[j]? = some (Sl.own m) := fun {j m} e => by
      by_cases hj : i = j
      · subst hj
        rw [List.getElem?_set_self hi] at e
        cases e
      · rw [List.getElem?_set_ne hj] at e
        exact e
    exact R.ds j k m m' (z e1) (z e2)
/-- a heap that keeps all but one new address -/
theorem Rep.grow (R : Rep K W B F0 ρ σ F H) {p : Addr} {o : HO} (n : H p = none) : Rep K W B F0 ρ σ F (upd H p o) := by
  have le : Le H (upd H p o) := fun b u e => by
    rw [upd_ne (ne_of_none e n)]
    exact e
  have nA : ¬ W.A p := fun z => W.al H p R.ok z n
  refine ⟨R.fh.trans le, R.f0, R.fd, R.bh.trans le, W.stb H _ (fun a ha => ?_) R.ok, R.wf, R.wb, R.ln, R.fz, fun i l e => ?_, R.ds⟩
  · rw [upd_ne (fun (z : a = p) => nA (z ▸ ha))]
  · obtain ⟨a, xs, h0, h1, h2⟩ := R.own i l e
    exact ⟨a, xs, h0, le _ _ h1, h2⟩
theorem Rep.newT0 (R : Rep K W B F0 ρ σ F H) {p : Addr} {o : HO} (n : H p = none) : ∃ F', Rep K W B F0 ρ σ F' (upd H p o) ∧ Le F F' ∧ F' p = some o := by
  have nF := none_of_le R.fh n
  have le : Le F (upd F p o) := fun b u e => by
    rw [upd_ne (ne_of_none e nF)]
    exact e
  have R1 := R.grow (o := o) n
  have nA : ¬ W.A p := fun z => W.al H p R.ok z n
  refine ⟨upd F p o, ⟨fun b u e => ?_, R.f0.trans le, fun b e => ?_, R1.bh, R1.ok, fun b e => ?_, R.wb, R.ln, fun i t e => ?_, fun i l' e => ?_, R.ds⟩, le, upd_same⟩
  · by_cases hb : b = p
    · rw [hb, upd_same] at e
      cases e
      rw [hb, upd_same]
    · rw [upd_ne hb] at e
      exact R1.fh _ _ e
  · by_cases hb : b = p
    · rw [hb]
      exact .inr (none_of_le R.bh n)
    · rw [upd_ne hb] at e
      exact R.fd _ e
  · rw [upd_ne (fun (z : b = p) => nA (z ▸ W.sub _ e))]
    exact R.wf _ e
  · obtain ⟨v, e1, e2⟩ := R.fz i t e
    exact ⟨v, e1, Tv.le le _ _ e2⟩
  · obtain ⟨a, ys, e1, e2, e3, e4, e5, e6⟩ := R1.own i l' e
    obtain ⟨a', ys', e1', e2', _⟩ := R.own i l' e
    have ea : a = a' := by
      rw [e1] at e1'
      cases e1'
      rfl
    have hb : a ≠ p := fun z => by
      rw [← ea, z, n] at e2'
      cases e2'
    exact ⟨a, ys, e1, e2, e3.le le, by rw [upd_ne hb]; exact e4, e5, e6⟩
theorem Rep.newT (R : Rep K W B F0 ρ σ F H) {p : Addr} {l : List T} {xs : List V} {o : Obj} (n : H p = none) (d : o.dict = none) (h : TvL K F l xs) : ∃ F', Rep K W B F0 ρ σ F' (upd H p (.frz o (.tup xs))) ∧ Le F F' ∧ Tv K F' (.tup l) (.ref p) := by
  obtain ⟨F', R', le, e⟩ := R.newT0 (o := .frz o (.tup xs)) n
  exact ⟨F', R', le, p, xs, rfl, .inl ⟨o, d, e⟩, TvL.le le _ _ h⟩
theorem Rep.newW (R : Rep K W B F0 ρ σ F H) {p : Addr} {l : List T} {xs : List V} (n : H p = none) (h : TvL K F l xs) : ∃ F', Rep K W B F0 ρ σ F' (upd H p (.tup xs)) ∧ Le F F' ∧ Tv K F' (.wtp l) (.ref p) := by
  obtain ⟨F', R', le, e⟩ := R.newT0 (o := .tup xs) n
  exact ⟨F', R', le, p, xs, rfl, SqT.of e, TvL.le le _ _ h⟩
theorem Rep.newO (R : Rep K W B F0 ρ σ F H) {p : Addr} {t : T} {o : HO} (n : H p = none) (h : Ow K F t o) : Rep K W B F0 ρ σ F (upd H p o) ∧ VR K W B ρ σ F (upd H p o) t true (.ref p) := by
  refine ⟨R.grow n, p, o, rfl, h, upd_same, none_of_le R.fh n, none_of_le R.bh n, fun z => W.al H p R.ok z n, fun i l' e z => ?_⟩
  obtain ⟨a, ys, e1, e2, _⟩ := R.own i l' e
  rw [e1] at z
  cases z
  rw [n] at e2
  cases e2
theorem Rep.newL (R : Rep K W B F0 ρ σ F H) {p : Addr} {l : List T} {xs : List V} (n : H p = none) (h : TvL K F l xs) : Rep K W B F0 ρ σ F (upd H p (.lst xs)) ∧ VR K W B ρ σ F (upd H p (.lst xs)) (.lst l) true (.ref p) := R.newO (t := .lst l) n ⟨xs, rfl, h⟩
theorem Rep.newD (R : Rep K W B F0 ρ σ F H) {p : Addr} {ks : List Key} {vs : List T} {xs : List V} (n : H p = none) (e : ks.length = vs.length) (h : TvL K F vs xs) : Rep K W B F0 ρ σ F (upd H p (.dK (ks.zip xs))) ∧ VR K W B ρ σ F (upd H p (.dK (ks.zip xs))) (.dct ks vs) true (.ref p) := R.newO (t := .dct ks vs) n ⟨xs, rfl, e, h⟩
theorem VR.lst {l : List T} {a : Addr} {xs : List V} (h1 : H a = some (.lst xs)) (h2 : TvL K F l xs) (h3 : F a = none) (h4 : B a = none) (h5 : ¬ W.A a) (h6 : ∀ (i : Nat) (u : T), ρ[i]? = some (Sl.own u) → σ[i]? ≠ some (some (V.ref a))) : VR K W B ρ σ F H (.lst l) true (.ref a) := ⟨a, _, rfl, ⟨xs, rfl, h2⟩, h1, h3, h4, h5, h6⟩
/-- a slot is set to a value -/
def Sl.of : T → Bool → Sl
  | .lst l, true => .own (.lst l)
  | .dct ks vs, true => .own (.dct ks vs)
  | t, _ => .fz t
theorem Rep.set (R : Rep K W B F0 ρ σ F H) {t : T} {f : Bool} {v : V} (h : VR K W B ρ σ F H t f v) (i : Nat) : Rep K W B F0 (ρ.set i (Sl.of t f)) (σ.set i (some v)) F H := by
  by_cases hi : i < ρ.length
  · have hs : i < σ.length := by rw [← R.ln]; exact hi
    refine ⟨R.fh, R.f0, R.fd, R.bh, R.ok, R.wf, R.wb, by rw [List.length_set, List.length_set]; exact R.ln, fun j u e => ?_, fun j l e => ?_, fun j k l m e1 e2 e3 => ?_⟩
    · by_cases hj : i = j
      · subst hj
        rw [List.getElem?_set_self hi] at e
        rw [List.getElem?_set_self hs]
        refine ⟨v, rfl, ?_⟩
        cases f with
        | false =>
          have : t = u := by cases t <;> exact Sl.fz.inj (Option.some.inj e)
          rw [← this]
          exact h
        | true =>
          obtain ⟨_, _, _, z, _⟩ := h
          cases t <;> first | exact z.elim | cases e
      · rw [List.getElem?_set_ne hj] at e
        rw [List.getElem?_set_ne hj]
        exact R.fz j u e
    · by_cases hj : i = j
      · subst hj
        rw [List.getElem?_set_self hi] at e
        rw [List.getElem?_set_self hs]
        cases f with
        | false => cases t <;> cases e
        | true =>
          obtain ⟨a, o, rfl, h2, h1, h3, h4, h5, h6⟩ := h
          have : t = l := by cases t <;> first | exact h2.elim | exact Sl.own.inj (Option.some.inj e)
          rw [← this]
          exact ⟨a, o, rfl, h1, h2, h3, h4, h5⟩
      · rw [List.getElem?_set_ne hj] at e
        rw [List.getElem?_set_ne hj]
        exact R.own j l e
    · have new : ∀ {j : Nat} {l : T}, (ρ.set i (Sl.of t f))[j]? = some (Sl.own l) → i = j → ∃ a, v = .ref a ∧ ∀ (k : Nat) (l' : T), ρ[k]? = some (Sl.own l') → σ[k]? ≠ some (some (V.ref a)) := fun {j l} e hj => by
        subst hj
        rw [List.getElem?_set_self hi] at e
        cases f with
        | false => cases t <;> cases e
        | true =>
          obtain ⟨a, o, rfl, h2, h1, h3, h4, h5, h6⟩ := h
          exact ⟨a, rfl, h6⟩
      by_cases hj : i = j
      · by_cases hk : i = k
        · omega
        · obtain ⟨a, rfl, h6⟩ := new e1 hj
          rw [List.getElem?_set_ne hk] at e2 e3
          rw [← hj, List.getElem?_set_self hs] at e3
          exact absurd e3.symm (h6 k m e2)
      · by_cases hk : i = k
        · obtain ⟨a, rfl, h6⟩ := new e2 hk
          rw [List.getElem?_set_ne hj] at e1 e3
          rw [← hk, List.getElem?_set_self hs] at e3
          exact absurd e3 (h6 j l e1)
        · rw [List.getElem?_set_ne hj] at e1 e3
          rw [List.getElem?_set_ne hk] at e2 e3
          exact R.ds j k l m e1 e2 e3
  · have hs : ¬ i < σ.length := by rw [← R.ln]; exact hi
    rw [List.set_eq_of_length_le (by omega), List.set_eq_of_length_le (by omega)]
    exact R
/-- what a slot owns is changed -/
theorem Rep.mutO (R : Rep K W B F0 ρ σ F H) {i : Nat} {t u : T} {a : Addr} {ob : HO} (h : ρ[i]? = some (Sl.own t)) (ha : σ[i]? = some (some (V.ref a))) (hm : Ow K F u ob) : Rep K W B F0 (ρ.set i (Sl.own u)) σ F (upd H a ob) := by
  have hi : i < ρ.length := (List.getElem?_eq_some_iff.mp h).1
  obtain ⟨a', xs, h0, h1, h2, h3, h4, h5⟩ := R.own i t h
  obtain rfl : a' = a := by
    rw [ha] at h0
    cases h0
    rfl
  have nb : ∀ {G : Hp} (s : G a' = none) {b : Addr} {o : HO}, G b = some o → b ≠ a' := fun {G} s {b o} e z => by
    rw [z, s] at e
    cases e
  refine ⟨fun b o e => ?_, R.f0, R.fd, fun b o e => ?_, W.stb H _ (fun b hb => ?_) R.ok, R.wf, R.wb, by rw [List.length_set]; exact R.ln, fun j t e => ?_, fun j l' e => ?_, fun j k m1 m2 e1 e2 => ?_⟩
  · rw [upd_ne (nb h3 e)]
    exact R.fh _ _ e
  · rw [upd_ne (nb h4 e)]
    exact R.bh _ _ e
  · rw [upd_ne (fun (z : b = a') => h5 (z ▸ hb))]
  · by_cases hj : i = j
    · subst hj
      rw [List.getElem?_set_self hi] at e
      cases e
    · rw [List.getElem?_set_ne hj] at e
      exact R.fz j t e
  · by_cases hj : i = j
    · subst hj
      rw [List.getElem?_set_self hi] at e
      cases e
      exact ⟨a', ob, ha, upd_same, hm, h3, h4, h5⟩
    · rw [List.getElem?_set_ne hj] at e
      obtain ⟨b, zs, e1, e2, e3⟩ := R.own j l' e
      have hb : b ≠ a' := fun z => hj (R.ds i j _ _ h e (by rw [ha, e1, z]))
      exact ⟨b, zs, e1, by rw [upd_ne hb]; exact e2, e3⟩
  · have z : ∀ {j : Nat} {m' : T}, (ρ.set i (Sl.own u))[j]? = some (Sl.own m') → ∃ m'', ρ[j]? = some (Sl.own m'') := fun {j m'} e => by
      by_cases hj : i = j
      · subst hj
        exact ⟨_, h⟩
      · rw [List.getElem?_set_ne hj] at e
        exact ⟨_, e⟩
    obtain ⟨_, z1⟩ := z e1
    obtain ⟨_, z2⟩ := z e2
    exact R.ds j k _ _ z1 z2
theorem Rep.mut (R : Rep K W B F0 ρ σ F H) {i : Nat} {l m : List T} {a : Addr} {ys : List V} (h : ρ[i]? = some (Sl.ow l)) (ha : σ[i]? = some (some (V.ref a))) (hm : TvL K F m ys) : Rep K W B F0 (ρ.set i (Sl.ow m)) σ F (upd H a (.lst ys)) := R.mutO h ha ⟨ys, rfl, hm⟩
end
end Y

/-! makers of tuples whose object is known: it has no dict -/
namespace Y
open PySem PySem.Spec PyProof.Rows L2 RT RZ
theorem frz_new {P : Program} {w : World} {H : Hp} {h : Heap} {xs : List V} {its : List Value} (hz : xs.length ≤ sizeLine) (r : Vals xs its) :
    ObjOk P w H (h.push { cls := .type "tuple", data := .seq its.toArray }) h.objs.size (.frz { cls := .type "tuple", data := .seq its.toArray } (.tup xs)) :=
  ⟨Heap.get?_push_size _ rfl, hz, its, r, IsTup.new _ _⟩
theorem frz_newA {P : Program} {w : World} {H : Hp} {h : Heap} {xs : List V} {acc : Array Value} (hz : xs.length ≤ sizeLine) (r : Vals xs acc.toList) :
    ObjOk P w H (h.push { cls := .type "tuple", data := .seq acc }) h.objs.size (.frz { cls := .type "tuple", data := .seq acc } (.tup xs)) :=
  ⟨Heap.get?_push_size _ rfl, hz, acc.toList, r, by rw [Array.toArray_toList]; exact IsTup.new _ _⟩
section
variable {X : Cx} {es : List Expr} {pos : Pos} {t : TA}
def tTupN (t : TA) : TE := fun σ H Q => t σ H fun xs H1 => xs.length ≤ sizeLine ∧ ∀ p (o : Obj), H1 p = none → o.dict = none → Q (.ref p) (upd H1 p (.frz o (.tup xs)))
theorem pe_tupN {x1} (h : PA X es t) : PE X (.Tuple es x1 pos) (tTupN t) := by
  refine ⟨fun pins s σ H Q I hq => ?_⟩
  refine wpAny_Tuple_spliced (thn (h.run pos pins s σ H _ I hq) fun us s1 ⟨xs, H1, I1, r, z, q⟩ => ⟨by rw [← r.length]; exact z, ?_⟩)
  have hf : H1 s1.heap.objs.size = none := I1.hok.fresh (Nat.le_refl _)
  exact ⟨.ref s1.heap.objs.size, upd H1 s1.heap.objs.size (.frz { cls := .type "tuple", data := .seq us.toArray } (.tup xs)), I1.laid (t' := s1.toks) (fun b u e => Heap.get?_push_of_some _ e) (Nat.le_refl _) (frz_new z r), rfl, q _ _ hf rfl⟩
def rCatN (K : PySem.W.Frag) : R2 := fun x y H Q => ∃ a b xs ys, x = .ref a ∧ y = .ref b ∧ SqT K H a xs ∧ SqT K H b ys ∧ xs.length + ys.length ≤ sizeLine ∧
  (xs = [] → Q (.ref b) H) ∧ (xs ≠ [] → ys = [] → Q (.ref a) H) ∧ (xs ≠ [] → ys ≠ [] → ∀ p (o : Obj), H p = none → o.dict = none → Q (.ref p) (upd H p (.frz o (.tup (xs ++ ys)))))
theorem op_catN : OpR X (binaryOp .Add) (rCatN X.K) := by
  intro pins s σ H x y v u Q I rx ry h
  obtain ⟨a, b, xs, ys, rfl, rfl, ha, hb, hz, q0, q1, q2⟩ := h
  cases rx
  cases ry
  obtain ⟨its, r1, p1, _⟩ := I.tuple ha
  obtain ⟨its2, r2, p2, _⟩ := I.tuple hb
  by_cases hx : xs = []
  · subst hx
    cases r1
    exact cat_tup0 p1 p2 ⟨.ref b, H, I, rfl, q0 rfl⟩
  · refine HT.cat_tup p1 p2 (fun z => hx (r1.nil_iff.mp z)) (fun z => ⟨.ref a, H, I, rfl, q1 hx (r2.nil_iff.mp z)⟩) (fun z => ?_) (by rw [← r1.length, ← r2.length]; exact hz)
    exact ⟨.ref s.heap.objs.size, _, I.laid (t' := s.toks) (fun b ob q => Heap.get?_push_of_some _ q) (Nat.le_refl _) (frz_new (by rw [List.length_append]; exact hz) (r1.append r2)), rfl, q2 hx (fun w => z (r2.nil_iff.mpr w)) _ _ (I.hok.fresh (Nat.le_refl _)) rfl⟩
def rSlN (K : PySem.W.Frag) : V → Option Int → Option Int → Hp → VK → Prop := fun x lo hi H Q => ∃ a xs, x = .ref a ∧ SqT K H a xs ∧
  (HT.sIx xs.length 0 lo = 0 ∧ HT.sIx xs.length xs.length hi = xs.length → Q (.ref a) H) ∧ (¬ (HT.sIx xs.length 0 lo = 0 ∧ HT.sIx xs.length xs.length hi = xs.length) → ∀ p (o : Obj), H p = none → o.dict = none → Q (.ref p) (upd H p (.frz o (.tup (cutV xs lo hi)))))
theorem sl_tupN : SlR X (rSlN X.K) := by
  intro pins s σ H x v vl vu lo hi sl Q I rx hs pl pu h
  obtain ⟨a, xs, rfl, hx, q1, q2⟩ := h
  cases rx
  obtain ⟨its, r, ht, hz⟩ := I.tuple hx
  have hlen : its.toArray.size = xs.length := by rw [List.size_toArray]; exact r.length.symm
  refine ⟨"tuple", _, PyProof.Rows.slot_tuple_getitem.lookup, ht.typeIs, ?_⟩
  by_cases hw : HT.sIx xs.length 0 lo = 0 ∧ HT.sIx xs.length xs.length hi = xs.length
  · exact getItem_tuple_whole ht hs pl pu (by rw [hlen]; exact hw) ⟨.ref a, H, I, rfl, q1 hw⟩
  · refine HT.getItem_tuple_cut ht hs pl pu (by rw [hlen]; exact hw) ?_ (by rw [hlen]; exact hz)
    rw [hlen]
    exact ⟨.ref s.heap.objs.size, _, I.laid (t' := s.toks) (fun b ob q => Heap.get?_push_of_some _ q) (Nat.le_refl _) (frz_new (Nat.le_trans (cutV_length xs lo hi) hz) ((r.drop (HT.sIx xs.length 0 lo)).take (HT.sIx xs.length xs.length hi - HT.sIx xs.length 0 lo))), rfl, q2 hw _ _ (I.hok.fresh (Nat.le_refl _)) rfl⟩
theorem call_tupleN : CallR X (.type "tuple") (fun xs H Q => ∃ p ys, xs = [.ref p] ∧ ((SqL X.K H p ys ∧ ∀ l (o : Obj), H l = none → o.dict = none → Q (.ref l) (upd H l (.frz o (.tup ys)))) ∨ (SqT X.K H p ys ∧ Q (.ref p) H))) := by
  intro pins s σ H xs us Q I r h
  obtain ⟨p, ys, rfl, h⟩ := h
  obtain ⟨u, rfl, rx⟩ := vals1 r
  cases rx
  rcases h with ⟨hq, q⟩ | ⟨hq, q⟩
  · obtain ⟨its, r', pl, hz⟩ := I.list hq
    have hlen := r'.length
    refine call_tuple_list pl.isList (fun h' kp => ?_) (by simp only [List.size_toArray] <;> omega)
    have I1 : Inv X pins σ H { s with heap := h' } := I.kept (t' := s.toks) kp
    have I2 : Inv X pins σ (upd H h'.objs.size (.frz { cls := .type "tuple", data := .seq its.toArray } (.tup ys))) { s with heap := h'.push { cls := .type "tuple", data := .seq its.toArray } } :=
      I1.laid (t' := s.toks) (fun b o e => Heap.get?_push_of_some _ e) (Nat.le_refl _) (frz_new hz r')
    exact ⟨.ref h'.objs.size, _, I2, rfl, q _ _ (I1.hok.fresh (Nat.le_refl _)) rfl⟩
  · obtain ⟨its, r', pl, hz⟩ := I.tuple hq
    exact call_tuple_same pl ⟨.ref p, H, I, rfl, q⟩
theorem call_divmodN : CallR X (.builtin "divmod") (fun xs H Q => ∃ i j, xs = [.int i, .int j] ∧ (CDiv i j ∨ CDivP i j) ∧ ∀ p (o : Obj), H p = none → o.dict = none → Q (.ref p) (upd H p (.frz o (.tup [.int (i / j), .int (i % j)])))) := by
  intro pins s σ H xs us Q I r h
  obtain ⟨i, j, rfl, hc, q⟩ := h
  obtain ⟨u, w', rfl, ⟨t, rfl⟩, ⟨t', rfl⟩⟩ := vals2 r
  have hj : 0 < j := by
    rcases hc with ⟨h1, h2⟩ | ⟨h1, h2⟩
    · exact h1
    · exact h1
  refine divmod_int (by omega) ?_ (.inl (by
    rcases hc with ⟨h1, h2⟩ | ⟨h1, h2⟩
    · exact PyProof.noPylong_small (by omega)
    · exact h2))
  rw [Int.fdiv_eq_ediv_of_nonneg i (by omega), Int.fmod_eq_emod_of_nonneg i (by omega)]
  have hn : H s.heap.objs.size = none := I.hok.fresh (Nat.le_refl _)
  exact ⟨.ref s.heap.objs.size, _, I.laid (fun b o e => Heap.get?_push_of_some _ e) (Nat.le_refl _) (frz_new (xs := [.int (i / j), .int (i % j)]) (its := [.int (i / j) s.toks, .int (i % j) (s.toks + 1)]) (by simp only [List.length_cons, List.length_nil]; rw [sizeLine_eq]; decide) (.cons ⟨_, rfl⟩ (.cons ⟨_, rfl⟩ .nil))), rfl, q _ _ hn rfl⟩
end
/-- the value is of that builtin type, a tuple without a dict among them -/
def tyN' (K : PySem.W.Frag) (T : String) (x : V) (H : Hp) : Prop := tyV K T x H ∨ (T = "tuple" ∧ ∃ a xs, x = .ref a ∧ SqN K H a xs)
section
variable {X : Cx} {pins : List (Addr × Obj)} {σ : L2.St} {H : Hp} {s : Shared} {T : String} {x : V} {v : Value}
theorem tyN_is (I : Inv X pins σ H s) (r : RelV x v) (ty : tyN' X.K T x H) : s.TypeIs v T ∧ ∀ a, v = .ref a → ∃ ob, s.heap.get? a = some ob ∧ ob.dict = none := by
  rcases ty with ty | ⟨rfl, a, xs, rfl, h⟩
  · exact tyV_is I r ty
  · cases r
    rcases h with ⟨o, d, h⟩ | ⟨o, its, n, h, hc, hd, _⟩
    · obtain ⟨e, _, its, _, p⟩ := I.hok a _ h
      exact ⟨IsTup.typeIs p, fun b eb => by cases eb; exact ⟨o, e, d⟩⟩
    · have e := I.kIn a o h
      exact ⟨⟨o, e, hc⟩, fun b eb => by cases eb; exact ⟨o, e, hd⟩⟩
end
section
variable {X : Cx} {o e : Expr} {es : List Expr} {to : TE} {t : TA} {r : V → List V → Hp → VK → Prop} {T id : String} {name : Str} {apos cpos : Pos}
def tBN (K : PySem.W.Frag) (T : String) (r : V → List V → Hp → VK → Prop) (to : TE) (t : TA) : TE := fun σ H Q => to σ H fun x H1 => tyN' K T x H1 ∧ t σ H1 fun xs H2 => r x xs H2 Q
theorem pe_bmN (pa : PlainAttrs T) (slot : Slot T name id) (hty : typeOf (.builtin id) = pure (.type "method_descriptor")) (hm : MtR X id r) (ho : PE X o to) (ha : PA X (e :: es) t)
    (hbase : attributeBase o name X.env (eval o X.env) = eval o X.env := by rfl)
    (hfew : ((backTo cpos (starEach (e :: es) X.env)).all (fun x => !x.1) && (backToKw cpos (keywordEach [] X.env)).all (fun x => x.1.isSome)
      && decide ((e :: es).length + ([] : List Keyword).length + (if ([] : List Keyword).isEmpty then 0 else 1) < 30)) = true := by rfl)
    (hline : (apos.endLine == cpos.line) = true := by rfl) (hs : starEach (e :: es) X.env = (false, eval e X.env) :: starEach es X.env := by rfl) (hplain : (backTo cpos (starEach es X.env)).any (·.1) = false := by rfl) :
    PE X (.Call (.Attribute o name apos) (e :: es) [] cpos) (tBN X.K T r to t) := by
  refine ⟨fun pins s σ H Q I h => ?_⟩
  refine wpAny_Call_method_late hbase hfew hline rfl (thn (ho.run pins s σ H _ I h) fun v s1 ⟨x, H1, I1, r1, ty, q1⟩ => ?_)
  obtain ⟨h1, h2⟩ := tyN_is I1 r1 ty
  refine ⟨T, id, pa, slot, hty, h1, h2, ?_⟩
  have hA := ha.run cpos pins s1 σ H1 _ I1 q1
  rw [hs] at hA ⊢
  refine Calls.callWith_builtin (by show (false || (backTo cpos (starEach es X.env)).any (·.1)) = false; rw [hplain] <;> rfl) (Calls.evalArgs_plain ?_)
  exact thn hA fun us s2 ⟨vs, H2, I2, r2, q2⟩ => hm pins s2 σ H2 x vs v us Q I2 r1 r2 q2
def tBN0 (K : PySem.W.Frag) (T : String) (r : V → List V → Hp → VK → Prop) (to : TE) : TE := fun σ H Q => to σ H fun x H1 => tyN' K T x H1 ∧ r x [] H1 Q
theorem pe_bm0N (pa : PlainAttrs T) (slot : Slot T name id) (hty : typeOf (.builtin id) = pure (.type "method_descriptor")) (hm : MtR X id r) (ho : PE X o to)
    (hbase : attributeBase o name X.env (eval o X.env) = eval o X.env := by rfl) (hline : (apos.endLine == cpos.line) = true := by rfl) : PE X (.Call (.Attribute o name apos) [] [] cpos) (tBN0 X.K T r to) := by
  refine ⟨fun pins s σ H Q I h => ?_⟩
  refine wpAny_Call_method0_late hbase hline (thn (ho.run pins s σ H _ I h) fun v s1 ⟨x, H1, I1, r1, ty, q1⟩ => ?_)
  obtain ⟨h1, h2⟩ := tyN_is I1 r1 ty
  exact ⟨T, id, pa, slot, hty, h1, h2, Calls.callWith_builtin rfl (PySem.evalArgs_none (hm pins s1 σ H1 x [] v [] Q I1 r1 .nil q1))⟩
end
end Y

namespace Y
open PySem PySem.Spec PyProof.Rows L2
/-! ### data for == -/
mutual
def T.pd : T → PyData
  | .non => .none
  | .bl b => .bool b
  | .int i => .int i
  | .str s => .str s
  | .tup l => .tuple (T.pdL l)
  | .lst l => .list (T.pdL l)
  | .adr _ => .none
  | .wtp _ => .none
  | .dct _ _ => .none
def T.pdL : List T → List PyData
  | [] => []
  | t :: l => T.pd t :: T.pdL l
end
mutual
def T.noA : T → Bool
  | .tup l => T.noAL l
  | .lst l => T.noAL l
  | .adr _ => false
  | .wtp _ => false
  | .dct _ _ => false
  | _ => true
def T.noAL : List T → Bool
  | [] => true
  | t :: l => T.noA t && T.noAL l
end
def T.cmp (t : T) : Bool := T.noA t && SeqAt.shaped (T.pd t)
def T.eqv (x y : T) : Bool := PyData.eqv (T.pd x) (T.pd y)
theorem T.pdL_length : ∀ l : List T, (T.pdL l).length = l.length
  | [] => rfl
  | t :: l => by rw [T.pdL, List.length_cons, List.length_cons, T.pdL_length l]
theorem T.pdL_any (f : PyData → Bool) : ∀ l : List T, (T.pdL l).any f = l.any fun t => f (T.pd t)
  | [] => rfl
  | t :: l => by rw [T.pdL, List.any_cons, List.any_cons, T.pdL_any f l]
section
variable {K : PySem.W.Frag} {F H : Hp}
mutual
theorem Tv.dp : ∀ (t : T) (v : V), T.noA t = true → Tv K F t v → Dp K F v (T.pd t)
  | .non, _, _, h => by rw [show _ = _ from h]; exact .non
  | .bl b, _, _, h => by rw [show _ = _ from h]; exact .bl b
  | .int i, _, _, h => by rw [show _ = _ from h]; exact .int i
  | .str s, _, _, h => by rw [show _ = _ from h]; exact .str s
  | .tup l, _, n, h => by
    obtain ⟨a, xs, rfl, h1, h2⟩ := h
    exact .tup h1.t (TvL.dp l xs n h2)
  | .lst l, _, n, h => by
    obtain ⟨a, xs, rfl, h1, h2⟩ := h
    exact .lst (.of h1) (TvL.dp l xs n h2)
  | .adr _, _, n, _ => by cases n
  | .wtp _, _, n, _ => by cases n
  | .dct _ _, _, n, _ => by cases n
theorem TvL.dp : ∀ (l : List T) (xs : List V), T.noAL l = true → TvL K F l xs → DpAll K F xs (T.pdL l)
  | [], xs, _, h => by rw [show xs = [] from h]; exact .nil
  | t :: l, _, n, h => by
    obtain ⟨x, r, rfl, h1, h2⟩ := h
    have n2 := Bool.and_eq_true_iff.mp (show (T.noA t && T.noAL l) = true from n)
    exact .cons (Tv.dp t x n2.1 h1) (TvL.dp l r n2.2 h2)
end
end
/-! ### expressions -/
theorem VR.fz {K : PySem.W.Frag} {W : Wld} {B : Hp} {ρ : PS'} {σ : L2.St} {F H : Hp} {t : T} {v : V} (h : Tv K F t v) : VR K W B ρ σ F H t false v := h
section
variable {K : PySem.W.Frag} {W : Wld} {B : Hp} {ρ : PS'} {σ : L2.St} {F H : Hp}
theorem VR.int {i : Int} : VR K W B ρ σ F H (.int i) false (.int i) := rfl
theorem VR.bl {i : Bool} : VR K W B ρ σ F H (.bl i) false (.bl i) := rfl
theorem VR.str {i : Str} : VR K W B ρ σ F H (.str i) false (.str i) := rfl
theorem VR.non : VR K W B ρ σ F H .non false .non := rfl
end
abbrev PE' := PS' → (T → Bool → PS' → Prop) → Prop
def SmE (K : PySem.W.Frag) (W : Wld) (t : TE) (p : PE') : Prop :=
  ∀ (B F0 : Hp) (ρ : PS') (σ : L2.St) (F H : Hp) (Φ : T → Bool → PS' → Prop) (Q : VK), Rep K W B F0 ρ σ F H → p ρ Φ →
    (∀ τ f ρ' v F' H', Rep K W B F0 ρ' σ F' H' → Le F F' → VR K W B ρ' σ F' H' τ f v → Φ τ f ρ' → Q v H') → t σ H Q
structure QE (X : Cx) (W : Wld) (e : Expr) (p : PE') : Prop where
  ex : ∃ t, PE X e t ∧ SmE X.K W t p
theorem SmE.fz {K : PySem.W.Frag} {W : Wld} {t : TE} {p : PE'} (h : SmE K W t p) {B F0 : Hp} {ρ : PS'} {σ : L2.St} {F H : Hp} {Q : VK} {Ψ : T → PS' → Prop} (R : Rep K W B F0 ρ σ F H) (hp : p ρ fun τ _ ρ' => Ψ τ ρ')
    (k : ∀ τ ρ' v F' H', Rep K W B F0 ρ' σ F' H' → Le F F' → Tv K F' τ v → Ψ τ ρ' → Q v H') : t σ H Q :=
  h B F0 ρ σ F H _ Q R hp fun τ f ρ' v F' H' R' le vr q => by
    obtain ⟨F2, R2, le2, tv⟩ := R'.freeze vr
    exact k τ ρ' v F2 H' R2 (le.trans le2) tv q
/-- .. read only: a slot's own list stays its own -/
inductive Rdr where
  | fz (t : T) | sl (i : Nat)
def Rdr.look : Rdr → PS' → Option T
  | .fz t, _ => some t
  | .sl i, ρ => match ρ[i]? with
    | some (Sl.own t) => some t
    | some (Sl.fz t) => some t
    | _ => none
def RdOk (K : PySem.W.Frag) (F : Hp) (σ : L2.St) : Rdr → V → Prop
  | .fz t, v => Tv K F t v
  | .sl i, v => σ[i]? = some (some v)
/-- readable in H, its items frozen in F -/
def Rv (K : PySem.W.Frag) (F H : Hp) : T → V → Prop
  | .lst l, v => ∃ a xs, v = .ref a ∧ H a = some (.lst xs) ∧ TvL K F l xs
  | .dct ks vs, v => ∃ a xs, v = .ref a ∧ H a = some (.dK (ks.zip xs)) ∧ ks.length = vs.length ∧ TvL K F vs xs
  | t, v => Tv K F t v
theorem Rv.of {K : PySem.W.Frag} {F H : Hp} (le : Le F H) {t : T} {v : V} (h : Tv K F t v) : Rv K F H t v := by
  cases t with
  | lst l =>
    obtain ⟨a, xs, e, h1, h2⟩ := h
    exact ⟨a, xs, e, le _ _ h1, h2⟩
  | dct ks vs =>
    obtain ⟨a, xs, e, h1, h0, h2⟩ := h
    exact ⟨a, xs, e, le _ _ h1, h0, h2⟩
  | _ => exact h
abbrev PR' := PS' → (Rdr → PS' → Prop) → Prop
def SmR (K : PySem.W.Frag) (W : Wld) (t : TE) (p : PR') : Prop :=
  ∀ (B F0 : Hp) (ρ : PS') (σ : L2.St) (F H : Hp) (Φ : Rdr → PS' → Prop) (Q : VK), Rep K W B F0 ρ σ F H → p ρ Φ →
    (∀ r ρ' v F' H', Rep K W B F0 ρ' σ F' H' → Le F F' → RdOk K F' σ r v → Φ r ρ' → Q v H') → t σ H Q
structure QR (X : Cx) (W : Wld) (e : Expr) (p : PR') : Prop where
  ex : ∃ t, PE X e t ∧ SmR X.K W t p
section
variable {K : PySem.W.Frag} {W : Wld} {B F0 F F' H : Hp} {ρ : PS'} {σ : L2.St}
theorem RdOk.le (le : Le F F') {r : Rdr} {v : V} (h : RdOk K F σ r v) : RdOk K F' σ r v := by
  cases r with
  | fz t => exact Tv.le le _ _ h
  | sl i => exact h
theorem Rep.rv (R : Rep K W B F0 ρ σ F H) {r : Rdr} {v : V} {t : T} (h : RdOk K F σ r v) (e : r.look ρ = some t) : Rv K F H t v := by
  cases r with
  | fz u =>
    have : u = t := Option.some.inj e
    rw [← this]
    exact Rv.of R.fh h
  | sl i =>
    have h : σ[i]? = some (some v) := h
    have e : (match ρ[i]? with
      | some (Sl.own t) => some t
      | some (Sl.fz t) => some t
      | _ => none) = some t := e
    split at e
    · rename_i l hl
      obtain rfl := Option.some.inj e
      obtain ⟨a, o, e1, e2, e3, _⟩ := R.own i l hl
      rw [h] at e1
      obtain rfl := Option.some.inj (Option.some.inj e1)
      cases l <;> first | exact e3.elim | skip
      · obtain ⟨xs, rfl, e3⟩ := e3
        exact ⟨a, xs, rfl, e2, e3⟩
      · obtain ⟨xs, rfl, e0, e3⟩ := e3
        exact ⟨a, xs, rfl, e2, e0, e3⟩
    · rename_i u hu
      obtain rfl := Option.some.inj e
      obtain ⟨w, e1, e2⟩ := R.fz i u hu
      rw [h] at e1
      obtain rfl := Option.some.inj (Option.some.inj e1)
      exact Rv.of R.fh e2
    · cases e
end
section
variable {X : Cx} {W : Wld} {a b c e : Expr} {pos : Pos}
/-! #### names, constants -/
def pC (t : T) : PE' := fun ρ Φ => Φ t false ρ
theorem qe_const {v : V} {t : T} (h : PE X e (tC v)) (hv : ∀ F, Tv X.K F t v) : QE X W e (pC t) := ⟨_, h, fun B F0 ρ σ F H Φ Q R hp k => k t false ρ v F H R (Le.refl _) (hv F) hp⟩
theorem qe_int {i : Int} {j : Nat} : QE X W (.Constant (.int i) j pos) (pC (.int i)) := qe_const pe_int fun _ => rfl
theorem qe_str {i : Str} {j : Nat} : QE X W (.Constant (.str i) j pos) (pC (.str i)) := qe_const pe_str fun _ => rfl
theorem qe_bl {i : Bool} {j : Nat} : QE X W (.Constant (.bool i) j pos) (pC (.bl i)) := qe_const pe_bl fun _ => rfl
theorem qe_non {j : Nat} : QE X W (.Constant .none j pos) (pC .non) := qe_const pe_non fun _ => rfl
def pV (i : Nat) : PE' := fun ρ Φ => match ρ[i]? with
  | some (Sl.fz t) => Φ t false ρ
  | some (Sl.own t) => Φ t false (ρ.set i (Sl.fz t))
  | _ => False
theorem qe_name {x : Str} {i : Nat} (h : PE X (.Name x pos) (tVar i)) : QE X W (.Name x pos) (pV i) := by
  refine ⟨_, h, fun B F0 ρ σ F H Φ Q R hp k => ?_⟩
  unfold pV at hp
  split at hp
  · rename_i t ht
    obtain ⟨v, e1, e2⟩ := R.fz i t ht
    exact ⟨v, e1, k _ false _ v F H R (Le.refl _) (VR.fz e2) hp⟩
  · rename_i l hl
    obtain ⟨a, xs, e1, e2, e3, e4, e5, e6⟩ := R.own i l hl
    obtain ⟨F', R', le⟩ := R.freezeSl hl
    obtain ⟨w, z1, z2⟩ := R'.fz i l (List.getElem?_set_self (List.getElem?_eq_some_iff.mp hl).1)
    rw [e1] at z1
    cases z1
    exact ⟨_, e1, k _ false _ _ F' H R' le (VR.fz z2) hp⟩
  · exact hp.elim
def pRV (i : Nat) : PR' := fun ρ Φ => match ρ[i]? with
  | some (Sl.fz t) => Φ (.fz t) ρ
  | some (Sl.own _) => Φ (.sl i) ρ
  | _ => False
theorem qr_name {x : Str} {i : Nat} (h : PE X (.Name x pos) (tVar i)) : QR X W (.Name x pos) (pRV i) := by
  refine ⟨_, h, fun B F0 ρ σ F H Φ Q R hp k => ?_⟩
  unfold pRV at hp
  split at hp
  · rename_i t ht
    obtain ⟨v, e1, e2⟩ := R.fz i t ht
    exact ⟨v, e1, k (.fz t) ρ v F H R (Le.refl _) e2 hp⟩
  · rename_i l hl
    obtain ⟨a, xs, e1, e2⟩ := R.own i l hl
    exact ⟨_, e1, k (.sl i) ρ _ F H R (Le.refl _) e1 hp⟩
  · exact hp.elim
def pRE (p : PE') : PR' := fun ρ Φ => p ρ fun t _ ρ' => Φ (.fz t) ρ'
theorem qr_of {p : PE'} (h : QE X W e p) : QR X W e (pRE p) := by
  obtain ⟨t, h1, h2⟩ := h.ex
  exact ⟨t, h1, fun B F0 ρ σ F H Φ Q R hp k => h2.fz R hp fun τ ρ' v F' H' R' le tv q => k (.fz τ) ρ' v F' H' R' le tv q⟩
/-- a global that stands as a value -/
theorem qe_glob {x : Str} {v : V} {u : Value} {t : T} (hg : Gl X x) (hm : X.mg x = some u) (r : RelV v u) (hv : ∀ F, Tv X.K F t v) (h : ∀ (hg : Gl X x) (hm : X.mg x = some u) (r : RelV v u), PE X (.Name x pos) (tC v)) : QE X W (.Name x pos) (pC t) := qe_const (h hg hm r) hv
/-! #### argument lists, displays -/
abbrev PA' := PS' → (List T → PS' → Prop) → Prop
def SmA (K : PySem.W.Frag) (W : Wld) (t : TA) (p : PA') : Prop :=
  ∀ (B F0 : Hp) (ρ : PS') (σ : L2.St) (F H : Hp) (Φ : List T → PS' → Prop) (Q : List V → Hp → Prop), Rep K W B F0 ρ σ F H → p ρ Φ →
    (∀ l ρ' vs F' H', Rep K W B F0 ρ' σ F' H' → Le F F' → TvL K F' l vs → Φ l ρ' → Q vs H') → t σ H Q
structure QA (X : Cx) (W : Wld) (es : List Expr) (p : PA') : Prop where
  ex : ∃ t, PA X es t ∧ SmA X.K W t p
def pNil : PA' := fun ρ Φ => Φ [] ρ
def pCons (p : PE') (q : PA') : PA' := fun ρ Φ => p ρ fun t _ ρ1 => q ρ1 fun l ρ2 => Φ (t :: l) ρ2
def T.items : T → Option (List T)
  | .tup m => some m
  | .lst m => some m
  | _ => none
def pStar (p : PE') (q : PA') : PA' := fun ρ Φ => p ρ fun t _ ρ1 => ∃ m, t.items = some m ∧ q ρ1 fun l ρ2 => Φ (m ++ l) ρ2
theorem items_sq {K : PySem.W.Frag} {F H : Hp} (le : Le F H) {t : T} {v : V} {m : List T} (e : t.items = some m) (h : Tv K F t v) : ∃ a xs, v = .ref a ∧ (SqT K H a xs ∨ SqL K H a xs) ∧ TvL K F m xs := by
  cases t <;> first | cases e | skip
  · obtain ⟨a, xs, e1, e2, e3⟩ := h
    exact ⟨a, xs, e1, .inl (sqt_le le e2), e3⟩
  · obtain ⟨a, xs, e1, e2, e3⟩ := h
    exact ⟨a, xs, e1, .inr (.of (le _ _ e2)), e3⟩
variable {es : List Expr} {pa pb : PE'} {q : PA'}
theorem qa_nil : QA X W [] pNil := ⟨_, pa_nil, fun B F0 ρ σ F H Φ Q R hp k => k [] ρ [] F H R (Le.refl _) rfl hp⟩
theorem qa_cons (ha : QE X W e pa) (hr : QA X W es q) (hs : starEach (e :: es) X.env = (false, eval e X.env) :: starEach es X.env := by rfl) : QA X W (e :: es) (pCons pa q) := by
  obtain ⟨t, h1, h2⟩ := ha.ex
  obtain ⟨u, h3, h4⟩ := hr.ex
  refine ⟨_, pa_cons h1 h3 hs, fun B F0 ρ σ F H Φ Q R hp k => ?_⟩
  refine h2.fz R hp fun τ ρ1 v F1 H1 R1 le1 tv1 q1 => ?_
  refine h4 B F0 ρ1 σ F1 H1 _ _ R1 q1 fun l ρ2 vs F2 H2 R2 le2 tvl q2 => ?_
  exact k (τ :: l) ρ2 (v :: vs) F2 H2 R2 (le1.trans le2) ⟨v, vs, rfl, Tv.le le2 _ _ tv1, tvl⟩ q2
theorem qa_star {p : Pos} (ha : QE X W e pa) (hr : QA X W es q) (hs : starEach (.Starred e p :: es) X.env = (true, eval e X.env) :: starEach es X.env := by rfl) : QA X W (.Starred e p :: es) (pStar pa q) := by
  obtain ⟨t, h1, h2⟩ := ha.ex
  obtain ⟨u, h3, h4⟩ := hr.ex
  refine ⟨_, StX.pa_star h1 h3 hs, fun B F0 ρ σ F H Φ Q R hp k => ?_⟩
  refine h2.fz R hp fun τ ρ1 v F1 H1 R1 le1 tv1 q1 => ?_
  obtain ⟨m, em, q1⟩ := q1
  obtain ⟨a, xs, ev, hx, tm⟩ := items_sq R1.fh em tv1
  refine ⟨a, xs, ev, hx, h4 B F0 ρ1 σ F1 H1 _ _ R1 q1 fun l ρ2 vs F2 H2 R2 le2 tvl q2 => ?_⟩
  exact k (m ++ l) ρ2 (xs ++ vs) F2 H2 R2 (le1.trans le2) (TvL.app (TvL.le le2 _ _ tm) tvl) q2
end
end Y

namespace Y
open PySem PySem.Spec PyProof.Rows L2
theorem sl16 : sizeLine = 16777216 := sizeLine_eq
section
variable {X : Cx} {W : Wld} {a b c e : Expr} {es : List Expr} {pos : Pos} {pa pb pc : PE'} {q : PA'}
/-! #### displays -/
def pTup (q : PA') : PE' := fun ρ Φ => q ρ fun l ρ' => l.length ≤ 16000000 ∧ Φ (.tup l) false ρ'
def pLst (q : PA') : PE' := fun ρ Φ => q ρ fun l ρ' => l.length ≤ 16000000 ∧ Φ (.lst l) true ρ'
theorem qe_tup {x1} (h : QA X W es q) : QE X W (.Tuple es x1 pos) (pTup q) := by
  obtain ⟨t, h1, h2⟩ := h.ex
  refine ⟨_, pe_tupN h1, fun B F0 ρ σ F H Φ Q R hp k => ?_⟩
  refine h2 B F0 ρ σ F H _ _ R hp fun l ρ1 vs F1 H1 R1 le1 tvl q1 => ?_
  obtain ⟨hl, q1⟩ := q1
  have := tvl.length
  have := sl16
  refine ⟨by omega, fun p o np d => ?_⟩
  obtain ⟨F2, R2, le2, tv⟩ := R1.newT np d tvl
  exact k _ false ρ1 _ F2 _ R2 (le1.trans le2) (VR.fz tv) q1
theorem qe_lst (h : QA X W es q) : QE X W (.List es pos) (pLst q) := by
  obtain ⟨t, h1, h2⟩ := h.ex
  refine ⟨_, pe_lst h1, fun B F0 ρ σ F H Φ Q R hp k => ?_⟩
  refine h2 B F0 ρ σ F H _ _ R hp fun l ρ1 vs F1 H1 R1 le1 tvl q1 => ?_
  obtain ⟨hl, q1⟩ := q1
  have := tvl.length
  have := sl16
  refine ⟨by omega, fun p np => ?_⟩
  obtain ⟨R2, vr⟩ := R1.newL np tvl
  exact k _ true ρ1 _ F1 _ R2 le1 vr q1
/-! #### two-place operations, by values -/
/-- what f gives, whatever the rule -/
def rS2 (X : Cx) (f : Value → Value → Sem Value) : R2 := fun x y H Q => ∀ (pins : List (Addr × Obj)) (s : Shared) (σ : L2.St) (v u : Value), Inv X pins σ H s → RelV x v → RelV y u → wpAny (model X.prog X.w) X.A (f v u) (EP X pins σ Q) X.xe s
theorem opS (X : Cx) (f : Value → Value → Sem Value) : OpR X f (rS2 X f) := fun pins s σ H x y v u Q I rx ry h => h pins s σ v u I rx ry
theorem rS2.of {f : Value → Value → Sem Value} {r : R2} (o : OpR X f r) {x y : V} {H : Hp} {Q : VK} (h : r x y H Q) : rS2 X f x y H Q := fun pins s σ v u I rx ry => o pins s σ H x y v u Q I rx ry h
def OpQ (X : Cx) (W : Wld) (f : Value → Value → Sem Value) (P : T → T → (T → Bool → Prop) → Prop) : Prop :=
  ∀ (B F0 : Hp) (ρ : PS') (σ : L2.St) (F H : Hp) (x y : T) (v u : V) (Φ : T → Bool → Prop) (Q : VK), Rep X.K W B F0 ρ σ F H → Tv X.K F x v → Tv X.K F y u → P x y Φ →
    (∀ τ f w F' H', Rep X.K W B F0 ρ σ F' H' → Le F F' → VR X.K W B ρ σ F' H' τ f w → Φ τ f → Q w H') → rS2 X f v u H Q
def pOp (P : T → T → (T → Bool → Prop) → Prop) (pa pb : PE') : PE' := fun ρ Φ => pa ρ fun x _ ρ1 => pb ρ1 fun y _ ρ2 => P x y fun τ f => Φ τ f ρ2
theorem sm_op {f : Value → Value → Sem Value} {P} (ho : OpQ X W f P) {ta tb : TE} (ha : SmE X.K W ta pa) (hb : SmE X.K W tb pb) : SmE X.K W (tOp (rS2 X f) ta tb) (pOp P pa pb) := fun B F0 ρ σ F H Φ Q R hp k => by
  refine ha.fz R hp fun x ρ1 v F1 H1 R1 le1 tv1 q1 => ?_
  refine hb.fz R1 q1 fun y ρ2 u F2 H2 R2 le2 tv2 q2 => ?_
  exact ho B F0 ρ2 σ F2 H2 x y v u _ Q R2 (Tv.le le2 _ _ tv1) tv2 q2 fun τ f w F' H' R' le vr q => k τ f ρ2 w F' H' R' (le1.trans (le2.trans le)) vr q
theorem qe_op {op : Operator} {P} (ho : OpQ X W (binaryOp op) P) (ha : QE X W a pa) (hb : QE X W b pb) : QE X W (.BinOp a op b pos) (pOp P pa pb) := by
  obtain ⟨t, h1, h2⟩ := ha.ex
  obtain ⟨u, h3, h4⟩ := hb.ex
  exact ⟨_, pe_op (opS X _) h1 h3, sm_op ho h2 h4⟩
theorem qe_cmp {op : CmpOp} {P} (ho : OpQ X W (compareOp op) P) (ha : QE X W a pa) (hb : QE X W b pb) (hm : behindInMarks op b = false) : QE X W (.Compare a [op] [b] pos) (pOp P pa pb) := by
  obtain ⟨t, h1, h2⟩ := ha.ex
  obtain ⟨u, h3, h4⟩ := hb.ex
  exact ⟨_, pe_cmpR (opS X _) h1 h3 hm, sm_op ho h2 h4⟩
theorem OpQ.int {f : Value → Value → Sem Value} {C : Int → Int → Prop} {g : Int → Int → Int} (h : OpR X f (rI C fun i j => .int (g i j))) : OpQ X W f (fun x y Φ => ∃ i j, x = .int i ∧ y = .int j ∧ C i j ∧ Φ (.int (g i j)) false) := by
  intro B F0 ρ σ F H x y v u Φ Q R hx hy hp k
  obtain ⟨i, j, rfl, rfl, hc, hp⟩ := hp
  exact rS2.of h ⟨i, j, hx, hy, hc, k _ false _ F H R (Le.refl _) VR.int hp⟩
theorem OpQ.int0 {f : Value → Value → Sem Value} {g : Int → Int → T} {g' : Int → Int → V} (hg : ∀ i j F, Tv X.K F (g i j) (g' i j)) (h : OpR X f (rI0 fun i j => g' i j)) : OpQ X W f (fun x y Φ => ∃ i j, x = .int i ∧ y = .int j ∧ Φ (g i j) false) := by
  intro B F0 ρ σ F H x y v u Φ Q R hx hy hp k
  obtain ⟨i, j, rfl, rfl, hp⟩ := hp
  exact rS2.of h ⟨i, j, hx, hy, k _ false _ F H R (Le.refl _) (VR.fz (hg i j F)) hp⟩
/-- + of ints, texts, lists, tuples -/
def PAdd (x y : T) (Φ : T → Bool → Prop) : Prop := match x, y with
  | .int i, .int j => Φ (.int (i + j)) false
  | .str i, .str j => i.length + j.length ≤ 16000000 ∧ Φ (.str (i ++ j)) false
  | .lst l, .lst m => l.length + m.length ≤ 16000000 ∧ Φ (.lst (l ++ m)) true
  | .tup l, .tup m => l.length + m.length ≤ 16000000 ∧ Φ (.tup (l ++ m)) false
  | _, _ => False
theorem oq_add : OpQ X W (binaryOp .Add) PAdd := by
  intro B F0 ρ σ F H x y v u Φ Q R hx hy hp k
  have hs := sl16
  unfold PAdd at hp
  split at hp
  · rename_i i j
    rw [show v = .int i from hx, show u = .int j from hy]
    exact rS2.of op_add ⟨i, j, rfl, rfl, k _ false _ F H R (Le.refl _) VR.int hp⟩
  · rename_i i j
    rw [show v = .str i from hx, show u = .str j from hy]
    exact rS2.of op_add_str ⟨i, j, rfl, rfl, by omega, k _ false _ F H R (Le.refl _) VR.str hp.2⟩
  · rename_i l m
    obtain ⟨p, xs, rfl, h1, h2⟩ := hx
    obtain ⟨p2, ys, rfl, h3, h4⟩ := hy
    have l1 := h2.length
    have l2 := h4.length
    refine rS2.of op_cat ⟨p, p2, xs, ys, rfl, rfl, R.fh _ _ h1, R.fh _ _ h3, by omega, fun z nz => ?_⟩
    obtain ⟨R2, vr⟩ := R.newL nz (TvL.app h2 h4)
    exact k _ true _ F _ R2 (Le.refl _) vr hp.2
  · rename_i l m
    obtain ⟨p, xs, rfl, h1, h2⟩ := hx
    obtain ⟨p2, ys, rfl, h3, h4⟩ := hy
    have l1 := h2.length
    have l2 := h4.length
    have hl : ∀ {l : List T} {xs : List V}, TvL X.K F l xs → xs = [] → l = [] := fun {l xs} h e => by
      have := h.length
      rw [e, List.length_nil] at this
      exact List.eq_nil_of_length_eq_zero this.symm
    refine rS2.of op_catN ⟨p, p2, xs, ys, rfl, rfl, sqt_le R.fh h1, sqt_le R.fh h3, by omega, fun e => ?_, fun _ e => ?_, fun _ _ z o nz d => ?_⟩
    · have e2 := hl h2 e
      rw [e2] at hp
      exact k _ false _ F H R (Le.refl _) (VR.fz (t := .tup _) ⟨p2, ys, rfl, h3, h4⟩) hp.2
    · have e2 := hl h4 e
      rw [e2, List.append_nil] at hp
      exact k _ false _ F H R (Le.refl _) (VR.fz (t := .tup _) ⟨p, xs, rfl, h1, h2⟩) hp.2
    · obtain ⟨F2, R2, le2, tv⟩ := R.newT nz d (TvL.app h2 h4)
      exact k _ false _ F2 _ R2 le2 (VR.fz tv) hp.2
  · exact hp.elim
def PSub (x y : T) (Φ : T → Bool → Prop) : Prop := match x, y with
  | .int i, .int j => Φ (.int (i - j)) false
  | _, _ => False
theorem oq_sub : OpQ X W (binaryOp .Sub) PSub := by
  intro B F0 ρ σ F H x y v u Φ Q R hx hy hp k
  unfold PSub at hp
  split at hp
  · exact rS2.of op_sub ⟨_, _, hx, hy, k _ false _ F H R (Le.refl _) VR.int hp⟩
  · exact hp.elim
def PMul (x y : T) (Φ : T → Bool → Prop) : Prop := match x, y with
  | .int i, .int j => (CMul i j ∨ CMulX i j) ∧ Φ (.int (i * j)) false
  | .lst l, .int j => -(2 ^ 63) ≤ j ∧ j < 2 ^ 63 ∧ l.length * j.toNat ≤ 16000000 ∧ Φ (.lst (List.replicate j.toNat l).flatten) true
  | _, _ => False
theorem oq_mul : OpQ X W (binaryOp .Mult) PMul := by
  intro B F0 ρ σ F H x y v u Φ Q R hx hy hp k
  have hs := sl16
  unfold PMul at hp
  split at hp
  · obtain ⟨hc, hp⟩ := hp
    have fin := k _ false _ F H R (Le.refl _) VR.int hp
    rcases hc with hc | hc
    · exact rS2.of op_mul ⟨_, _, hx, hy, hc, fin⟩
    · exact rS2.of op_mulX ⟨_, _, hx, hy, hc, fin⟩
  · obtain ⟨h63, h63', hl, hp⟩ := hp
    obtain ⟨p, xs, rfl, h1, h2⟩ := hx
    have l1 := h2.length
    refine rS2.of op_rep ⟨p, _, xs, rfl, hy, R.fh _ _ h1, h63, h63', by rw [l1]; omega, fun z nz => ?_⟩
    obtain ⟨R2, vr⟩ := R.newL nz (h2.rep _)
    exact k _ true _ F _ R2 (Le.refl _) vr hp
  · exact hp.elim
def PMod (x y : T) (Φ : T → Bool → Prop) : Prop := match x, y with
  | .int i, .int j => 0 < j ∧ Φ (.int (i % j)) false
  | _, _ => False
theorem oq_mod : OpQ X W (binaryOp .Mod) PMod := by
  intro B F0 ρ σ F H x y v u Φ Q R hx hy hp k
  unfold PMod at hp
  split at hp
  · exact rS2.of op_mod ⟨_, _, hx, hy, hp.1, k _ false _ F H R (Le.refl _) VR.int hp.2⟩
  · exact hp.elim
def PFdiv (x y : T) (Φ : T → Bool → Prop) : Prop := match x, y with
  | .int i, .int j => (CDiv i j ∨ CDivW i j) ∧ Φ (.int (i / j)) false
  | _, _ => False
theorem oq_fdiv : OpQ X W (binaryOp .FloorDiv) PFdiv := by
  intro B F0 ρ σ F H x y v u Φ Q R hx hy hp k
  unfold PFdiv at hp
  split at hp
  · obtain ⟨hc, hp⟩ := hp
    have fin := k _ false _ F H R (Le.refl _) VR.int hp
    rcases hc with hc | hc
    · exact rS2.of op_fdiv ⟨_, _, hx, hy, hc, fin⟩
    · exact rS2.of op_fdivW ⟨_, _, hx, hy, hc, fin⟩
  · exact hp.elim
def PPow (x y : T) (Φ : T → Bool → Prop) : Prop := match x, y with
  | .int i, .int j => CPow i j ∧ Φ (.int (i ^ j.toNat)) false
  | _, _ => False
theorem oq_pow : OpQ X W (binaryOp .Pow) PPow := by
  intro B F0 ρ σ F H x y v u Φ Q R hx hy hp k
  unfold PPow at hp
  split at hp
  · exact rS2.of op_pow ⟨_, _, hx, hy, hp.1, k _ false _ F H R (Le.refl _) VR.int hp.2⟩
  · exact hp.elim
def PAnd (x y : T) (Φ : T → Bool → Prop) : Prop := match x, y with
  | .int i, .int j => Φ (.int (Builtin.bitAnd i j)) false
  | _, _ => False
theorem oq_and : OpQ X W (binaryOp .BitAnd) PAnd := by
  intro B F0 ρ σ F H x y v u Φ Q R hx hy hp k
  unfold PAnd at hp
  split at hp
  · exact rS2.of op_and ⟨_, _, hx, hy, k _ false _ F H R (Le.refl _) VR.int hp⟩
  · exact hp.elim
/-! #### comparisons -/
def PCmpI (g : Int → Int → Bool) (x y : T) (Φ : T → Bool → Prop) : Prop := match x, y with
  | .int i, .int j => Φ (.bl (g i j)) false
  | _, _ => False
theorem oq_ci {op : CmpOp} {g : Int → Int → Bool} (h : OpR X (compareOp op) (rI0 fun i j => .bl (g i j))) : OpQ X W (compareOp op) (PCmpI g) := by
  intro B F0 ρ σ F H x y v u Φ Q R hx hy hp k
  unfold PCmpI at hp
  split at hp
  · exact rS2.of h ⟨_, _, hx, hy, k _ false _ F H R (Le.refl _) VR.bl hp⟩
  · exact hp.elim
abbrev gLt : Int → Int → Bool := fun i j => decide (i < j)
abbrev gLe : Int → Int → Bool := fun i j => decide (i ≤ j)
abbrev gGt : Int → Int → Bool := fun i j => decide (j < i)
abbrev gGe : Int → Int → Bool := fun i j => decide (j ≤ i)
theorem oq_lt : OpQ X W (compareOp .Lt) (PCmpI gLt) := oq_ci op_lt
theorem oq_le : OpQ X W (compareOp .LtE) (PCmpI gLe) := oq_ci op_le
theorem oq_gt : OpQ X W (compareOp .Gt) (PCmpI gGt) := oq_ci op_gt
theorem oq_ge : OpQ X W (compareOp .GtE) (PCmpI gGe) := oq_ci op_ge
def T.isN : T → Bool
  | .non => true
  | _ => false
theorem isN_v {K : PySem.W.Frag} {F : Hp} {t : T} {v : V} (h : Tv K F t v) : decide (v = .non) = t.isN := by
  cases t with
  | non => rw [show v = .non from h]; rfl
  | bl b => rw [show v = .bl b from h]; rfl
  | int b => rw [show v = .int b from h]; rfl
  | str b => rw [show v = .str b from h]; exact decide_eq_false (fun z => nomatch z)
  | adr b => rw [show v = .ref b from h]; rfl
  | tup l => obtain ⟨a, _, rfl, _⟩ := h; rfl
  | wtp l => obtain ⟨a, _, rfl, _⟩ := h; rfl
  | dct ks l => obtain ⟨a, _, rfl, _⟩ := h; rfl
  | lst l => obtain ⟨a, _, rfl, _⟩ := h; rfl
def PIs (x y : T) (Φ : T → Bool → Prop) : Prop := match y with
  | .non => Φ (.bl x.isN) false
  | _ => False
def PIsNot (x y : T) (Φ : T → Bool → Prop) : Prop := match y with
  | .non => Φ (.bl (!x.isN)) false
  | _ => False
theorem oq_is : OpQ X W (compareOp .Is) PIs := by
  intro B F0 ρ σ F H x y v u Φ Q R hx hy hp k
  unfold PIs at hp
  split at hp
  · refine rS2.of op_isN ⟨hy, ?_⟩
    rw [isN_v hx]
    exact k _ false _ F H R (Le.refl _) VR.bl hp
  · exact hp.elim
theorem oq_isnot : OpQ X W (compareOp .IsNot) PIsNot := by
  intro B F0 ρ σ F H x y v u Φ Q R hx hy hp k
  unfold PIsNot at hp
  split at hp
  · refine rS2.of op_notN ⟨hy, ?_⟩
    rw [isN_v hx]
    exact k _ false _ F H R (Le.refl _) VR.bl hp
  · exact hp.elim
def T.sc : T → T → Bool
  | .non, .non => true
  | .bl _, .bl _ => true
  | .int _, .int _ => true
  | .str _, .str _ => true
  | _, _ => false
theorem sc_v {K : PySem.W.Frag} {F : Hp} {x y : T} {v u : V} (hx : Tv K F x v) (hy : Tv K F y u) (h : T.sc x y = true) : scal v u = true ∧ decide (v = u) = T.eqv x y := by
  cases x <;> cases y <;> first | cases h | skip
  · rw [show v = _ from hx, show u = _ from hy]
    exact ⟨rfl, rfl⟩
  · rename_i a b
    rw [show v = _ from hx, show u = _ from hy]
    refine ⟨rfl, ?_⟩
    show _ = (a == b)
    rw [Bool.eq_iff_iff]; simp
  · rename_i a b
    rw [show v = _ from hx, show u = _ from hy]
    refine ⟨rfl, ?_⟩
    show _ = (a == b)
    rw [Bool.eq_iff_iff]; simp
  · rename_i a b
    rw [show v = _ from hx, show u = _ from hy]
    refine ⟨rfl, ?_⟩
    show _ = (a == b)
    rw [Bool.eq_iff_iff]; simp
def PEq (x y : T) (Φ : T → Bool → Prop) : Prop := (T.sc x y || (x.cmp && y.cmp)) = true ∧ Φ (.bl (T.eqv x y)) false
def PNe (x y : T) (Φ : T → Bool → Prop) : Prop := (T.sc x y || (x.cmp && y.cmp)) = true ∧ Φ (.bl (!T.eqv x y)) false
theorem cmp_parts {t : T} (h : t.cmp = true) : t.noA = true ∧ SeqAt.shaped t.pd = true := Bool.and_eq_true_iff.mp h
theorem eq_cases {x y : T} (h : (T.sc x y || (x.cmp && y.cmp)) = true) : T.sc x y = true ∨ (x.cmp = true ∧ y.cmp = true) := by
  rcases Bool.or_eq_true_iff.mp h with h | h
  · exact .inl h
  · exact .inr (Bool.and_eq_true_iff.mp h)
theorem oq_eq (hu : X.A.units + 64 < cLine) : OpQ X W (compareOp .Eq) PEq := by
  intro B F0 ρ σ F H x y v u Φ Q R hx hy hp k
  obtain ⟨c1, hp⟩ := hp
  rcases eq_cases c1 with c1 | ⟨c1, c2⟩
  · obtain ⟨e1, e2⟩ := sc_v hx hy c1
    refine rS2.of op_eq ⟨e1, ?_⟩
    rw [e2]
    exact k _ false _ F H R (Le.refl _) VR.bl hp
  obtain ⟨n1, s1⟩ := cmp_parts c1
  obtain ⟨n2, s2⟩ := cmp_parts c2
  exact rS2.of (op_eqD hu) ⟨_, _, Tv.dp x v n1 (Tv.le R.fh _ _ hx), Tv.dp y u n2 (Tv.le R.fh _ _ hy), s1, s2, k _ false _ F H R (Le.refl _) VR.bl hp⟩
theorem oq_ne (hu : X.A.units + 64 < cLine) : OpQ X W (compareOp .NotEq) PNe := by
  intro B F0 ρ σ F H x y v u Φ Q R hx hy hp k
  obtain ⟨c1, hp⟩ := hp
  rcases eq_cases c1 with c1 | ⟨c1, c2⟩
  · obtain ⟨e1, e2⟩ := sc_v hx hy c1
    refine rS2.of op_ne ⟨e1, ?_⟩
    rw [e2]
    exact k _ false _ F H R (Le.refl _) VR.bl hp
  obtain ⟨n1, s1⟩ := cmp_parts c1
  obtain ⟨n2, s2⟩ := cmp_parts c2
  exact rS2.of (op_neD hu) ⟨_, _, Tv.dp x v n1 (Tv.le R.fh _ _ hx), Tv.dp y u n2 (Tv.le R.fh _ _ hy), s1, s2, k _ false _ F H R (Le.refl _) VR.bl hp⟩
/-- in: flat things in a tuple; data in a list; a sign in a text -/
def T.flat : T → Bool
  | .non => true
  | .bl _ => true
  | .int _ => true
  | .str _ => true
  | _ => false
theorem flat_v {K : PySem.W.Frag} {F : Hp} {t : T} {v : V} (h : Tv K F t v) (f : t.flat = true) : flatV v = true := by
  cases t with
  | non => rw [show v = .non from h]; rfl
  | bl b => rw [show v = .bl b from h]; rfl
  | int b => rw [show v = .int b from h]; rfl
  | str b => rw [show v = .str b from h]; rfl
  | adr b => cases f
  | wtp l => cases f
  | dct ks l => cases f
  | tup l => cases f
  | lst l => cases f
theorem flat_eqv {K : PySem.W.Frag} {F : Hp} {t u : T} {v w : V} (h : Tv K F t v) (h2 : Tv K F u w) (f : t.flat = true) (f2 : u.flat = true) : eqV v w = T.eqv t u := by
  cases t <;> first | cases f | skip
  all_goals
    cases u <;> first | cases f2 | skip
    all_goals
      rw [show v = _ from h, show w = _ from h2]
      first | rfl | (simp only [eqV, T.eqv, T.pd, PyData.eqv])
theorem flat_all {K : PySem.W.Frag} {F : Hp} : ∀ {l : List T} {xs : List V}, TvL K F l xs → l.all T.flat = true → xs.all flatV = true
  | [], xs, h, _ => by rw [show xs = [] from h]; rfl
  | t :: l, _, h, f => by
    obtain ⟨x, r, rfl, h1, h2⟩ := h
    rw [List.all_cons, Bool.and_eq_true] at f ⊢
    exact ⟨flat_v h1 f.1, flat_all h2 f.2⟩
theorem flat_any {K : PySem.W.Frag} {F : Hp} {t : T} {v : V} (h : Tv K F t v) (ft : t.flat = true) : ∀ {l : List T} {xs : List V}, TvL K F l xs → l.all T.flat = true → inV v xs = l.any fun z => T.eqv z t
  | [], xs, h, _ => by rw [show xs = [] from h]; rfl
  | u :: l, _, h2, f => by
    obtain ⟨x, r, rfl, h3, h4⟩ := h2
    rw [List.all_cons, Bool.and_eq_true] at f
    have ih := flat_any h ft h4 f.2
    unfold inV at ih ⊢
    rw [List.any_cons, List.any_cons, ih, flat_eqv h3 h f.1 ft]
def PIn (neg : Bool) (x y : T) (Φ : T → Bool → Prop) : Prop := match y with
  | .tup l => x.flat = true ∧ l.all T.flat = true ∧ Φ (.bl (if neg then !(l.any fun z => T.eqv z x) else l.any fun z => T.eqv z x)) false
  | .lst l => ((x.flat && l.all T.flat) || (x.cmp && T.cmp (.lst l))) = true ∧ Φ (.bl (if neg then !(l.any fun z => T.eqv z x) else l.any fun z => T.eqv z x)) false
  | .str z => ∃ c, x = .str ⟨#[c]⟩ ∧ Φ (.bl (if neg then !(decide (c ∈ z.cps.toList)) else decide (c ∈ z.cps.toList))) false
  | _ => False
theorem oq_in (hu : X.A.units + 65 < cLine) : OpQ X W (compareOp .In) (PIn false) := by
  intro B F0 ρ σ F H x y v u Φ Q R hx hy hp k
  unfold PIn at hp
  split at hp
  · rename_i l
    obtain ⟨f1, f2, hp⟩ := hp
    obtain ⟨a, xs, rfl, h1, h2⟩ := hy
    refine rS2.of op_in_seq ⟨a, xs, rfl, .inr (sqt_le R.fh h1), flat_v hx f1, flat_all h2 f2, ?_⟩
    rw [flat_any hx f1 h2 f2]
    exact k _ false _ F H R (Le.refl _) VR.bl hp
  · rename_i l
    obtain ⟨cc, hp⟩ := hp
    rcases Bool.or_eq_true_iff.mp cc with cc | cc
    · obtain ⟨f1, f2⟩ := Bool.and_eq_true_iff.mp cc
      obtain ⟨a, xs, rfl, h1, h2⟩ := hy
      refine rS2.of op_in_seq ⟨a, xs, rfl, .inl (.of (R.fh _ _ h1)), flat_v hx f1, flat_all h2 f2, ?_⟩
      rw [flat_any hx f1 h2 f2]
      exact k _ false _ F H R (Le.refl _) VR.bl hp
    obtain ⟨c1, c2⟩ := Bool.and_eq_true_iff.mp cc
    obtain ⟨n1, s1⟩ := cmp_parts c1
    obtain ⟨n2, s2⟩ := cmp_parts c2
    refine rS2.of (op_inD hu) ⟨_, _, Tv.dp x v n1 (Tv.le R.fh _ _ hx), Tv.dp _ u n2 (Tv.le R.fh _ _ hy), s1, s2, ?_⟩
    rw [T.pdL_any]
    exact k _ false _ F H R (Le.refl _) VR.bl hp
  · obtain ⟨c, rfl, hp⟩ := hp
    exact rS2.of op_in_sign ⟨c, _, hx, hy, k _ false _ F H R (Le.refl _) VR.bl hp⟩
  · exact hp.elim
theorem oq_notin (hu : X.A.units + 65 < cLine) : OpQ X W (compareOp .NotIn) (PIn true) := by
  intro B F0 ρ σ F H x y v u Φ Q R hx hy hp k
  unfold PIn at hp
  split at hp
  · rename_i l
    obtain ⟨f1, f2, hp⟩ := hp
    obtain ⟨a, xs, rfl, h1, h2⟩ := hy
    refine rS2.of op_notIn_seq ⟨a, xs, rfl, .inr (sqt_le R.fh h1), flat_v hx f1, flat_all h2 f2, ?_⟩
    rw [flat_any hx f1 h2 f2]
    exact k _ false _ F H R (Le.refl _) VR.bl hp
  · rename_i l
    obtain ⟨cc, hp⟩ := hp
    rcases Bool.or_eq_true_iff.mp cc with cc | cc
    · obtain ⟨f1, f2⟩ := Bool.and_eq_true_iff.mp cc
      obtain ⟨a, xs, rfl, h1, h2⟩ := hy
      refine rS2.of op_notIn_seq ⟨a, xs, rfl, .inl (.of (R.fh _ _ h1)), flat_v hx f1, flat_all h2 f2, ?_⟩
      rw [flat_any hx f1 h2 f2]
      exact k _ false _ F H R (Le.refl _) VR.bl hp
    obtain ⟨c1, c2⟩ := Bool.and_eq_true_iff.mp cc
    obtain ⟨n1, s1⟩ := cmp_parts c1
    obtain ⟨n2, s2⟩ := cmp_parts c2
    refine rS2.of (op_notInD hu) ⟨_, _, Tv.dp x v n1 (Tv.le R.fh _ _ hx), Tv.dp _ u n2 (Tv.le R.fh _ _ hy), s1, s2, ?_⟩
    rw [T.pdL_any]
    exact k _ false _ F H R (Le.refl _) VR.bl hp
  · obtain ⟨c, rfl, hp⟩ := hp
    exact rS2.of op_notIn_sign ⟨c, _, hx, hy, k _ false _ F H R (Le.refl _) VR.bl hp⟩
  · exact hp.elim
/-- a < b < c -/
def pChain (P P' : T → T → (T → Bool → Prop) → Prop) (pa pb pc : PE') : PE' := fun ρ Φ => pa ρ fun x _ ρ1 => pb ρ1 fun y _ ρ2 => P x y fun z _ => ∃ k, z = .bl k ∧ if k = true then pc ρ2 fun w _ ρ3 => P' y w fun τ f => Φ τ f ρ3 else Φ (.bl false) false ρ2
theorem qe_chain {op op' : CmpOp} {P P'} (ho : OpQ X W (compareOp op) P) (ho' : OpQ X W (compareOp op') P') (ha : QE X W a pa) (hb : QE X W b pb) (hc : QE X W c pc)
    (hm : lastMarks [op, op'] [b, c] = false := by with_unfolding_all rfl) : QE X W (.Compare a [op, op'] [b, c] pos) (pChain P P' pa pb pc) := by
  obtain ⟨t, h1, h2⟩ := ha.ex
  obtain ⟨u, h3, h4⟩ := hb.ex
  obtain ⟨w, h5, h6⟩ := hc.ex
  refine ⟨_, pe_chain (opS X _) (opS X _) h1 h3 h5 hm, fun B F0 ρ σ F H Φ Q R hp k => ?_⟩
  refine h2.fz R hp fun x ρ1 v F1 H1 R1 le1 tv1 q1 => ?_
  refine h4.fz R1 q1 fun y ρ2 u F2 H2 R2 le2 tv2 q2 => ?_
  refine ho B F0 ρ2 σ F2 H2 x y v u _ _ R2 (Tv.le le2 _ _ tv1) tv2 q2 fun τ f w F' H' R' le vr q => ?_
  obtain ⟨kk, rfl, q⟩ := q
  have ew : w = .bl kk := by
    cases f with
    | false => exact vr
    | true => obtain ⟨_, _, _, z, _⟩ := vr; cases z
  refine ⟨kk, ew, ?_⟩
  cases kk with
  | false =>
    rw [if_neg Bool.false_ne_true] at q ⊢
    exact k _ false ρ2 _ F' H' R' (le1.trans (le2.trans le)) VR.bl q
  | true =>
    rw [if_pos rfl] at q ⊢
    refine h6.fz R' q fun z ρ3 u3 F3 H3 R3 le3 tv3 q3 => ?_
    exact ho' B F0 ρ3 σ F3 H3 y z u u3 _ Q R3 (Tv.le (le.trans le3) _ _ tv2) tv3 q3 fun τ f w F' H' R' le' vr q => k τ f ρ3 w F' H' R' (le1.trans (le2.trans (le.trans (le3.trans le')))) vr q
/-! #### one-place -/
def KNeg (x : T) (Φ : T → Prop) : Prop := match x with
  | .int i => Φ (.int (-i))
  | _ => False
def pNeg (pa : PE') : PE' := fun ρ Φ => pa ρ fun x _ ρ1 => KNeg x fun t => Φ t false ρ1
theorem qe_neg (ha : QE X W a pa) : QE X W (.UnaryOp .USub a pos) (pNeg pa) := by
  obtain ⟨t, h1, h2⟩ := ha.ex
  refine ⟨_, pe_un un_neg h1, fun B F0 ρ σ F H Φ Q R hp k => ?_⟩
  refine h2.fz R hp fun x ρ1 v F1 H1 R1 le1 tv1 q1 => ?_
  unfold KNeg at q1
  split at q1
  · exact ⟨_, tv1, k _ false ρ1 _ F1 H1 R1 le1 VR.int q1⟩
  · exact q1.elim
end
end Y

namespace Y
open PySem PySem.Spec PyProof.Rows L2
/-! ### the weakest reading -/
def tE (K : PySem.W.Frag) (W : Wld) (p : PE') : TE := fun σ H Q => ∃ (B F0 : Hp) (ρ : PS') (F : Hp) (Φ : T → Bool → PS' → Prop), Rep K W B F0 ρ σ F H ∧ p ρ Φ ∧
  ∀ τ f ρ' v F' H', Rep K W B F0 ρ' σ F' H' → Le F F' → VR K W B ρ' σ F' H' τ f v → Φ τ f ρ' → Q v H'
theorem QE.can {X : Cx} {W : Wld} {e : Expr} {p : PE'} (h : QE X W e p) : PE X e (tE X.K W p) := by
  obtain ⟨t, h1, h2⟩ := h.ex
  refine ⟨fun pins s σ H Q I hq => h1.run pins s σ H Q I ?_⟩
  obtain ⟨B, F0, ρ, F, Φ, R, hp, k⟩ := hq
  exact h2 B F0 ρ σ F H Φ Q R hp k
theorem sm_tE {K : PySem.W.Frag} {W : Wld} {p : PE'} : SmE K W (tE K W p) p := fun B F0 ρ σ F H Φ Q R hp k => ⟨B, F0, ρ, F, Φ, R, hp, k⟩
/-! ### tests -/
abbrev PT' := PS' → (Bool → PS' → Prop) → Prop
def SmT (K : PySem.W.Frag) (W : Wld) (t : TT) (p : PT') : Prop :=
  ∀ (B F0 : Hp) (ρ : PS') (σ : L2.St) (F H : Hp) (Φ : Bool → PS' → Prop) (Q : Bool → Hp → Prop), Rep K W B F0 ρ σ F H → p ρ Φ →
    (∀ b ρ' F' H', Rep K W B F0 ρ' σ F' H' → Le F F' → Φ b ρ' → Q b H') → t σ H Q
structure QT (X : Cx) (W : Wld) (e : Expr) (p : PT') : Prop where
  ex : ∃ t, PT X e t ∧ SmT X.K W t p
structure QW (X : Cx) (W : Wld) (e : Expr) (p : PT') : Prop where
  ex : ∃ t, PW X e t ∧ SmT X.K W t p
def tT (K : PySem.W.Frag) (W : Wld) (p : PT') : TT := fun σ H Q => ∃ (B F0 : Hp) (ρ : PS') (F : Hp) (Φ : Bool → PS' → Prop), Rep K W B F0 ρ σ F H ∧ p ρ Φ ∧
  ∀ b ρ' F' H', Rep K W B F0 ρ' σ F' H' → Le F F' → Φ b ρ' → Q b H'
theorem sm_tT {K : PySem.W.Frag} {W : Wld} {p : PT'} : SmT K W (tT K W p) p := fun B F0 ρ σ F H Φ Q R hp k => ⟨B, F0, ρ, F, Φ, R, hp, k⟩
theorem QT.can {X : Cx} {W : Wld} {e : Expr} {p : PT'} (h : QT X W e p) : PT X e (tT X.K W p) := by
  obtain ⟨t, h1, h2⟩ := h.ex
  refine ⟨fun pins s σ H Q I hq => h1.run pins s σ H Q I ?_⟩
  obtain ⟨B, F0, ρ, F, Φ, R, hp, k⟩ := hq
  exact h2 B F0 ρ σ F H Φ Q R hp k
def T.tru : T → Option Bool
  | .non => some false
  | .bl b => some b
  | .int i => some (i != 0)
  | .str s => if s.length ≤ 16000000 then some ((s.length : Int) != 0) else none
  | .tup l => some (!l.isEmpty)
  | .lst l => some (!l.isEmpty)
  | .adr _ => none
  | .wtp _ => none
  | .dct _ _ => none
theorem isE {K : PySem.W.Frag} {F : Hp} {l : List T} {xs : List V} (h : TvL K F l xs) : l.isEmpty = xs.isEmpty := by
  have := h.length
  cases l <;> cases xs <;> first | rfl | (simp at this)
theorem tru_v {K : PySem.W.Frag} {F H : Hp} (le : Le F H) {t : T} {v : V} {c : Bool} (h : Rv K F H t v) (e : t.tru = some c) : TruV K v H c := by
  have hs := sl16
  cases t with
  | non => rw [show v = .non from h]; exact (Option.some.inj e).symm
  | bl b => rw [show v = .bl b from h]; exact (Option.some.inj e).symm
  | int b => rw [show v = .int b from h]; exact (Option.some.inj e).symm
  | str b =>
    rw [show v = .str b from h]
    have e : (if b.length ≤ 16000000 then some ((b.length : Int) != 0) else none) = some c := e
    split at e
    · exact ⟨by omega, (Option.some.inj e).symm⟩
    · cases e
  | adr b => cases e
  | wtp b => cases e
  | dct ks b => cases e
  | tup l =>
    obtain ⟨a, xs, rfl, h1, h2⟩ := h
    refine .inr (.inl ⟨xs, sqt_le le h1, ?_⟩)
    rw [← isE h2]
    exact (Option.some.inj e).symm
  | lst l =>
    obtain ⟨a, xs, rfl, h1, h2⟩ := h
    refine .inl ⟨xs, .of h1, ?_⟩
    rw [← isE h2]
    exact (Option.some.inj e).symm
section
variable {X : Cx} {W : Wld} {a b c e : Expr} {rest : List Expr} {pos : Pos} {pa pb pc : PE'} {ta tb tc : PT'} {pr : PR'}
def pTru (pr : PR') : PT' := fun ρ Φ => pr ρ fun r ρ' => ∃ t c, r.look ρ' = some t ∧ t.tru = some c ∧ Φ c ρ'
theorem qt_truth (h : QR X W a pr) (he : ∀ whole, isTrue a X.env whole = (do let v ← whole; standAt a.pos; holding [v] (truthy v))) : QT X W a (pTru pr) := by
  obtain ⟨t, h1, h2⟩ := h.ex
  refine ⟨_, pt_truth h1 he, fun B F0 ρ σ F H Φ Q R hp k => ?_⟩
  refine h2 B F0 ρ σ F H _ _ R hp fun r ρ1 v F1 H1 R1 le1 rd q1 => ?_
  obtain ⟨u, c, e1, e2, q1⟩ := q1
  exact ⟨c, tru_v R1.fh (R1.rv rd e1) e2, k c ρ1 F1 H1 R1 le1 q1⟩
def pTB (p : PE') : PT' := fun ρ Φ => p ρ fun t _ ρ' => ∃ c, t = .bl c ∧ Φ c ρ'
theorem qt_val (h : QE X W e pa) (he : ∀ whole, isTrue e X.env whole = (do let v ← whole; standAt e.pos; holding [v] (truthy v)) := by intro _; rfl) : QT X W e (pTB pa) := by
  obtain ⟨t, h1, h2⟩ := h.ex
  refine ⟨_, pt_val h1 he, fun B F0 ρ σ F H Φ Q R hp k => ?_⟩
  refine h2.fz R hp fun τ ρ1 v F1 H1 R1 le1 tv q1 => ?_
  obtain ⟨c, rfl, q1⟩ := q1
  exact ⟨c, tv, k c ρ1 F1 H1 R1 le1 q1⟩
theorem qt_cmp {op : CmpOp} {P} (ho : OpQ X W (compareOp op) P) (ha : QE X W a pa) (hb : QE X W b pb) (hm : behindInMarks op b = false) : QT X W (.Compare a [op] [b] pos) (pTB (pOp P pa pb)) := by
  obtain ⟨t, h1, h2⟩ := ha.ex
  obtain ⟨u, h3, h4⟩ := hb.ex
  refine ⟨_, pt_cmpR (opS X _) h1 h3 hm, fun B F0 ρ σ F H Φ Q R hp k => ?_⟩
  refine (sm_op ho h2 h4).fz R hp fun τ ρ1 v F1 H1 R1 le1 tv q1 => ?_
  obtain ⟨c, rfl, q1⟩ := q1
  exact ⟨c, tv, k c ρ1 F1 H1 R1 le1 q1⟩
theorem qt_chain {op op' : CmpOp} {P P'} (ho : OpQ X W (compareOp op) P) (ho' : OpQ X W (compareOp op') P') (ha : QE X W a pa) (hb : QE X W b pb) (hc : QE X W c pc)
    (hm : lastMarks [op, op'] [b, c] = false := by with_unfolding_all rfl) : QT X W (.Compare a [op, op'] [b, c] pos) (pTB (pChain P P' pa pb pc)) := by
  obtain ⟨t, h1, h2⟩ := ha.ex
  obtain ⟨u, h3, h4⟩ := hb.ex
  obtain ⟨w, h5, h6⟩ := hc.ex
  refine ⟨_, pt_chain (opS X _) (opS X _) h1 h3 h5 hm, fun B F0 ρ σ F H Φ Q R hp k => ?_⟩
  have sm : SmE X.K W (tChain (rS2 X (compareOp op)) (rS2 X (compareOp op')) t u w) (pChain P P' pa pb pc) := fun B F0 ρ σ F H Φ Q R hp k => by
    refine h2.fz R hp fun x ρ1 v F1 H1 R1 le1 tv1 q1 => ?_
    refine h4.fz R1 q1 fun y ρ2 u F2 H2 R2 le2 tv2 q2 => ?_
    refine ho B F0 ρ2 σ F2 H2 x y v u _ _ R2 (Tv.le le2 _ _ tv1) tv2 q2 fun τ f w F' H' R' le vr q => ?_
    obtain ⟨kk, rfl, q⟩ := q
    have ew : w = .bl kk := by
      cases f with
      | false => exact vr
      | true => obtain ⟨_, _, _, z, _⟩ := vr; cases z
    refine ⟨kk, ew, ?_⟩
    cases kk with
    | false =>
      rw [if_neg Bool.false_ne_true] at q ⊢
      exact k _ false ρ2 _ F' H' R' (le1.trans (le2.trans le)) VR.bl q
    | true =>
      rw [if_pos rfl] at q ⊢
      refine h6.fz R' q fun z ρ3 u3 F3 H3 R3 le3 tv3 q3 => ?_
      exact ho' B F0 ρ3 σ F3 H3 y z u u3 _ Q R3 (Tv.le (le.trans le3) _ _ tv2) tv3 q3 fun τ f w F' H' R' le' vr q => k τ f ρ3 w F' H' R' (le1.trans (le2.trans (le.trans (le3.trans le')))) vr q
  refine sm.fz R hp fun τ ρ1 v F1 H1 R1 le1 tv q1 => ?_
  obtain ⟨c, rfl, q1⟩ := q1
  exact ⟨c, tv, k c ρ1 F1 H1 R1 le1 q1⟩
def pTAnd (ta tb : PT') : PT' := fun ρ Φ => ta ρ fun c ρ1 => if c = true then tb ρ1 Φ else Φ false ρ1
def pTOr (ta tb : PT') : PT' := fun ρ Φ => ta ρ fun c ρ1 => if c = true then Φ true ρ1 else tb ρ1 Φ
def pTNot (ta : PT') : PT' := fun ρ Φ => ta ρ fun c ρ1 => Φ (!c) ρ1
theorem sm_and {t u : TT} (h1 : SmT X.K W t ta) (h2 : SmT X.K W u tb) : SmT X.K W (tAnd t u) (pTAnd ta tb) := fun B F0 ρ σ F H Φ Q R hp k => by
  refine h1 B F0 ρ σ F H _ _ R hp fun c ρ1 F1 H1 R1 le1 q1 => ?_
  cases c with
  | true =>
    rw [if_pos rfl] at q1 ⊢
    exact h2 B F0 ρ1 σ F1 H1 Φ Q R1 q1 fun b ρ2 F2 H2 R2 le2 q2 => k b ρ2 F2 H2 R2 (le1.trans le2) q2
  | false =>
    rw [if_neg Bool.false_ne_true] at q1 ⊢
    exact k false ρ1 F1 H1 R1 le1 q1
theorem sm_or {t u : TT} (h1 : SmT X.K W t ta) (h2 : SmT X.K W u tb) : SmT X.K W (tOr t u) (pTOr ta tb) := fun B F0 ρ σ F H Φ Q R hp k => by
  refine h1 B F0 ρ σ F H _ _ R hp fun c ρ1 F1 H1 R1 le1 q1 => ?_
  cases c with
  | false =>
    rw [if_neg Bool.false_ne_true] at q1 ⊢
    exact h2 B F0 ρ1 σ F1 H1 Φ Q R1 q1 fun b ρ2 F2 H2 R2 le2 q2 => k b ρ2 F2 H2 R2 (le1.trans le2) q2
  | true =>
    rw [if_pos rfl] at q1 ⊢
    exact k true ρ1 F1 H1 R1 le1 q1
theorem qw_and1 (h : QT X W a ta) : QW X W (.BoolOp .And [a] pos) ta := let ⟨t, h1, h2⟩ := h.ex; ⟨t, pw_and1 h1, h2⟩
theorem qw_or1 (h : QT X W a ta) : QW X W (.BoolOp .Or [a] pos) ta := let ⟨t, h1, h2⟩ := h.ex; ⟨t, pw_or1 h1, h2⟩
theorem qw_and (h : QT X W a ta) (h' : QW X W (.BoolOp .And (b :: rest) pos) tb) : QW X W (.BoolOp .And (a :: b :: rest) pos) (pTAnd ta tb) := let ⟨t, h1, h2⟩ := h.ex; let ⟨u, h3, h4⟩ := h'.ex; ⟨_, pw_and h1 h3, sm_and h2 h4⟩
theorem qw_or (h : QT X W a ta) (h' : QW X W (.BoolOp .Or (b :: rest) pos) tb) : QW X W (.BoolOp .Or (a :: b :: rest) pos) (pTOr ta tb) := let ⟨t, h1, h2⟩ := h.ex; let ⟨u, h3, h4⟩ := h'.ex; ⟨_, pw_or h1 h3, sm_or h2 h4⟩
theorem QW.qt (h : QW X W a ta) : QT X W a ta := let ⟨t, h1, h2⟩ := h.ex; ⟨t, h1.pt, h2⟩
theorem qt_not (h : QT X W a ta) : QT X W (.UnaryOp .Not a pos) (pTNot ta) := by
  obtain ⟨t, h1, h2⟩ := h.ex
  refine ⟨_, pt_not h1, fun B F0 ρ σ F H Φ Q R hp k => ?_⟩
  exact h2 B F0 ρ σ F H _ _ R hp fun c ρ1 F1 H1 R1 le1 q1 => k (!c) ρ1 F1 H1 R1 le1 q1
/-! #### and, or, not, if as values -/
def pAndV (pa pb : PE') : PE' := fun ρ Φ => pa ρ fun x _ ρ1 => ∃ c, x.tru = some c ∧ if c = true then pb ρ1 Φ else Φ x false ρ1
def pOrV (pa pb : PE') : PE' := fun ρ Φ => pa ρ fun x _ ρ1 => ∃ c, x.tru = some c ∧ if c = true then Φ x false ρ1 else pb ρ1 Φ
def pNotV (pa : PE') : PE' := fun ρ Φ => pa ρ fun x _ ρ1 => ∃ c, x.tru = some c ∧ Φ (.bl (!c)) false ρ1
theorem qe_one {op} (h : QE X W a pa) : QE X W (.BoolOp op [a] pos) pa := let ⟨t, h1, h2⟩ := h.ex; ⟨t, pe_one h1, h2⟩
theorem qe_and (h : QE X W a pa) (h' : QE X W (.BoolOp .And (b :: rest) pos) pb) : QE X W (.BoolOp .And (a :: b :: rest) pos) (pAndV pa pb) := by
  obtain ⟨t, h1, h2⟩ := h.ex
  obtain ⟨u, h3, h4⟩ := h'.ex
  refine ⟨_, pe_andT h1 h3, fun B F0 ρ σ F H Φ Q R hp k => ?_⟩
  refine h2.fz R hp fun x ρ1 v F1 H1 R1 le1 tv q1 => ?_
  obtain ⟨c, e1, q1⟩ := q1
  refine ⟨c, tru_v R1.fh (Rv.of R1.fh tv) e1, ?_⟩
  cases c with
  | true =>
    rw [if_pos rfl] at q1 ⊢
    exact h4 B F0 ρ1 σ F1 H1 Φ Q R1 q1 fun τ f ρ2 w F2 H2 R2 le2 vr q2 => k τ f ρ2 w F2 H2 R2 (le1.trans le2) vr q2
  | false =>
    rw [if_neg Bool.false_ne_true] at q1 ⊢
    exact k x false ρ1 v F1 H1 R1 le1 (VR.fz tv) q1
theorem qe_or (h : QE X W a pa) (h' : QE X W (.BoolOp .Or (b :: rest) pos) pb) : QE X W (.BoolOp .Or (a :: b :: rest) pos) (pOrV pa pb) := by
  obtain ⟨t, h1, h2⟩ := h.ex
  obtain ⟨u, h3, h4⟩ := h'.ex
  refine ⟨_, pe_orT h1 h3, fun B F0 ρ σ F H Φ Q R hp k => ?_⟩
  refine h2.fz R hp fun x ρ1 v F1 H1 R1 le1 tv q1 => ?_
  obtain ⟨c, e1, q1⟩ := q1
  refine ⟨c, tru_v R1.fh (Rv.of R1.fh tv) e1, ?_⟩
  cases c with
  | false =>
    rw [if_neg Bool.false_ne_true] at q1 ⊢
    exact h4 B F0 ρ1 σ F1 H1 Φ Q R1 q1 fun τ f ρ2 w F2 H2 R2 le2 vr q2 => k τ f ρ2 w F2 H2 R2 (le1.trans le2) vr q2
  | true =>
    rw [if_pos rfl] at q1 ⊢
    exact k x false ρ1 v F1 H1 R1 le1 (VR.fz tv) q1
theorem qe_not (h : QE X W a pa) : QE X W (.UnaryOp .Not a pos) (pNotV pa) := by
  obtain ⟨t, h1, h2⟩ := h.ex
  refine ⟨_, pe_notT h1, fun B F0 ρ σ F H Φ Q R hp k => ?_⟩
  refine h2.fz R hp fun x ρ1 v F1 H1 R1 le1 tv q1 => ?_
  obtain ⟨c, e1, q1⟩ := q1
  exact ⟨c, tru_v R1.fh (Rv.of R1.fh tv) e1, k _ false ρ1 _ F1 H1 R1 le1 VR.bl q1⟩
def pIf (tc : PT') (pa pb : PE') : PE' := fun ρ Φ => tc ρ fun c ρ1 => if c = true then pa ρ1 Φ else pb ρ1 Φ
theorem qe_if (hc : QT X W c tc) (ha : QE X W a pa) (hb : QE X W b pb) : QE X W (.IfExp c a b pos) (pIf tc pa pb) := by
  obtain ⟨t, h1, h2⟩ := hc.ex
  obtain ⟨u, h3, h4⟩ := ha.ex
  obtain ⟨w, h5, h6⟩ := hb.ex
  refine ⟨_, pe_ifExp h1 h3 h5, fun B F0 ρ σ F H Φ Q R hp k => ?_⟩
  refine h2 B F0 ρ σ F H _ _ R hp fun c ρ1 F1 H1 R1 le1 q1 => ?_
  cases c with
  | true =>
    rw [if_pos rfl] at q1 ⊢
    exact h4 B F0 ρ1 σ F1 H1 Φ Q R1 q1 fun τ f ρ2 w F2 H2 R2 le2 vr q2 => k τ f ρ2 w F2 H2 R2 (le1.trans le2) vr q2
  | false =>
    rw [if_neg Bool.false_ne_true] at q1 ⊢
    exact h6 B F0 ρ1 σ F1 H1 Φ Q R1 q1 fun τ f ρ2 w F2 H2 R2 le2 vr q2 => k τ f ρ2 w F2 H2 R2 (le1.trans le2) vr q2
/-! #### items, slices -/
def rSI (X : Cx) (b : Expr) : R2 := fun x y H Q => ∀ (value slice : Expr) (pins : List (Addr × Obj)) (s : Shared) (σ : L2.St) (v u : Value), Inv X pins σ H s → RelV x v → RelV y u → subscripted slice false v u = operate [v, u] (getItem v u) →
  wpAny (model X.prog X.w) X.A (subscriptTail value slice v u) (EP X pins σ Q) X.xe s
theorem ixS (X : Cx) (b : Expr) : IxR X (rSI X b) := fun value slice pins s σ H x y v u Q I rx ry h hs => h value slice pins s σ v u I rx ry hs
theorem rSI.of {r : R2} (o : IxR X r) {x y : V} {H : Hp} {Q : VK} (h : r x y H Q) : rSI X b x y H Q := fun value slice pins s σ v u I rx ry hs => o value slice pins s σ H x y v u Q I rx ry h hs
def PIx (x y : T) (Φ : T → Prop) : Prop := match x, y with
  | .lst l, .int i => ∃ t, atI l i = some t ∧ Φ t
  | .tup l, .int i => ∃ t, atI l i = some t ∧ Φ t
  | .str z, .int i => z.length ≤ 16000000 ∧ ∃ c, atI z.cps.toList i = some c ∧ Φ (.str ⟨#[c]⟩)
  | _, _ => False
theorem at_v {K : PySem.W.Frag} {F : Hp} {l : List T} {xs : List V} (h : TvL K F l xs) {i : Int} {t : T} (e : atI l i = some t) : ∃ v, atI xs i = some v ∧ Tv K F t v := by
  unfold atI at e ⊢
  rw [h.length]
  cases z : ixN l.length i with
  | none => rw [z] at e; cases e
  | some j =>
    rw [z] at e
    obtain ⟨v, e1, e2⟩ := h.get (i := j) e
    exact ⟨v, e1, e2⟩
def pIx (pr : PR') (pb : PE') : PE' := fun ρ Φ => pr ρ fun r ρ1 => pb ρ1 fun y _ ρ2 => ∃ t, r.look ρ2 = some t ∧ PIx t y fun τ => Φ τ false ρ2
theorem qe_ix (ha : QR X W a pr) (hb : QE X W b pb) (hs : PlainIx b) : QE X W (.Subscript a b pos) (pIx pr pb) := by
  have hl := sl16
  obtain ⟨t, h1, h2⟩ := ha.ex
  obtain ⟨u, h3, h4⟩ := hb.ex
  refine ⟨_, pe_ix (ixS X b) h1 h3 hs, fun B F0 ρ σ F H Φ Q R hp k => ?_⟩
  refine h2 B F0 ρ σ F H _ _ R hp fun r ρ1 v F1 H1 R1 le1 rd q1 => ?_
  refine h4.fz R1 q1 fun y ρ2 w F2 H2 R2 le2 tv2 q2 => ?_
  obtain ⟨x, e1, q2⟩ := q2
  have rv := R2.rv (rd.le le2) e1
  unfold PIx at q2
  split at q2
  · obtain ⟨τ, e2, q2⟩ := q2
    obtain ⟨p, xs, rfl, h5, h6⟩ := rv
    obtain ⟨z, e3, e4⟩ := at_v h6 e2
    exact rSI.of ix_list ⟨p, xs, _, z, rfl, tv2, .of h5, e3, k _ false ρ2 _ F2 H2 R2 (le1.trans le2) (VR.fz e4) q2⟩
  · obtain ⟨τ, e2, q2⟩ := q2
    obtain ⟨p, xs, rfl, h5, h6⟩ := rv
    obtain ⟨z, e3, e4⟩ := at_v h6 e2
    exact rSI.of ix_tup ⟨p, xs, _, z, rfl, tv2, sqt_le R2.fh h5, e3, k _ false ρ2 _ F2 H2 R2 (le1.trans le2) (VR.fz e4) q2⟩
  · obtain ⟨hz, c, e2, q2⟩ := q2
    exact rSI.of ix_str ⟨_, _, c, rv, tv2, by omega, e2, k _ false ρ2 _ F2 H2 R2 (le1.trans le2) VR.str q2⟩
  · exact q2.elim
/-- a part of a slice -/
abbrev PO' := PS' → (Option Int → PS' → Prop) → Prop
structure QO (X : Cx) (W : Wld) (e : Option Expr) (p : PO') : Prop where
  ex : ∃ t, PO X e t ∧ ∀ (B F0 : Hp) (ρ : PS') (σ : L2.St) (F H : Hp) (Φ : Option Int → PS' → Prop) (Q : Option Int → Hp → Prop), Rep X.K W B F0 ρ σ F H → p ρ Φ → (∀ o ρ' F' H', Rep X.K W B F0 ρ' σ F' H' → Le F F' → Φ o ρ' → Q o H') → t σ H Q
def pNoPart : PO' := fun ρ Φ => Φ none ρ
def KPart (t : T) (Φ : Option Int → Prop) : Prop := match t with
  | .int i => Φ (some i)
  | _ => False
def pPart (p : PE') : PO' := fun ρ Φ => p ρ fun t _ ρ' => KPart t fun o => Φ o ρ'
theorem qo_none : QO X W none pNoPart := ⟨_, po_none, fun B F0 ρ σ F H Φ Q R hp k => k none ρ F H R (Le.refl _) hp⟩
theorem qo_some (h : QE X W e pa) : QO X W (some e) (pPart pa) := by
  obtain ⟨t, h1, h2⟩ := h.ex
  refine ⟨_, po_some h1, fun B F0 ρ σ F H Φ Q R hp k => ?_⟩
  refine h2.fz R hp fun τ ρ1 v F1 H1 R1 le1 tv q1 => ?_
  unfold KPart at q1
  split at q1
  · exact ⟨_, tv, k _ ρ1 F1 H1 R1 le1 q1⟩
  · exact q1.elim
def cutT {α : Type} (xs : List α) (lo hi : Option Int) : List α := (xs.drop (HT.sIx xs.length 0 lo)).take (HT.sIx xs.length xs.length hi - HT.sIx xs.length 0 lo)
theorem cutT_len {α : Type} (xs : List α) (lo hi : Option Int) : (cutT xs lo hi).length ≤ xs.length := by
  unfold cutT
  rw [List.length_take, List.length_drop]
  omega
theorem cut_v {K : PySem.W.Frag} {F : Hp} {l : List T} {xs : List V} (h : TvL K F l xs) (lo hi : Option Int) : TvL K F (cutT l lo hi) (cutV xs lo hi) := by
  unfold cutT cutV
  rw [h.length]
  exact (h.drop _).take _
def PSl (x : T) (lo hi : Option Int) (Φ : T → Bool → Prop) : Prop := match x with
  | .lst l => Φ (.lst (cutT l lo hi)) true
  | .tup l => Φ (.tup (cutT l lo hi)) false
  | .str z => z.length ≤ 16000000 ∧ Φ (.str (cutS z lo hi)) false
  | _ => False
def rSS (X : Cx) : V → Option Int → Option Int → Hp → VK → Prop := fun x lo hi H Q => ∀ (pins : List (Addr × Obj)) (s : Shared) (σ : L2.St) (v vl vu : Value) (sl : Addr), Inv X pins σ H s → RelV x v → s.heap.IsSliceOf sl vl vu .none → IsPart vl lo → IsPart vu hi →
    ∃ T id, typeLookup (.type T) "__getitem__" = pure (some (.builtin id)) ∧ s.TypeIs v T ∧ wpAny (model X.prog X.w) X.A (getItem v (.ref sl)) (EP X pins σ Q) X.xe s
theorem slS (X : Cx) : SlR X (rSS X) := fun pins s σ H x v vl vu lo hi sl Q I rx hs pl pu h => h pins s σ v vl vu sl I rx hs pl pu
theorem rSS.of {r : V → Option Int → Option Int → Hp → VK → Prop} (o : SlR X r) {x : V} {lo hi : Option Int} {H : Hp} {Q : VK} (h : r x lo hi H Q) : rSS X x lo hi H Q := fun pins s σ v vl vu sl I rx hs pl pu => o pins s σ H x v vl vu lo hi sl Q I rx hs pl pu h
def pSl (pr : PR') (pl ph : PO') : PE' := fun ρ Φ => pr ρ fun r ρ1 => pl ρ1 fun lo ρ2 => ph ρ2 fun hi ρ3 => ∃ t, r.look ρ3 = some t ∧ PSl t lo hi fun τ f => Φ τ f ρ3
theorem qe_slice {lo hi : Option Expr} {pl ph : PO'} {p2 : Pos} (ha : QR X W a pr) (hl : QO X W lo pl) (hh : QO X W hi ph) : QE X W (.Subscript a (.Slice lo hi none p2) pos) (pSl pr pl ph) := by
  have hs := sl16
  obtain ⟨t, h1, h2⟩ := ha.ex
  obtain ⟨u, h3, h4⟩ := hl.ex
  obtain ⟨w, h5, h6⟩ := hh.ex
  refine ⟨_, pe_slice (slS X) h1 h3 h5, fun B F0 ρ σ F H Φ Q R hp k => ?_⟩
  refine h2 B F0 ρ σ F H _ _ R hp fun r ρ1 v F1 H1 R1 le1 rd q1 => ?_
  refine h4 B F0 ρ1 σ F1 H1 _ _ R1 q1 fun o1 ρ2 F2 H2 R2 le2 q2 => ?_
  refine h6 B F0 ρ2 σ F2 H2 _ _ R2 q2 fun o2 ρ3 F3 H3 R3 le3 q3 => ?_
  obtain ⟨x, e1, q3⟩ := q3
  have rv := R3.rv (rd.le (le2.trans le3)) e1
  have le := le1.trans (le2.trans le3)
  unfold PSl at q3
  split at q3
  · obtain ⟨p, xs, rfl, h7, h8⟩ := rv
    refine rSS.of sl_list ⟨p, xs, rfl, .of h7, fun z nz => ?_⟩
    obtain ⟨R4, vr⟩ := R3.newL nz (cut_v h8 o1 o2)
    exact k _ true ρ3 _ F3 _ R4 le vr q3
  · rename_i l
    obtain ⟨p, xs, rfl, h7, h8⟩ := rv
    refine rSS.of sl_tupN ⟨p, xs, rfl, sqt_le R3.fh h7, fun hw => ?_, fun _ z o nz d => ?_⟩
    · have e : cutT l o1 o2 = l := by
        unfold cutT
        rw [← h8.length, hw.1, hw.2, List.drop_zero, Nat.sub_zero, h8.length, List.take_length]
      rw [e] at q3
      exact k _ false ρ3 _ F3 H3 R3 le (VR.fz (t := .tup l) ⟨p, xs, rfl, h7, h8⟩) q3
    · obtain ⟨F4, R4, le4, tv⟩ := R3.newT nz d (cut_v h8 o1 o2)
      exact k _ false ρ3 _ F4 _ R4 (le.trans le4) (VR.fz tv) q3
  · exact rSS.of sl_str ⟨_, rv, by omega, k _ false ρ3 _ F3 H3 R3 le VR.str q3.2⟩
  · exact q3.elim
end
end Y

namespace Y
open PySem PySem.Spec PyProof.Rows L2 RT RZ
/-! ### what is walked -/
/-- J walks these things while F stands -/
structure ItOk (K : PySem.W.Frag) (J : It) (F : Hp) (items : List T) : Prop where
  go : ∀ i H, Le F H → i < items.length → J.go i H
  stop : ∀ i H, Le F H → items.length ≤ i → J.stop i H
  yld : ∀ i H x H', Le F H → i < items.length → J.yld i H x H' → ∃ t, items[i]? = some t ∧ ((H' = H ∧ Tv K F t x) ∨ ∃ p xs l, x = .ref p ∧ t = .wtp l ∧ TvL K F l xs ∧ H p = none ∧ H' = upd H p (.tup xs))
abbrev PI' := PS' → (List T → PS' → Prop) → Prop
structure QI (X : Cx) (W : Wld) (tg iter : Expr) (p : PI') : Prop where
  ex : ∃ wi, PI X tg iter wi ∧ ∀ (B F0 : Hp) (ρ : PS') (σ : L2.St) (F H : Hp) (Φ : List T → PS' → Prop) (R : It → Hp → Prop), Rep X.K W B F0 ρ σ F H → p ρ Φ →
    (∀ items ρ' F' H' J, Rep X.K W B F0 ρ' σ F' H' → Le F F' → ItOk X.K J F' items → Φ items ρ' → R J H') → wi σ H R
def T.iter : T → Option (List T)
  | .tup l => some l
  | .lst l => some l
  | .str z => some (z.cps.toList.map fun c => .str ⟨#[c]⟩)
  | _ => none
section
variable {K : PySem.W.Frag} {F : Hp}
theorem it_list {a : Addr} {xs : List V} {l : List T} (h : F a = some (.lst xs)) (tv : TvL K F l xs) : ItOk K (Itl K a) F l where
  go := fun i H le hi => by
    obtain ⟨x, e, _⟩ := tv.get (List.getElem?_eq_getElem hi)
    exact ⟨xs, x, .of (le _ _ h), e⟩
  stop := fun i H le hi => ⟨xs, .of (le _ _ h), by rw [tv.length]; exact hi⟩
  yld := fun i H x H' le hi y => by
    obtain ⟨e, y⟩ := y
    have hx := y xs (.of (le _ _ h))
    obtain ⟨t, e1, e2⟩ := tv.get' hx
    exact ⟨t, e1, .inl ⟨e, e2⟩⟩
theorem it_tup {a : Addr} {xs : List V} {l : List T} (h : SqN K F a xs) (tv : TvL K F l xs) : ItOk K (Itt K a) F l where
  go := fun i H le hi => by
    obtain ⟨x, e, _⟩ := tv.get (List.getElem?_eq_getElem hi)
    exact ⟨xs, x, sqt_le le h, e⟩
  stop := fun i H le hi => ⟨xs, sqt_le le h, by rw [tv.length]; exact hi⟩
  yld := fun i H x H' le hi y => by
    obtain ⟨e, y⟩ := y
    have hx := y xs (sqt_le le h)
    obtain ⟨t, e1, e2⟩ := tv.get' hx
    exact ⟨t, e1, .inl ⟨e, e2⟩⟩
theorem it_str (z : Str) : ItOk K (Its z) F (z.cps.toList.map fun c => .str ⟨#[c]⟩) where
  go := fun i H le hi => by
    rw [List.length_map] at hi
    show i < z.cps.size
    simpa using hi
  stop := fun i H le hi => by
    rw [List.length_map] at hi
    show z.cps.size ≤ i
    simpa using hi
  yld := fun i H x H' le hi y => by
    obtain ⟨e, c, hc, rfl⟩ := y
    refine ⟨.str ⟨#[c]⟩, ?_, .inl ⟨e, rfl⟩⟩
    rw [List.getElem?_map, Array.getElem?_toList, hc]
    rfl
theorem it_rng (lo : Int) (n : Nat) : ItOk K (Itr lo n) F ((List.range n).map fun i => .int (lo + (i : Nat))) where
  go := fun i H le hi => by
    rw [List.length_map, List.length_range] at hi
    exact hi
  stop := fun i H le hi => by
    rw [List.length_map, List.length_range] at hi
    exact hi
  yld := fun i H x H' le hi y => by
    obtain ⟨e, rfl⟩ := y
    rw [List.length_map, List.length_range] at hi
    refine ⟨.int (lo + i), ?_, .inl ⟨e, rfl⟩⟩
    rw [List.getElem?_map, List.getElem?_range hi]
    rfl
theorem it_enum {a : Addr} {xs : List V} {l : List T} (h : F a = some (.lst xs)) (tv : TvL K F l xs) : ItOk K (Ite K a) F (l.mapIdx fun i t => .wtp [.int (i : Nat), t]) where
  go := fun i H le hi => by
    rw [List.length_mapIdx] at hi
    obtain ⟨x, e, _⟩ := tv.get (List.getElem?_eq_getElem hi)
    exact ⟨xs, x, .of (le _ _ h), e⟩
  stop := fun i H le hi => by
    rw [List.length_mapIdx] at hi
    exact ⟨xs, .of (le _ _ h), by rw [tv.length]; exact hi⟩
  yld := fun i H x H' le hi y => by
    obtain ⟨p, x, rfl, np, e, y⟩ := y
    have hx := y xs (.of (le _ _ h))
    obtain ⟨t, e1, e2⟩ := tv.get' hx
    refine ⟨.wtp [.int (i : Nat), t], ?_, .inr ⟨p, _, _, rfl, rfl, ⟨_, _, rfl, rfl, _, _, rfl, e2, rfl⟩, np, e⟩⟩
    rw [List.getElem?_mapIdx, e1]
    rfl
theorem it_rev {a : Addr} {xs : List V} {l : List T} (h : F a = some (.lst xs)) (tv : TvL K F l xs) : ItOk K (Itv K a xs.length) F l.reverse where
  go := fun i H le hi => by
    rw [List.length_reverse, ← tv.length] at hi
    have hj : xs.length - 1 - i < xs.length := by omega
    exact ⟨hi, xs, xs[xs.length - 1 - i], .of (le _ _ h), List.getElem?_eq_getElem hj⟩
  stop := fun i H le hi => by
    rw [List.length_reverse, ← tv.length] at hi
    exact hi
  yld := fun i H x H' le hi y => by
    obtain ⟨e, y⟩ := y
    rw [List.length_reverse] at hi
    have hx := y xs (.of (le _ _ h))
    obtain ⟨t, e1, e2⟩ := tv.get' hx
    refine ⟨t, ?_, .inl ⟨e, e2⟩⟩
    rw [List.getElem?_reverse hi, ← tv.length]
    exact e1
theorem it_revT {a : Addr} {xs : List V} {l : List T} (h : SqN K F a xs) (tv : TvL K F l xs) : ItOk K (ItvT K a xs.length) F l.reverse where
  go := fun i H le hi => by
    rw [List.length_reverse, ← tv.length] at hi
    have hj : xs.length - 1 - i < xs.length := by omega
    exact ⟨hi, xs, xs[xs.length - 1 - i], sqt_le le h, List.getElem?_eq_getElem hj⟩
  stop := fun i H le hi => by
    rw [List.length_reverse, ← tv.length] at hi
    exact hi
  yld := fun i H x H' le hi y => by
    obtain ⟨e, y⟩ := y
    rw [List.length_reverse] at hi
    have hx := y xs (sqt_le le h)
    obtain ⟨t, e1, e2⟩ := tv.get' hx
    refine ⟨t, ?_, .inl ⟨e, e2⟩⟩
    rw [List.getElem?_reverse hi, ← tv.length]
    exact e1
theorem zip_get {l m : List T} {i : Nat} {t u : T} (h : l[i]? = some t) (h' : m[i]? = some u) : (List.zipWith (fun x y => T.wtp [x, y]) l m)[i]? = some (.wtp [t, u]) := by
  rw [List.getElem?_zipWith, h, h']
theorem it_zip {a b : Addr} {xs ys : List V} {l m : List T} (h : F a = some (.lst xs)) (h' : F b = some (.lst ys)) (tv : TvL K F l xs) (tv' : TvL K F m ys) : ItOk K (Itz K a b) F (List.zipWith (fun x y => T.wtp [x, y]) l m) where
  go := fun i H le hi => by
    rw [List.length_zipWith] at hi
    obtain ⟨x, e, _⟩ := tv.get (List.getElem?_eq_getElem (show i < l.length by omega))
    obtain ⟨y, e', _⟩ := tv'.get (List.getElem?_eq_getElem (show i < m.length by omega))
    exact ⟨xs, ys, x, y, .of (le _ _ h), .of (le _ _ h'), e, e'⟩
  stop := fun i H le hi => by
    rw [List.length_zipWith] at hi
    have := tv.length
    have := tv'.length
    exact ⟨xs, ys, .of (le _ _ h), .of (le _ _ h'), by omega⟩
  yld := fun i H x H' le hi y => by
    obtain ⟨p, x, z, rfl, np, e, y, y'⟩ := y
    obtain ⟨t, e1, e2⟩ := tv.get' (y xs (.of (le _ _ h)))
    obtain ⟨u, e3, e4⟩ := tv'.get' (y' ys (.of (le _ _ h')))
    exact ⟨_, zip_get e1 e3, .inr ⟨p, _, _, rfl, rfl, ⟨_, _, rfl, e2, _, _, rfl, e4, rfl⟩, np, e⟩⟩
theorem it_zipT {a b : Addr} {xs ys : List V} {l m : List T} (h : SqN K F a xs) (h' : SqN K F b ys) (tv : TvL K F l xs) (tv' : TvL K F m ys) : ItOk K (ItzT K a b) F (List.zipWith (fun x y => T.wtp [x, y]) l m) where
  go := fun i H le hi => by
    rw [List.length_zipWith] at hi
    obtain ⟨x, e, _⟩ := tv.get (List.getElem?_eq_getElem (show i < l.length by omega))
    obtain ⟨y, e', _⟩ := tv'.get (List.getElem?_eq_getElem (show i < m.length by omega))
    exact ⟨xs, ys, x, y, sqt_le le h, sqt_le le h', e, e'⟩
  stop := fun i H le hi => by
    rw [List.length_zipWith] at hi
    have := tv.length
    have := tv'.length
    exact ⟨xs, ys, sqt_le le h, sqt_le le h', by omega⟩
  yld := fun i H x H' le hi y => by
    obtain ⟨p, x, z, rfl, np, e, y, y'⟩ := y
    obtain ⟨t, e1, e2⟩ := tv.get' (y xs (sqt_le le h))
    obtain ⟨u, e3, e4⟩ := tv'.get' (y' ys (sqt_le le h'))
    exact ⟨_, zip_get e1 e3, .inr ⟨p, _, _, rfl, rfl, ⟨_, _, rfl, e2, _, _, rfl, e4, rfl⟩, np, e⟩⟩
end
section
variable {X : Cx} {W : Wld} {tg e e2 : Expr} {pos p : Pos} {pa pb : PE'}
/-- a value that is walked: a list, a tuple, a text -/
def iAny (K : PySem.W.Frag) (te : TE) : TI := fun σ H R => te σ H fun x H1 => (∃ a xs, x = .ref a ∧ SqL K H1 a xs ∧ R (Itl K a) H1) ∨ (∃ a xs, x = .ref a ∧ SqT K H1 a xs ∧ R (Itt K a) H1) ∨ ∃ z, x = .str z ∧ R (Its z) H1
theorem pi_any {te : TE} (he : PE X e te) : PI X tg e (iAny X.K te) := by
  refine ⟨fun pins s σ H R I h => ?_⟩
  refine thn (he.run pins s σ H _ I h) fun v s1 ⟨x, H1, I1, r1, q1⟩ => ?_
  rcases q1 with ⟨a, xs, rfl, hq, q⟩ | ⟨a, xs, rfl, hq, q⟩ | ⟨z, rfl, q⟩
  · cases r1
    obtain ⟨its, rv, p, hz⟩ := I1.list hq
    exact wpAny_pyIter_list p.isList (pi_one (tk := s1.toks) I1 _ (turn_list a _) ⟨_, Heap.get?_push_size _ rfl, rfl, rfl⟩ q)
  · cases r1
    obtain ⟨its, rv, p, hz⟩ := I1.tuple hq
    exact wpAny_pyIter_tuple (show s1.heap.IsTuple a its.toArray from p) (pi_one (tk := s1.toks) I1 _ (turn_tuple a _) ⟨_, Heap.get?_push_size _ rfl, rfl, rfl⟩ q)
  · obtain ⟨t, rfl⟩ := r1
    cases ha : z.cps.all (· < 128)
    · exact wpAny_pyIter_wide ha (pi_one (tk := s1.toks) I1 _ (turn_str _ z t "str_iterator" (.inr rfl)) ⟨_, Heap.get?_push_size _ rfl, rfl, rfl⟩ q)
    · exact wpAny_pyIter_ascii ha (pi_one (tk := s1.toks) I1 _ (turn_str _ z t "str_ascii_iterator" (.inl rfl)) ⟨_, Heap.get?_push_size _ rfl, rfl, rfl⟩ q)
def pIter (pa : PE') : PI' := fun ρ Φ => pa ρ fun t _ ρ' => ∃ l, t.iter = some l ∧ Φ l ρ'
theorem qi_val (h : QE X W e pa) : QI X W tg e (pIter pa) := by
  obtain ⟨t, h1, h2⟩ := h.ex
  refine ⟨_, pi_any h1, fun B F0 ρ σ F H Φ R R0 hp k => ?_⟩
  refine h2.fz R0 hp fun τ ρ1 v F1 H1 R1 le1 tv q1 => ?_
  obtain ⟨l, e1, q1⟩ := q1
  cases τ <;> first | cases e1 | skip
  · obtain rfl := tv
    exact .inr (.inr ⟨_, rfl, k _ ρ1 F1 H1 _ R1 le1 (it_str _) q1⟩)
  · obtain ⟨a, xs, rfl, h3, h4⟩ := tv
    exact .inr (.inl ⟨a, xs, rfl, sqt_le R1.fh h3, k _ ρ1 F1 H1 _ R1 le1 (it_tup h3 h4) q1⟩)
  · obtain ⟨a, xs, rfl, h3, h4⟩ := tv
    exact .inl ⟨a, xs, rfl, .of (R1.fh _ _ h3), k _ ρ1 F1 H1 _ R1 le1 (it_list h3 h4) q1⟩
def rngT (lo : Int) (n : Nat) : List T := (List.range n).map fun i => .int (lo + (i : Nat))
def KRng1 (t : T) (Φ : List T → Prop) : Prop := match t with
  | .int j => -(2 ^ 62) ≤ j ∧ j < 2 ^ 62 ∧ Φ (rngT 0 j.toNat)
  | _ => False
def pRng1 (pa : PE') : PI' := fun ρ Φ => pa ρ fun t _ ρ' => KRng1 t fun l => Φ l ρ'
theorem qi_range1 (hg : Gl X "range") (hm : X.mg "range" = none) (h : QE X W e pa) (hs : starEach [e] X.env = [(false, eval e X.env)] := by rfl) : QI X W tg (.Call (.Name "range" p) [e] [] pos) (pRng1 pa) := by
  obtain ⟨t, h1, h2⟩ := h.ex
  refine ⟨_, pi_range1 hg hm (pa_cons h1 pa_nil (by rw [hs]; rfl)) hs, fun B F0 ρ σ F H Φ R R0 hp k => ?_⟩
  refine h2.fz R0 hp fun τ ρ1 v F1 H1 R1 le1 tv q1 => ?_
  unfold KRng1 at q1
  split at q1
  · exact ⟨_, by rw [show v = _ from tv], q1.1, q1.2.1, k _ ρ1 F1 H1 _ R1 le1 (it_rng 0 _) q1.2.2⟩
  · exact q1.elim
def KRng2 (t u : T) (Φ : List T → Prop) : Prop := match t, u with
  | .int i, .int j => (-(2 ^ 62) ≤ i ∧ i < 2 ^ 62 ∧ -(2 ^ 62) ≤ j ∧ j < 2 ^ 62) ∧ Φ (rngT i (j - i).toNat)
  | _, _ => False
def pRng2 (pa pb : PE') : PI' := fun ρ Φ => pa ρ fun t _ ρ1 => pb ρ1 fun u _ ρ2 => KRng2 t u fun l => Φ l ρ2
theorem qi_range2 (hg : Gl X "range") (hm : X.mg "range" = none) (h : QE X W e pa) (h' : QE X W e2 pb) (hs : starEach [e, e2] X.env = [(false, eval e X.env), (false, eval e2 X.env)] := by rfl) (hs2 : starEach [e2] X.env = [(false, eval e2 X.env)] := by rfl) :
    QI X W tg (.Call (.Name "range" p) [e, e2] [] pos) (pRng2 pa pb) := by
  obtain ⟨t, h1, h2⟩ := h.ex
  obtain ⟨u, h3, h4⟩ := h'.ex
  refine ⟨_, pi_range2 hg hm (pa_cons h1 (pa_cons h3 pa_nil (by rw [hs2]; rfl)) (by rw [hs, hs2])) hs hs2, fun B F0 ρ σ F H Φ R R0 hp k => ?_⟩
  refine h2.fz R0 hp fun τ ρ1 v F1 H1 R1 le1 tv q1 => ?_
  refine h4.fz R1 q1 fun τ2 ρ2 w F2 H2 R2 le2 tv2 q2 => ?_
  unfold KRng2 at q2
  split at q2
  · exact ⟨_, _, by rw [show v = _ from tv, show w = _ from tv2], q2.1, k _ ρ2 F2 H2 _ R2 (le1.trans le2) (it_rng _ _) q2.2⟩
  · exact q2.elim
def KEnum (t : T) (Φ : List T → Prop) : Prop := match t with
  | .lst l => Φ (l.mapIdx fun i t => .wtp [.int (i : Nat), t])
  | _ => False
def pEnum (pa : PE') : PI' := fun ρ Φ => pa ρ fun t _ ρ' => KEnum t fun l => Φ l ρ'
theorem qi_enum {elts : List Expr} {kk : Nat} {tpos : Pos} (hg : Gl X "enumerate") (hm : X.mg "enumerate" = none) (h : QE X W e pa) (hs : starEach [e] X.env = [(false, eval e X.env)] := by rfl) : QI X W (.Tuple elts kk tpos) (.Call (.Name "enumerate" p) [e] [] pos) (pEnum pa) := by
  obtain ⟨t, h1, h2⟩ := h.ex
  refine ⟨_, pi_enum hg hm (pa_cons h1 pa_nil (by rw [hs]; rfl)) hs, fun B F0 ρ σ F H Φ R R0 hp k => ?_⟩
  refine h2.fz R0 hp fun τ ρ1 v F1 H1 R1 le1 tv q1 => ?_
  unfold KEnum at q1
  split at q1
  · obtain ⟨a, xs, rfl, h3, h4⟩ := tv
    exact ⟨a, xs, rfl, .of (R1.fh _ _ h3), k _ ρ1 F1 H1 _ R1 le1 (it_enum h3 h4) q1⟩
  · exact q1.elim
def pRev (pa : PE') : PI' := fun ρ Φ => pa ρ fun t _ ρ' => ∃ l, t.items = some l ∧ Φ l.reverse ρ'
theorem qi_rev (hg : Gl X "reversed") (hm : X.mg "reversed" = none) (h : QE X W e pa) (hs : starEach [e] X.env = (false, eval e X.env) :: starEach [] X.env := by rfl) : QI X W tg (.Call (.Name "reversed" p) [e] [] pos) (pRev pa) := by
  obtain ⟨t, h1, h2⟩ := h.ex
  refine ⟨_, pi_revA hg hm h1 hs, fun B F0 ρ σ F H Φ R R0 hp k => ?_⟩
  refine h2.fz R0 hp fun τ ρ1 v F1 H1 R1 le1 tv q1 => ?_
  obtain ⟨l, e1, q1⟩ := q1
  cases τ <;> first | cases e1 | skip
  · obtain ⟨a, xs, rfl, h3, h4⟩ := tv
    exact ⟨a, xs, rfl, .inr ⟨sqt_le R1.fh h3, k _ ρ1 F1 H1 _ R1 le1 (it_revT h3 h4) q1⟩⟩
  · obtain ⟨a, xs, rfl, h3, h4⟩ := tv
    exact ⟨a, xs, rfl, .inl ⟨.of (R1.fh _ _ h3), k _ ρ1 F1 H1 _ R1 le1 (it_rev h3 h4) q1⟩⟩
def KZip (t u : T) (Φ : List T → Prop) : Prop := match t, u with
  | .lst l, .lst m => Φ (List.zipWith (fun x y => T.wtp [x, y]) l m)
  | .tup l, .tup m => Φ (List.zipWith (fun x y => T.wtp [x, y]) l m)
  | _, _ => False
def pZip (pa pb : PE') : PI' := fun ρ Φ => pa ρ fun t _ ρ1 => pb ρ1 fun u _ ρ2 => KZip t u fun l => Φ l ρ2
theorem qi_zip {elts : List Expr} {kk : Nat} {tpos : Pos} (hg : Gl X "zip") (hm : X.mg "zip" = none) (h : QE X W e pa) (h' : QE X W e2 pb) (hs : starEach [e, e2] X.env = (false, eval e X.env) :: starEach [e2] X.env := by rfl) (hs2 : starEach [e2] X.env = (false, eval e2 X.env) :: starEach [] X.env := by rfl)
    (hpl : (backTo pos (starEach [e2] X.env)).any (·.1) = false := by rfl) : QI X W (.Tuple elts kk tpos) (.Call (.Name "zip" p) [e, e2] [] pos) (pZip pa pb) := by
  obtain ⟨t, h1, h2⟩ := h.ex
  obtain ⟨u, h3, h4⟩ := h'.ex
  refine ⟨_, pi_zipA hg hm (pa_cons h1 (pa_cons h3 pa_nil hs2) hs) hs hpl, fun B F0 ρ σ F H Φ R R0 hp k => ?_⟩
  refine h2.fz R0 hp fun τ ρ1 v F1 H1 R1 le1 tv q1 => ?_
  refine h4.fz R1 q1 fun τ2 ρ2 w F2 H2 R2 le2 tv2 q2 => ?_
  have tv := Tv.le le2 _ _ tv
  unfold KZip at q2
  split at q2
  · obtain ⟨a, xs, rfl, h5, h6⟩ := tv
    obtain ⟨b, ys, rfl, h7, h8⟩ := tv2
    exact ⟨a, b, xs, ys, rfl, .inl ⟨.of (R2.fh _ _ h5), .of (R2.fh _ _ h7), k _ ρ2 F2 H2 _ R2 (le1.trans le2) (it_zip h5 h7 h6 h8) q2⟩⟩
  · obtain ⟨a, xs, rfl, h5, h6⟩ := tv
    obtain ⟨b, ys, rfl, h7, h8⟩ := tv2
    exact ⟨a, b, xs, ys, rfl, .inr ⟨sqt_le R2.fh h5, sqt_le R2.fh h7, k _ ρ2 F2 H2 _ R2 (le1.trans le2) (it_zipT h5 h7 h6 h8) q2⟩⟩
  · exact q2.elim
end
/-! ### targets -/
abbrev PG' := T → Bool → PS' → (PS' → Prop) → Prop
def SmG (K : PySem.W.Frag) (W : Wld) (sl : List Nat) (t : TG) (g : PG') : Prop :=
  ∀ (B F0 : Hp) (ρ : PS') (σ : L2.St) (F H : Hp) (τ : T) (f : Bool) (v : V) (Φ : PS' → Prop) (Q : L2.St → Hp → Prop), Rep K W B F0 ρ σ F H → VR K W B ρ σ F H τ f v → g τ f ρ Φ →
    (∀ ρ' σ' F' H', Rep K W B F0 ρ' σ' F' H' → Le F F' → (∀ i, i ∉ sl → σ'[i]? = σ[i]?) → σ'.length = σ.length → Φ ρ' → Q σ' H') → t v σ H Q
structure QG (X : Cx) (W : Wld) (tg : Expr) (sl : List Nat) (g : PG') : Prop where
  ex : ∃ t, PG X tg t ∧ SmG X.K W sl t g
def tGc (K : PySem.W.Frag) (W : Wld) (sl : List Nat) (g : PG') : TG := fun v σ H Q => ∃ (B F0 : Hp) (ρ : PS') (F : Hp) (τ : T) (f : Bool) (Φ : PS' → Prop), Rep K W B F0 ρ σ F H ∧ VR K W B ρ σ F H τ f v ∧ g τ f ρ Φ ∧
    (∀ ρ' σ' F' H', Rep K W B F0 ρ' σ' F' H' → Le F F' → (∀ i, i ∉ sl → σ'[i]? = σ[i]?) → σ'.length = σ.length → Φ ρ' → Q σ' H')
theorem sm_tG {K : PySem.W.Frag} {W : Wld} {sl : List Nat} {g : PG'} : SmG K W sl (tGc K W sl g) g := fun B F0 ρ σ F H τ f v Φ Q R vr hg k => ⟨B, F0, ρ, F, τ, f, Φ, R, vr, hg, k⟩
theorem QG.can {X : Cx} {W : Wld} {tg : Expr} {sl : List Nat} {g : PG'} (h : QG X W tg sl g) : PG X tg (tGc X.K W sl g) := by
  obtain ⟨t, h1, h2⟩ := h.ex
  refine ⟨fun pins s σ H v u Q I r hq => h1.run pins s σ H v u Q I r ?_⟩
  obtain ⟨B, F0, ρ, F, τ, f, Φ, R, vr, hp, k⟩ := hq
  exact h2 B F0 ρ σ F H τ f v Φ Q R vr hp k
section
variable {X : Cx} {W : Wld} {tg e : Expr} {es : List Expr} {pos : Pos} {sl sl' : List Nat} {g : PG'}
def gN (i : Nat) : PG' := fun τ f ρ Φ => Φ (ρ.set i (Sl.of τ f))
theorem qg_name {x : Str} {i : Nat} (h : PG X (.Name x pos) (gName i)) : QG X W (.Name x pos) [i] (gN i) := by
  refine ⟨_, h, fun B F0 ρ σ F H τ f v Φ Q R vr hg k => ?_⟩
  refine k _ _ F H (R.set vr i) (Le.refl _) (fun j hj => ?_) (List.length_set ..) hg
  rw [List.getElem?_set_ne (fun z => hj (by rw [z]; exact List.mem_singleton.mpr rfl))]
abbrev PGs' := List T → PS' → (PS' → Prop) → Prop
structure QGs (X : Cx) (W : Wld) (ts : List Expr) (sl : List Nat) (g : PGs') : Prop where
  ex : ∃ t, PGs X ts t ∧ ∀ (B F0 : Hp) (ρ : PS') (σ : L2.St) (F H : Hp) (l : List T) (vs : List V) (Φ : PS' → Prop) (Q : L2.St → Hp → Prop), Rep X.K W B F0 ρ σ F H → TvL X.K F l vs → g l ρ Φ →
    (∀ ρ' σ' F' H', Rep X.K W B F0 ρ' σ' F' H' → Le F F' → (∀ i, i ∉ sl → σ'[i]? = σ[i]?) → σ'.length = σ.length → Φ ρ' → Q σ' H') → t vs σ H Q
def gsNil : PGs' := fun l ρ Φ => l = [] ∧ Φ ρ
def gsCons (g : PG') (gs : PGs') : PGs' := fun l ρ Φ => ∃ t r, l = t :: r ∧ g t false ρ fun ρ1 => gs r ρ1 Φ
theorem qgs_nil : QGs X W [] [] gsNil := ⟨_, pgs_nil, fun B F0 ρ σ F H l vs Φ Q R tv hg k => by
  obtain ⟨rfl, hg⟩ := hg
  exact ⟨tv, k ρ σ F H R (Le.refl _) (fun _ _ => rfl) rfl hg⟩⟩
theorem qgs_cons {gs : PGs'} (h : QG X W e sl g) (h' : QGs X W es sl' gs) (hs : (assignEach (e :: es) X.env).map (·.2) = assign e X.env :: (assignEach es X.env).map (·.2) := by rfl) : QGs X W (e :: es) (sl ++ sl') (gsCons g gs) := by
  obtain ⟨t, h1, h2⟩ := h.ex
  obtain ⟨u, h3, h4⟩ := h'.ex
  refine ⟨_, pgs_cons h1 h3 hs, fun B F0 ρ σ F H l vs Φ Q R tv hg k => ?_⟩
  obtain ⟨τ, r, rfl, hg⟩ := hg
  obtain ⟨x, xs, rfl, tv1, tv2⟩ := tv
  refine ⟨x, xs, rfl, ?_⟩
  refine h2 B F0 ρ σ F H τ false x _ _ R (VR.fz tv1) hg fun ρ1 σ1 F1 H1 R1 le1 o1 l1 q1 => ?_
  refine h4 B F0 ρ1 σ1 F1 H1 r xs Φ Q R1 (TvL.le le1 _ _ tv2) q1 fun ρ2 σ2 F2 H2 R2 le2 o2 l2 q2 => ?_
  refine k ρ2 σ2 F2 H2 R2 (le1.trans le2) (fun i hi => ?_) (l2.trans l1) q2
  rw [o2 i (fun z => hi (List.mem_append_right _ z)), o1 i (fun z => hi (List.mem_append_left _ z))]
def gTp (gs : PGs') : PG' := fun τ _ ρ Φ => ∃ l, (τ = .tup l ∨ τ = .wtp l) ∧ gs l ρ Φ
theorem qg_tup {gs : PGs'} {k : Nat} {n : Nat} (hc : X.calm = true) (h : QGs X W es sl gs) (hlen : ∀ l ρ Φ, gs l ρ Φ → l.length = n)
    (hn : (assignEach es X.env).length = n := by rfl) (hst : (assignEach es X.env).findIdx? (·.1) = none := by rfl) : QG X W (.Tuple es k pos) sl (gTp gs) := by
  obtain ⟨t, h1, h2⟩ := h.ex
  refine ⟨_, pg_tup hc h1 hn hst, fun B F0 ρ σ F H τ f v Φ Q R vr hg k => ?_⟩
  obtain ⟨l, ht, hg⟩ := hg
  have tv : Tv X.K F τ v := by
    cases f with
    | false => exact vr
    | true => obtain ⟨_, _, _, z, _⟩ := vr; rcases ht with rfl | rfl <;> cases z
  obtain ⟨a, xs, rfl, h3, h4⟩ : ∃ a xs, v = .ref a ∧ SqT X.K F a xs ∧ TvL X.K F l xs := by
    rcases ht with rfl | rfl
    · obtain ⟨a, xs, e, h3, h4⟩ := tv
      exact ⟨a, xs, e, h3.t, h4⟩
    · exact tv
  exact ⟨a, xs, rfl, sqw_le R.fh h3, by rw [h4.length]; exact hlen l ρ Φ hg, h2 B F0 ρ σ F H l xs Φ Q R h4 hg k⟩
theorem len_nil : ∀ l ρ Φ, gsNil l ρ Φ → l.length = 0 := fun l ρ Φ h => by rw [h.1]; rfl
theorem len_cons {gs : PGs'} {n : Nat} (hg : ∀ t f ρ Φ, g t f ρ Φ → ∃ ρ1, Φ ρ1) (h : ∀ l ρ Φ, gs l ρ Φ → l.length = n) : ∀ l ρ Φ, gsCons g gs l ρ Φ → l.length = n + 1 := fun l ρ Φ hh => by
  obtain ⟨t, r, rfl, hh⟩ := hh
  obtain ⟨ρ1, q⟩ := hg _ _ _ _ hh
  rw [List.length_cons, h r ρ1 Φ q]
theorem ex_name {i : Nat} : ∀ t f ρ Φ, gN i t f ρ Φ → ∃ ρ1, Φ ρ1 := fun t f ρ Φ h => ⟨_, h⟩
theorem exs_nil : ∀ l ρ Φ, gsNil l ρ Φ → ∃ ρ1, Φ ρ1 := fun l ρ Φ h => ⟨_, h.2⟩
theorem exs_cons {gs : PGs'} (hg : ∀ t f ρ Φ, g t f ρ Φ → ∃ ρ1, Φ ρ1) (h : ∀ l ρ Φ, gs l ρ Φ → ∃ ρ1, Φ ρ1) : ∀ l ρ Φ, gsCons g gs l ρ Φ → ∃ ρ1, Φ ρ1 := fun l ρ Φ hh => by
  obtain ⟨t, r, rfl, hh⟩ := hh
  obtain ⟨ρ1, q⟩ := hg _ _ _ _ hh
  exact h _ _ _ q
theorem ex_tup {gs : PGs'} (h : ∀ l ρ Φ, gs l ρ Φ → ∃ ρ1, Φ ρ1) : ∀ t f ρ Φ, gTp gs t f ρ Φ → ∃ ρ1, Φ ρ1 := fun t f ρ Φ ⟨l, _, q⟩ => h l ρ Φ q
/-- xs[i] = v, xs a slot's own list -/
def gSubT (i : Nat) (pb : PE') : PG' := fun τ _ ρ Φ => (∃ l, ρ[i]? = some (Sl.ow l)) ∧ pb ρ fun y _ ρ1 => ∃ l j k, ρ1[i]? = some (Sl.ow l) ∧ y = .int j ∧ ixN l.length j = some k ∧ Φ (ρ1.set i (Sl.ow (l.set k τ)))
theorem qg_sub {x : Str} {i : Nat} {b : Expr} {p2 : Pos} {pb : PE'} (h : PE X (.Name x p2) (tVar i)) (hb : QE X W b pb)
    (ha : ∀ v, assign (.Subscript (.Name x p2) b pos) X.env v = (do
      let ov ← holding [v] (eval (.Name x p2) X.env)
      let iv ← holding [v, ov] (eval b X.env)
      standAt pos
      holding [v, ov, iv] (setItem ov iv v)
      release [v, ov, iv] []) := by intro _; rfl) : QG X W (.Subscript (.Name x p2) b pos) [] (gSubT i pb) := by
  obtain ⟨u, h3, h4⟩ := hb.ex
  refine ⟨_, pg_sub h h3 set_list ha, fun B F0 ρ σ F H τ f v Φ Q R vr hg k => ?_⟩
  obtain ⟨⟨l0, e0⟩, hg⟩ := hg
  obtain ⟨F', R', le', tv⟩ := R.freeze vr
  obtain ⟨a, xs, e1, _⟩ := R'.ow i l0 e0
  refine ⟨_, e1, ?_⟩
  refine h4.fz R' hg fun y ρ1 w F1 H1 R1 le1 tv1 q1 => ?_
  obtain ⟨l, j, kk, e2, rfl, e3, q1⟩ := q1
  obtain ⟨a2, ys, e4, e5, e6, _⟩ := R1.ow i l e2
  rw [e1] at e4
  obtain rfl : a = a2 := V.ref.inj (Option.some.inj (Option.some.inj e4))
  refine ⟨a, ys, j, kk, rfl, tv1, e5, by rw [e6.length]; exact e3, ?_⟩
  exact k _ σ F1 _ (R1.mut e2 e1 (e6.set kk (Tv.le le1 _ _ tv))) (le'.trans le1) (fun _ _ => rfl) rfl q1
end
end Y

namespace Y
open PySem PySem.Spec PyProof.Rows L2 RT RZ
/-! ### comprehensions -/
def wipeP (ρ : PS') : List Nat → PS'
  | [] => ρ
  | v :: vs => (wipeP ρ vs).set v Sl.no
def restore (ρ1 ρ : PS') : List Nat → PS'
  | [] => ρ
  | v :: vs => (restore ρ1 ρ vs).set v (ρ1.getD v Sl.no)
theorem wipeP_length (ρ : PS') : ∀ vs, (wipeP ρ vs).length = ρ.length
  | [] => rfl
  | v :: vs => by rw [wipeP, List.length_set, wipeP_length ρ vs]
theorem restore_length (ρ1 ρ : PS') : ∀ vs, (restore ρ1 ρ vs).length = ρ.length
  | [] => rfl
  | v :: vs => by rw [restore, List.length_set, restore_length ρ1 ρ vs]
theorem restore_out {ρ1 ρ : PS'} {i : Nat} : ∀ {vs : List Nat}, i ∉ vs → (restore ρ1 ρ vs)[i]? = ρ[i]?
  | [], _ => rfl
  | v :: vs, h => by
    have h1 : v ≠ i := fun e => h (by rw [e]; exact List.mem_cons_self)
    rw [restore, List.getElem?_set_ne h1]
    exact restore_out fun m => h (List.mem_cons_of_mem _ m)
theorem restore_in {ρ1 ρ : PS'} {i : Nat} (hi : i < ρ.length) : ∀ {vs : List Nat}, i ∈ vs → (restore ρ1 ρ vs)[i]? = some (ρ1.getD i Sl.no)
  | [], h => by cases h
  | v :: vs, h => by
    rw [restore]
    by_cases hv : v = i
    · subst hv
      rw [List.getElem?_set_self (by rw [restore_length]; exact hi)]
    · rw [List.getElem?_set_ne hv]
      rcases List.mem_cons.mp h with e | h
      · exact absurd e.symm hv
      · exact restore_in hi h
section
variable {K : PySem.W.Frag} {W : Wld} {B F0 F H : Hp} {ρ ρ1 : PS'} {σ : L2.St}
theorem Rep.clr (R : Rep K W B F0 ρ σ F H) (v : Nat) : Rep K W B F0 (ρ.set v Sl.no) (σ.set v none) F H := by
  have out : ∀ {i : Nat} {s : Sl}, (ρ.set v Sl.no)[i]? = some s → s ≠ Sl.no → v ≠ i ∧ ρ[i]? = some s := fun {i s} e n => by
    by_cases hi : v = i
    · subst hi
      by_cases hv : v < ρ.length
      · rw [List.getElem?_set_self hv] at e
        exact absurd (Option.some.inj e).symm n
      · rw [List.getElem?_eq_none (by rw [List.length_set]; omega)] at e
        cases e
    · rw [List.getElem?_set_ne hi] at e
      exact ⟨hi, e⟩
  refine ⟨R.fh, R.f0, R.fd, R.bh, R.ok, R.wf, R.wb, by rw [List.length_set, List.length_set]; exact R.ln, fun i t e => ?_, fun i l e => ?_, fun i j l m e1 e2 e3 => ?_⟩
  · obtain ⟨hi, e⟩ := out e (fun z => nomatch z)
    rw [List.getElem?_set_ne hi]
    exact R.fz i t e
  · obtain ⟨hi, e⟩ := out e (fun z => nomatch z)
    rw [List.getElem?_set_ne hi]
    exact R.own i l e
  · obtain ⟨hi, e1⟩ := out e1 (fun z => nomatch z)
    obtain ⟨hj, e2⟩ := out e2 (fun z => nomatch z)
    rw [List.getElem?_set_ne hi, List.getElem?_set_ne hj] at e3
    exact R.ds i j l m e1 e2 e3
theorem Rep.wipe (R : Rep K W B F0 ρ σ F H) : ∀ vs : List Nat, Rep K W B F0 (wipeP ρ vs) (L2.wipe σ vs) F H
  | [] => R
  | v :: vs => (R.wipe vs).clr v
theorem Rep.unwipe {vs : List Nat} {F1 H1 : Hp} (R : Rep K W B F0 ρ (L2.wipe σ vs) F H) (R1 : Rep K W B F0 ρ1 σ F1 H1) (le : Le F1 F) (no : ∀ i ∈ vs, ∀ l, ρ1[i]? ≠ some (Sl.own l)) : Rep K W B F0 (restore ρ1 ρ vs) σ F H := by
  have ln : ρ.length = σ.length := by rw [R.ln, wipe_length]
  have cs : ∀ {i : Nat} {s : Sl}, (restore ρ1 ρ vs)[i]? = some s → (i ∈ vs ∧ (ρ1[i]? = some s ∨ s = Sl.no)) ∨ (i ∉ vs ∧ ρ[i]? = some s) := fun {i s} e => by
    by_cases hi : i ∈ vs
    · have hl : i < ρ.length := by
        have := (List.getElem?_eq_some_iff.mp e).1
        rwa [restore_length] at this
      rw [restore_in hl hi] at e
      refine .inl ⟨hi, ?_⟩
      have e2 : ρ1.getD i Sl.no = s := Option.some.inj e
      rw [List.getD_eq_getElem?_getD] at e2
      cases z : ρ1[i]? with
      | none => rw [z] at e2; exact .inr e2.symm
      | some u => rw [z] at e2; exact .inl (congrArg some e2)
    · rw [restore_out hi] at e
      exact .inr ⟨hi, e⟩
  refine ⟨R.fh, R.f0, R.fd, R.bh, R.ok, R.wf, R.wb, by rw [restore_length]; exact ln, fun i t e => ?_, fun i l e => ?_, fun i j l m e1 e2 e3 => ?_⟩
  · rcases cs e with ⟨hi, z | z⟩ | ⟨hi, e⟩
    · obtain ⟨v, e1, e2⟩ := R1.fz i t z
      exact ⟨v, e1, Tv.le le _ _ e2⟩
    · cases z
    · have := R.fz i t e
      rwa [wipe_out hi] at this
  · rcases cs e with ⟨hi, z | z⟩ | ⟨hi, e⟩
    · exact absurd z (no i hi l)
    · cases z
    · have := R.own i l e
      rwa [wipe_out hi] at this
  · rcases cs e1 with ⟨hi, z | z⟩ | ⟨hi, e1⟩
    · exact absurd z (no i hi l)
    · cases z
    · rcases cs e2 with ⟨hj, z | z⟩ | ⟨hj, e2⟩
      · exact absurd z (no j hj m)
      · cases z
      · have := R.ds i j l m e1 e2
        rw [wipe_out hi, wipe_out hj] at this
        exact this e3
/-- the list at D is kept -/
theorem Rep.prot (R : Rep K W B F0 ρ σ F H) {D : Addr} {o : HO} (h : H D = some o) (hF : F D = none) (hA : ¬ W.A D) (hs : ∀ (i : Nat) (l : T), ρ[i]? = some (Sl.own l) → σ[i]? ≠ some (some (V.ref D))) : Rep K W (upd B D o) F0 ρ σ F H := by
  refine ⟨R.fh, R.f0, fun a e => ?_, fun a u e => ?_, R.ok, R.wf, fun a e => ?_, R.ln, R.fz, fun i l e => ?_, R.ds⟩
  · have hn : a ≠ D := fun z => e (by rw [z]; exact hF)
    rw [upd_ne hn]
    exact R.fd a e
  · by_cases hn : a = D
    · rw [hn, upd_same] at e
      cases e
      rw [hn]
      exact h
    · rw [upd_ne hn] at e
      exact R.bh _ _ e
  · have hn : a ≠ D := fun z => hA (z ▸ W.sub _ e)
    rw [upd_ne hn]
    exact R.wb a e
  · obtain ⟨a, xs, e1, e2, e3, e4, e5, e6⟩ := R.own i l e
    have hn : a ≠ D := fun z => hs i l e (z ▸ e1)
    exact ⟨a, xs, e1, e2, e3, e4, by rw [upd_ne hn]; exact e5, e6⟩
theorem Rep.ownNe {D : Addr} {o : HO} (R : Rep K W (upd B D o) F0 ρ σ F H) : ∀ (i : Nat) (l : T), ρ[i]? = some (Sl.own l) → σ[i]? ≠ some (some (V.ref D)) := fun i l e z => by
  obtain ⟨a, xs, e1, e2, e3, e4, e5, e6⟩ := R.own i l e
  rw [e1] at z
  cases z
  rw [upd_same] at e5
  cases e5
theorem Rep.reprot {D : Addr} {o o' : HO} (R : Rep K W (upd B D o) F0 ρ σ F H) (hF : F D = none) (hA : ¬ W.A D) : Rep K W (upd B D o') F0 ρ σ F (upd H D o') := by
  refine ⟨fun a u e => ?_, R.f0, fun a e => ?_, fun a u e => ?_, W.stb H _ (fun a ha => ?_) R.ok, R.wf, fun a e => ?_, R.ln, R.fz, fun i l e => ?_, R.ds⟩
  · rw [upd_ne (ne_of_none e hF)]
    exact R.fh _ _ e
  · have hn : a ≠ D := fun z => e (by rw [z]; exact hF)
    have := R.fd a e
    rw [upd_ne hn] at this ⊢
    exact this
  · by_cases hn : a = D
    · rw [hn, upd_same] at e ⊢
      exact e
    · rw [upd_ne hn] at e ⊢
      exact R.bh _ _ (by rw [upd_ne hn]; exact e)
  · rw [upd_ne (fun (z : a = D) => hA (z ▸ ha))]
  · have hn : a ≠ D := fun z => hA (z ▸ W.sub _ e)
    have := R.wb a e
    rw [upd_ne hn] at this ⊢
    exact this
  · obtain ⟨a, xs, e1, e2, e3, e4, e5, e6⟩ := R.own i l e
    have hn : a ≠ D := fun z => R.ownNe i l e (z ▸ e1)
    rw [upd_ne hn] at e5
    exact ⟨a, xs, e1, by rw [upd_ne hn]; exact e2, e3, e4, by rw [upd_ne hn]; exact e5, e6⟩
theorem Rep.unprot {D : Addr} {o : HO} (R : Rep K W (upd B D o) F0 ρ σ F H) (hB : B D = none) (hA : ¬ W.A D) : Rep K W B F0 ρ σ F H := by
  refine ⟨R.fh, R.f0, fun a e => ?_, fun a u e => ?_, R.ok, R.wf, fun a e => ?_, R.ln, R.fz, fun i l e => ?_, R.ds⟩
  · by_cases hn : a = D
    · rw [hn]
      exact .inr hB
    · have := R.fd a e
      rwa [upd_ne hn] at this
  · exact R.bh _ _ (by rw [upd_ne (ne_of_none e hB)]; exact e)
  · have hn : a ≠ D := fun z => hA (z ▸ W.sub _ e)
    have := R.wb a e
    rwa [upd_ne hn] at this
  · obtain ⟨a, xs, e1, e2, e3, e4, e5, e6⟩ := R.own i l e
    have hn : a ≠ D := fun z => R.ownNe i l e (z ▸ e1)
    rw [upd_ne hn] at e5
    exact ⟨a, xs, e1, e2, e3, e4, e5, e6⟩
end
structure QTs (X : Cx) (W : Wld) (ifs : List Expr) (p : PT') : Prop where
  ex : PTs X ifs (tT X.K W p)
def pYes : PT' := fun ρ Φ => Φ true ρ
theorem qts_nil {X : Cx} {W : Wld} : QTs X W [] pYes := ⟨⟨fun pins s σ H Q I hq => by
  obtain ⟨B, F0, ρ, F, Φ, R, hp, k⟩ := hq
  exact pts_nil.run pins s σ H Q I (k true ρ F H R (Le.refl _) hp)⟩⟩
theorem qts_one {X : Cx} {W : Wld} {c : Expr} {p : PT'} (h : QT X W c p) : QTs X W [c] p := ⟨pts_one h.can⟩
def LcK (g : PG') (pt : PT') (pe : PE') (vs : List Nat) (items : List T) (ρ1 : PS') (Φ : T → Bool → PS' → Prop) : Prop := items.length ≤ 16000000 ∧ (∀ i ∈ vs, ∀ l, ρ1[i]? ≠ some (Sl.own l)) ∧ ∃ Inv : Nat → List T → PS' → Prop, Inv 0 [] (wipeP ρ1 vs) ∧
  (∀ i t acc ρ2, items[i]? = some t → acc.length ≤ i → Inv i acc ρ2 → g t false ρ2 fun ρ3 => pt ρ3 fun b ρ4 => if b = true then pe ρ4 fun y _ ρ5 => Inv (i + 1) (acc ++ [y]) (wipeP ρ5 vs) else Inv (i + 1) acc (wipeP ρ4 vs)) ∧
  ∀ acc ρ2, acc.length ≤ items.length → Inv items.length acc ρ2 → Φ (.lst acc) true (restore ρ1 ρ2 vs)
def pLc (pi : PI') (g : PG') (pt : PT') (pe : PE') (vs : List Nat) : PE' := fun ρ Φ => pi ρ fun items ρ1 => LcK g pt pe vs items ρ1 Φ
theorem wipe_eq {σ σ2 : L2.St} : ∀ {vs : List Nat}, (∀ i, i ∉ vs → σ2[i]? = (wipe σ vs)[i]?) → σ2.length = σ.length → wipe σ2 vs = wipe σ vs := fun {vs} h hl => by
  have key : ∀ (σ : L2.St) (vs : List Nat) (i : Nat), i ∈ vs → i < σ.length → (wipe σ vs)[i]? = some none := by
    intro σ vs i
    induction vs with
    | nil => intro h; cases h
    | cons v vs ih =>
      intro h hi
      unfold wipe
      by_cases hv : v = i
      · subst hv
        rw [List.getElem?_set_self (by rw [wipe_length]; exact hi)]
      · rw [List.getElem?_set_ne hv]
        rcases List.mem_cons.mp h with e | h
        · exact absurd e.symm hv
        · exact ih h hi
  apply List.ext_getElem?
  intro i
  by_cases hi : i ∈ vs
  · by_cases hl2 : i < σ.length
    · rw [key σ vs i hi hl2, key σ2 vs i hi (by omega)]
    · rw [List.getElem?_eq_none (by rw [wipe_length]; omega), List.getElem?_eq_none (by rw [wipe_length]; omega)]
  · rw [wipe_out hi, h i hi, wipe_out hi]
section
variable {X : Cx} {W : Wld} {elt tg iter : Expr} {ifs : List Expr} {scope : Scope} {own : List (Str × Nat)} {pos : Pos} {sl : List Nat} {pi : PI'} {g : PG'} {pt : PT'} {pe : PE'}
theorem sm_lc {wi : TI} {vs : List Nat} (hsl : ∀ i ∈ sl, i ∈ vs) (hi : ∀ (B F0 : Hp) (ρ : PS') (σ : L2.St) (F H : Hp) (Φ : List T → PS' → Prop) (R : It → Hp → Prop), Rep X.K W B F0 ρ σ F H → pi ρ Φ →
    (∀ items ρ' F' H' J, Rep X.K W B F0 ρ' σ F' H' → Le F F' → ItOk X.K J F' items → Φ items ρ' → R J H') → wi σ H R) :
    SmE X.K W (tLc wi (tGc X.K W sl g) (tT X.K W pt) (tE X.K W pe) vs) (pLc pi g pt pe vs) := fun B F0 ρ σ F H Φ Q R hp k => by
  have hs16 := sl16
  refine hi B F0 ρ σ F H _ _ R hp fun items ρ1 F1 H1 J R1 le1 it q1 => ?_
  obtain ⟨hlen, now, Inv, h0, hstep, hend⟩ := q1
  intro D nD
  have nA : ¬ W.A D := fun z => W.al H1 D R1.ok z nD
  have nF1 := none_of_le R1.fh nD
  have nB := none_of_le R1.bh nD
  have nF0 : F0 D = none := none_of_le R1.f0 nF1
  have hown : ∀ (i : Nat) (l : T), ρ1[i]? = some (Sl.own l) → σ[i]? ≠ some (some (V.ref D)) := fun i l e z => by
    obtain ⟨a, xs, e1, e2, _⟩ := R1.own i l e
    rw [e1] at z
    cases z
    rw [nD] at e2
    cases e2
  -- the turns
  let Pv : Nat → Hp → Prop := fun i H' => ∃ acc xs ρ2 F2, Inv i acc ρ2 ∧ acc.length ≤ i ∧ Rep X.K W (upd B D (.lst xs)) F0 ρ2 (wipe σ vs) F2 H' ∧ TvL X.K F2 acc xs ∧ Le F1 F2
  have fD : ∀ {F2 : Hp} {xs : List V} {ρ2 : PS'} {σ2 : L2.St} {H2 : Hp}, Rep X.K W (upd B D (.lst xs)) F0 ρ2 σ2 F2 H2 → F2 D = none := fun {F2 xs ρ2 σ2 H2} R2 => by
    cases z : F2 D with
    | none => rfl
    | some o =>
      rcases R2.fd D (some_ne z) with y | y
      · exact absurd nF0 y
      · rw [upd_same] at y
        cases y
  refine ⟨fun i m H' => m = items.length - i ∧ i ≤ items.length ∧ Pv i H', ⟨_, rfl, Nat.zero_le _, [], [], wipeP ρ1 vs, F1, h0, Nat.le_refl _, ?_, rfl, Le.refl _⟩, ?_⟩
  · refine ((R1.grow (o := .lst []) nD).prot upd_same nF1 nA hown).wipe vs
  · rintro i m H2 ⟨rfl, hi2, acc, xs, ρ2, F2, inv, hacc, R2, tv, le2⟩
    by_cases hlt : i < items.length
    · refine .inr ⟨it.go i H2 (le2.trans R2.fh) hlt, Pv (i + 1), fun H' p' => ⟨items.length - (i + 1), by omega, rfl, hlt, p'⟩, fun x H3 y => ?_⟩
      obtain ⟨t, et, hx⟩ := it.yld i H2 x H3 (le2.trans R2.fh) hlt y
      -- the item is there
      obtain ⟨F3, R3, le3, tvx⟩ : ∃ F3, Rep X.K W (upd B D (.lst xs)) F0 ρ2 (wipe σ vs) F3 H3 ∧ Le F2 F3 ∧ Tv X.K F3 t x := by
        rcases hx with ⟨rfl, tvx⟩ | ⟨p, ys, l, rfl, rfl, tvl, np, rfl⟩
        · exact ⟨F2, R2, Le.refl _, Tv.le le2 _ _ tvx⟩
        · exact R2.newW np (TvL.le le2 _ _ tvl)
      refine sm_tG (upd B D (.lst xs)) F0 ρ2 (wipe σ vs) F3 H3 t false x _ _ R3 (VR.fz tvx) (hstep i t acc ρ2 et hacc inv) fun ρ3 σ3 F4 H4 R4 le4 out len q4 => ?_
      have we2 : wipe σ3 vs = wipe σ vs := wipe_eq (fun j hj => out j (fun z => hj (hsl j z))) (len.trans (wipe_length ..))
      refine ⟨we2, ?_⟩
      refine sm_tT (upd B D (.lst xs)) F0 ρ3 σ3 F4 H4 _ _ R4 q4 fun b ρ4 F5 H5 R5 le5 q5 => ?_
      cases b with
      | false =>
        rw [if_neg Bool.false_ne_true] at q5 ⊢
        refine ⟨acc, xs, _, F5, q5, by omega, we2 ▸ R5.wipe vs, TvL.le (le3.trans (le4.trans le5)) _ _ tv, le2.trans (le3.trans (le4.trans le5))⟩
      | true =>
        rw [if_pos rfl] at q5 ⊢
        refine sm_tE.fz R5 q5 fun y ρ5 v F6 H6 R6 le6 tvy q6 => ?_
        have lx := tv.length
        refine ⟨xs, R6.bh _ _ upd_same, by omega, acc ++ [y], xs ++ [v], _, F6, q6, ?_, ?_, ?_, ?_⟩
        · rw [List.length_append, List.length_singleton]
          omega
        · exact we2 ▸ ((R6.reprot (o' := .lst (xs ++ [v])) (fD R6) nA).wipe vs)
        · exact TvL.app (TvL.le (le3.trans (le4.trans (le5.trans le6))) _ _ tv) (TvL.one tvy)
        · exact le2.trans (le3.trans (le4.trans (le5.trans le6)))
    · have e : i = items.length := by omega
      subst e
      refine .inl ⟨it.stop _ H2 (le2.trans R2.fh) (Nat.le_refl _), ?_⟩
      have R9 := R2.unprot nB nA
      refine k _ true _ (.ref D) F2 H2 (R9.unwipe R1 le2 now) (le1.trans le2) ?_ (hend acc ρ2 hacc inv)
      refine VR.lst (R2.bh _ _ upd_same) tv (fD R2) nB nA fun i l e => ?_
      by_cases hv : i ∈ vs
      · have hl : i < ρ2.length := by
          have := (List.getElem?_eq_some_iff.mp e).1
          rwa [restore_length] at this
        rw [restore_in hl hv] at e
        have e2 : ρ1.getD i Sl.no = Sl.own l := Option.some.inj e
        rw [List.getD_eq_getElem?_getD] at e2
        cases z : ρ1[i]? with
        | none => rw [z] at e2; cases e2
        | some u =>
          rw [z] at e2
          exact absurd (z.trans (congrArg some e2)) (now i hv l)
      · rw [restore_out hv] at e
        have := R2.ownNe i l e
        rwa [wipe_out hv] at this
theorem qe_lc (hc : X.calm = true) (hN : X.N.Nodup) (hsl : ∀ i ∈ sl, i ∈ own.map (·.2)) (hi : QI X W tg iter pi) (ok : BlkOk X.N X.env.scope scope own)
    (hg : ∀ (s : Shared) (H : Hp) (C : Addr) (cl : List (Str × Addr)) (fp : List Addr), QG (X.blk s H scope (compEnvC scope cl C X.env) fp) W tg sl g)
    (ht : ∀ (s : Shared) (H : Hp) (C : Addr) (cl : List (Str × Addr)) (fp : List Addr), QTs (X.blk s H scope (compEnvC scope cl C X.env) fp) W ifs pt)
    (he : ∀ (s : Shared) (H : Hp) (C : Addr) (cl : List (Str × Addr)) (fp : List Addr), QE (X.blk s H scope (compEnvC scope cl C X.env) fp) W elt pe)
    (hs : ∀ x, foldedSetIterable iter X.env x = pure x := by intro _; rfl) : QE X W (.ListComp elt [⟨tg, iter, ifs, 0⟩] scope pos) (pLc pi g pt pe (own.map (·.2))) := by
  obtain ⟨wi, h1, h2⟩ := hi.ex
  exact ⟨_, pe_lc hc hN h1 ok (fun s H C cl fp => (hg s H C cl fp).can) (fun s H C cl fp => (ht s H C cl fp).ex) (fun s H C cl fp => (he s H C cl fp).can) hs, sm_lc hsl h2⟩
end
/-! ### statements -/
structure PEnds where
  nx : PS' → Prop
  rt : T → Bool → Prop
  bk : PS' → Prop := fun _ => False
  ct : PS' → Prop := fun _ => False
abbrev PSt := PEnds → PS' → Prop
/-- how the ends of a statement are met -/
structure EndsOk (K : PySem.W.Frag) (W : Wld) (B F0 F : Hp) (Δ : PEnds) (D : Ends) : Prop where
  nx : ∀ ρ σ F' H, Rep K W B F0 ρ σ F' H → Le F F' → Δ.nx ρ → D.nx σ H
  rt : ∀ τ f v ρ σ F' H, Rep K W B F0 ρ σ F' H → Le F F' → VR K W B ρ σ F' H τ f v → Δ.rt τ f → D.rt v H
  bk : ∀ ρ σ F' H, Rep K W B F0 ρ σ F' H → Le F F' → Δ.bk ρ → D.bk σ H
  ct : ∀ ρ σ F' H, Rep K W B F0 ρ σ F' H → Le F F' → Δ.ct ρ → D.ct σ H
theorem EndsOk.le {K : PySem.W.Frag} {W : Wld} {B F0 F F1 : Hp} {Δ : PEnds} {D : Ends} (h : EndsOk K W B F0 F Δ D) (le : Le F F1) : EndsOk K W B F0 F1 Δ D :=
  ⟨fun ρ σ F' H R l q => h.nx ρ σ F' H R (le.trans l) q, fun τ f v ρ σ F' H R l vr q => h.rt τ f v ρ σ F' H R (le.trans l) vr q, fun ρ σ F' H R l q => h.bk ρ σ F' H R (le.trans l) q, fun ρ σ F' H R l q => h.ct ρ σ F' H R (le.trans l) q⟩
def SmS (K : PySem.W.Frag) (W : Wld) (t : TS) (p : PSt) : Prop :=
  ∀ (B F0 : Hp) (ρ : PS') (σ : L2.St) (F H : Hp) (Δ : PEnds) (D : Ends), Rep K W B F0 ρ σ F H → p Δ ρ → EndsOk K W B F0 F Δ D → t D σ H
structure QS (X : Cx) (W : Wld) (st : Stmt) (p : PSt) : Prop where
  ex : ∃ t, PS X st t ∧ SmS X.K W t p
structure QSs (X : Cx) (W : Wld) (st : List Stmt) (p : PSt) : Prop where
  ex : ∃ t, PSs X st t ∧ SmS X.K W t p
section
variable {X : Cx} {W : Wld} {st : Stmt} {rest body : List Stmt} {c e tg iter : Expr} {pos : Pos} {sl : List Nat} {p q : PSt} {pe : PE'} {pt : PT'} {pi : PI'} {g : PG'}
def sNext : PSt := fun Δ ρ => Δ.nx ρ
def sSeq (p q : PSt) : PSt := fun Δ ρ => p { Δ with nx := q Δ } ρ
theorem qss_nil : QSs X W [] sNext := ⟨_, pss_nil, fun B F0 ρ σ F H Δ D R hp k => k.nx ρ σ F H R (Le.refl _) hp⟩
theorem qss_one (h : QS X W st p) : QSs X W [st] p := let ⟨t, h1, h2⟩ := h.ex; ⟨t, pss_one h1, h2⟩
theorem qss_cons (h : QS X W st p) (h' : QSs X W rest q) : QSs X W (st :: rest) (sSeq p q) := by
  obtain ⟨t, h1, h2⟩ := h.ex
  obtain ⟨u, h3, h4⟩ := h'.ex
  refine ⟨_, pss_cons h1 h3, fun B F0 ρ σ F H Δ D R hp k => ?_⟩
  exact h2 B F0 ρ σ F H _ _ R hp ⟨fun ρ1 σ1 F1 H1 R1 le1 q1 => h4 B F0 ρ1 σ1 F1 H1 Δ D R1 q1 (k.le le1), k.rt, k.bk, k.ct⟩
theorem qs_pass : QS X W (.Pass pos) sNext := ⟨_, ps_pass, fun B F0 ρ σ F H Δ D R hp k => k.nx ρ σ F H R (Le.refl _) hp⟩
def sBreak : PSt := fun Δ ρ => Δ.bk ρ
def sCont : PSt := fun Δ ρ => Δ.ct ρ
theorem qs_break : QS X W (.Break pos) sBreak := ⟨_, ps_break, fun B F0 ρ σ F H Δ D R hp k => k.bk ρ σ F H R (Le.refl _) hp⟩
theorem qs_continue : QS X W (.Continue pos) sCont := ⟨_, ps_continue, fun B F0 ρ σ F H Δ D R hp k => k.ct ρ σ F H R (Le.refl _) hp⟩
def sExpr (pe : PE') : PSt := fun Δ ρ => pe ρ fun _ _ ρ' => Δ.nx ρ'
theorem qs_expr (h : QE X W e pe) (hs : swapsWith e none pos.line X.env = pure false := by rfl) : QS X W (.Expr e pos) (sExpr pe) := by
  obtain ⟨t, h1, h2⟩ := h.ex
  refine ⟨_, ps_expr h1 hs, fun B F0 ρ σ F H Δ D R hp k => ?_⟩
  exact h2.fz R hp fun τ ρ1 v F1 H1 R1 le1 tv q1 => k.nx ρ1 σ F1 H1 R1 le1 q1
def sRet (pe : PE') : PSt := fun Δ ρ => pe ρ fun τ f _ => Δ.rt τ f
theorem qs_ret (h : QE X W e pe) : QS X W (.Return (some e) pos) (sRet pe) := by
  obtain ⟨t, h1, h2⟩ := h.ex
  refine ⟨_, ps_ret h1, fun B F0 ρ σ F H Δ D R hp k => ?_⟩
  exact h2 B F0 ρ σ F H _ _ R hp fun τ f ρ1 v F1 H1 R1 le1 vr q1 => k.rt τ f v ρ1 σ F1 H1 R1 le1 vr q1
/-- return x, x a slot's own list: it is the caller's -/
def sRetV (i : Nat) : PSt := fun Δ ρ => match ρ[i]? with
  | some (Sl.fz t) => Δ.rt t false
  | some (Sl.own t) => Δ.rt t true
  | _ => False
theorem qs_retV {x : Str} {i : Nat} {p2 : Pos} (h : PE X (.Name x p2) (tVar i)) : QS X W (.Return (some (.Name x p2)) pos) (sRetV i) := by
  refine ⟨_, ps_ret h, fun B F0 ρ σ F H Δ D R hp k => ?_⟩
  unfold sRetV at hp
  split at hp
  · rename_i t ht
    obtain ⟨v, e1, e2⟩ := R.fz i t ht
    exact ⟨v, e1, k.rt t false v ρ σ F H R (Le.refl _) (VR.fz e2) hp⟩
  · rename_i l hl
    obtain ⟨a, o, e1, e2, e3, e4, e5, e6⟩ := R.own i l hl
    have R' := R.clr i
    refine ⟨_, e1, k.rt l true (.ref a) _ _ F H R' (Le.refl _) ⟨a, o, rfl, e3, e2, e4, e5, e6, fun j m ej => ?_⟩ hp⟩
    have hij : i ≠ j := fun z => by
      subst z
      rw [List.getElem?_set_self (List.getElem?_eq_some_iff.mp hl).1] at ej
      cases ej
    rw [List.getElem?_set_ne hij] at ej
    rw [List.getElem?_set_ne hij]
    exact fun z => hij (R.ds i j l m hl ej (e1.trans z.symm))
  · exact hp.elim
def sRetN : PSt := fun Δ _ => Δ.rt .non false
theorem qs_retN : QS X W (.Return none pos) sRetN := ⟨_, ps_retN, fun B F0 ρ σ F H Δ D R hp k => k.rt _ _ _ ρ σ F H R (Le.refl _) VR.non hp⟩
def sIf (pt : PT') (p q : PSt) : PSt := fun Δ ρ => pt ρ fun b ρ1 => if b = true then p Δ ρ1 else q Δ ρ1
theorem qs_if {a b : List Stmt} (hc : QT X W c pt) (ha : QSs X W a p) (hb : QSs X W b q) : QS X W (.If c a b pos) (sIf pt p q) := by
  obtain ⟨t, h1, h2⟩ := hc.ex
  obtain ⟨u, h3, h4⟩ := ha.ex
  obtain ⟨w, h5, h6⟩ := hb.ex
  refine ⟨_, ps_if h1 h3 h5, fun B F0 ρ σ F H Δ D R hp k => ?_⟩
  refine h2 B F0 ρ σ F H _ _ R hp fun b ρ1 F1 H1 R1 le1 q1 => ?_
  cases b with
  | true =>
    rw [if_pos rfl] at q1 ⊢
    exact h4 B F0 ρ1 σ F1 H1 Δ D R1 q1 (k.le le1)
  | false =>
    rw [if_neg Bool.false_ne_true] at q1 ⊢
    exact h6 B F0 ρ1 σ F1 H1 Δ D R1 q1 (k.le le1)
def sAsg (pe : PE') (g : PG') : PSt := fun Δ ρ => pe ρ fun τ f ρ1 => g τ f ρ1 Δ.nx
theorem sm_asg {t : TE} {u : TG} (h2 : SmE X.K W t pe) (h4 : SmG X.K W sl u g) : SmS X.K W (tAsg t u) (sAsg pe g) := fun B F0 ρ σ F H Δ D R hp k => by
  refine h2 B F0 ρ σ F H _ _ R hp fun τ f ρ1 v F1 H1 R1 le1 vr q1 => ?_
  exact h4 B F0 ρ1 σ F1 H1 τ f v _ _ R1 vr q1 fun ρ2 σ2 F2 H2 R2 le2 _ _ q2 => k.nx ρ2 σ2 F2 H2 R2 (le1.trans le2) q2
theorem qs_set {x : Str} {i : Nat} {p2 : Pos} (hN : X.N.Nodup) (hi : X.N[i]? = some x) (hx : Loc X.env.scope x) (h : QE X W e pe) (hs : swapsWith e (some (.Name x p2)) pos.line X.env = pure false := by rfl) (hf : X.fn x = true ∨ X.env.scope.names.lookup x = some .local := by first | exact .inl rfl | exact .inr rfl | assumption) :
    QS X W (.Assign [.Name x p2] e pos) (sAsg pe (gN i)) := by
  obtain ⟨t, h1, h2⟩ := h.ex
  obtain ⟨u, h3, h4⟩ := (qg_name (W := W) (pg_name (pos := p2) hN hi hx hf)).ex
  exact ⟨_, ps_set hN hi hx h1 hs hf, sm_asg h2 (fun B F0 ρ σ F H τ f v Φ Q R vr hg k => k _ _ F H (R.set vr i) (Le.refl _) (fun j hj => by rw [List.getElem?_set_ne (fun z => hj (by rw [z]; exact List.mem_singleton.mpr rfl))]) (List.length_set ..) hg : SmG X.K W [i] (gName i) (gN i))⟩
theorem qs_asg (h : QE X W e pe) (hg : QG X W tg sl g) (hs : swapsWithSole [tg] e pos.line X.env = pure false := by rfl) (hw : swappedStores [tg] e X.env = pure none := by rfl)
    (h1 : (assignEach [tg] X.env).map (·.2) = [assign tg X.env] := by rfl) : QS X W (.Assign [tg] e pos) (sAsg pe g) := by
  obtain ⟨t, h2, h3⟩ := h.ex
  obtain ⟨u, h4, h5⟩ := hg.ex
  exact ⟨_, ps_asg h2 h4 hs hw h1, sm_asg h3 h5⟩
theorem qs_setLc {i : Nat} {y : Str} {py : Pos} {elt : Expr} {ifs : List Expr} {scope : Scope} {own : List (Str × Nat)} {spos : Pos} (hc : X.calm = true) (hN : X.N.Nodup) (hy : X.N[i]? = some y) (hyl : X.env.scope.names.lookup y = some .local)
    (hsw : swapsWith (.ListComp elt [⟨tg, iter, ifs, 0⟩] scope pos) (some (.Name y py)) spos.line X.env = pure true) (hsl : ∀ i ∈ sl, i ∈ own.map (·.2)) (hi : QI X W tg iter pi) (ok : BlkOk X.N X.env.scope scope own)
    (hg : ∀ (s : Shared) (H : Hp) (C : Addr) (cl : List (Str × Addr)) (fp : List Addr), QG (X.blk s H scope (compEnvC scope cl C X.env) fp) W tg sl g)
    (ht : ∀ (s : Shared) (H : Hp) (C : Addr) (cl : List (Str × Addr)) (fp : List Addr), QTs (X.blk s H scope (compEnvC scope cl C X.env) fp) W ifs pt)
    (he : ∀ (s : Shared) (H : Hp) (C : Addr) (cl : List (Str × Addr)) (fp : List Addr), QE (X.blk s H scope (compEnvC scope cl C X.env) fp) W elt pe)
    (hs : ∀ x, foldedSetIterable iter X.env x = pure x := by intro _; rfl) : QS X W (.Assign [.Name y py] (.ListComp elt [⟨tg, iter, ifs, 0⟩] scope pos) spos) (sAsg (pLc pi g pt pe (own.map (·.2))) (gN i)) := by
  obtain ⟨wi, h1, h2⟩ := hi.ex
  exact ⟨_, ps_setLc hc hN hy hyl hsw h1 ok (fun s H C cl fp => (hg s H C cl fp).can) (fun s H C cl fp => (ht s H C cl fp).ex) (fun s H C cl fp => (he s H C cl fp).can) hs,
    sm_asg (sm_lc hsl h2) (fun B F0 ρ σ F H τ f v Φ Q R vr hg k => k _ _ F H (R.set vr i) (Le.refl _) (fun j hj => by rw [List.getElem?_set_ne (fun z => hj (by rw [z]; exact List.mem_singleton.mpr rfl))]) (List.length_set ..) hg : SmG X.K W [i] (gName i) (gN i))⟩
/-- x += e -/
def sAug (i : Nat) (P : T → T → (T → Bool → Prop) → Prop) (pe : PE') : PSt := fun Δ ρ => ∃ t, ρ[i]? = some (Sl.fz t) ∧ pe ρ fun y _ ρ1 => P t y fun τ f => Δ.nx (ρ1.set i (Sl.of τ f))
theorem qs_aug {x : Str} {i : Nat} {op : Operator} {P} {p2 : Pos} (hN : X.N.Nodup) (hi : X.N[i]? = some x) (hx : Loc X.env.scope x) (h : QE X W e pe) (ho : OpQ X W (inplaceOp op) P) (hf : X.fn x = true ∨ X.env.scope.names.lookup x = some .local := by first | exact .inl rfl | exact .inr rfl | assumption) :
    QS X W (.AugAssign (.Name x p2) op e pos) (sAug i P pe) := by
  obtain ⟨t, h1, h2⟩ := h.ex
  refine ⟨_, ps_aug hN hi hx h1 (opS X _) hf, fun B F0 ρ σ F H Δ D R hp k => ?_⟩
  obtain ⟨τ0, e0, hp⟩ := hp
  obtain ⟨v, e1, e2⟩ := R.fz i τ0 e0
  refine ⟨v, e1, ?_⟩
  refine h2.fz R hp fun y ρ1 u F1 H1 R1 le1 tv q1 => ?_
  exact ho B F0 ρ1 σ F1 H1 τ0 y v u _ _ R1 (Tv.le le1 _ _ e2) tv q1 fun τ f w F2 H2 R2 le2 vr q2 => k.nx _ _ F2 H2 (R2.set vr i) (le1.trans le2) q2
theorem oq_iadd : OpQ X W (inplaceOp .Add) (fun x y Φ => match x, y with
    | .int i, .int j => Φ (.int (i + j)) false
    | .str i, .str j => i.length + j.length ≤ 16000000 ∧ Φ (.str (i ++ j)) false
    | _, _ => False) := by
  intro B F0 ρ σ F H x y v u Φ Q R hx hy hp k
  have hs := sl16
  split at hp
  · exact rS2.of iop_add ⟨_, _, hx, hy, k _ false _ F H R (Le.refl _) VR.int hp⟩
  · exact rS2.of iop_add_str ⟨_, _, hx, hy, by omega, k _ false _ F H R (Le.refl _) VR.str hp.2⟩
  · exact hp.elim
theorem oq_isub : OpQ X W (inplaceOp .Sub) PSub := by
  intro B F0 ρ σ F H x y v u Φ Q R hx hy hp k
  unfold PSub at hp
  split at hp
  · exact rS2.of iop_sub ⟨_, _, hx, hy, k _ false _ F H R (Le.refl _) VR.int hp⟩
  · exact hp.elim
/-! #### loops -/
def ForK (g : PG') (p : PSt) (Δ : PEnds) (items : List T) (ρ1 : PS') : Prop := ∃ Inv : Nat → PS' → Prop, Inv 0 ρ1 ∧
  (∀ i t ρ2, items[i]? = some t → Inv i ρ2 → g t false ρ2 fun ρ3 => p { Δ with nx := Inv (i + 1), ct := Inv (i + 1), bk := Δ.nx } ρ3) ∧ ∀ ρ2, Inv items.length ρ2 → Δ.nx ρ2
def sFor (pi : PI') (g : PG') (p : PSt) : PSt := fun Δ ρ => pi ρ fun items ρ1 => ForK g p Δ items ρ1
theorem qs_for (hp : PassesOwn (model X.prog X.w) X.A X.env X.xe) (hc : X.calm = true) (hi : QI X W tg iter pi) (hg : QG X W tg sl g) (hb : QSs X W body p)
    (hs : ∀ x, foldedSetIterable iter X.env x = pure x := by intro _; rfl) : QS X W (.For tg iter body [] pos) (sFor pi g p) := by
  obtain ⟨wi, h1, h2⟩ := hi.ex
  obtain ⟨u, h3, h4⟩ := hg.ex
  obtain ⟨t, h5, h6⟩ := hb.ex
  refine ⟨_, ps_for hp hc h1 h3 h5 hs, fun B F0 ρ σ F H Δ D R hpp k => ?_⟩
  refine h2 B F0 ρ σ F H _ _ R hpp fun items ρ1 F1 H1 J R1 le1 it q1 => ?_
  obtain ⟨Inv, h0, hstep, hend⟩ := q1
  let Pv : Nat → L2.St → Hp → Prop := fun i σ' H' => ∃ ρ2 F2, Inv i ρ2 ∧ Rep X.K W B F0 ρ2 σ' F2 H' ∧ Le F1 F2
  refine ⟨fun i m σ' H' => m = items.length - i ∧ i ≤ items.length ∧ Pv i σ' H', ⟨_, rfl, Nat.zero_le _, ρ1, F1, h0, R1, Le.refl _⟩, ?_⟩
  rintro i m σ2 H2 ⟨rfl, hi2, ρ2, F2, inv, R2, le2⟩
  by_cases hlt : i < items.length
  · refine .inr ⟨it.go i H2 (le2.trans R2.fh) hlt, Pv (i + 1), fun σ' H' p' => ⟨items.length - (i + 1), by omega, rfl, hlt, p'⟩, fun x H3 y => ?_⟩
    obtain ⟨t, et, hx⟩ := it.yld i H2 x H3 (le2.trans R2.fh) hlt y
    obtain ⟨F3, R3, le3, tvx⟩ : ∃ F3, Rep X.K W B F0 ρ2 σ2 F3 H3 ∧ Le F2 F3 ∧ Tv X.K F3 t x := by
      rcases hx with ⟨rfl, tvx⟩ | ⟨p, ys, l, rfl, rfl, tvl, np, rfl⟩
      · exact ⟨F2, R2, Le.refl _, Tv.le le2 _ _ tvx⟩
      · exact R2.newW np (TvL.le le2 _ _ tvl)
    refine h4 B F0 ρ2 σ2 F3 H3 t false x _ _ R3 (VR.fz tvx) (hstep i t ρ2 et inv) fun ρ3 σ3 F4 H4 R4 le4 _ _ q4 => ?_
    have le14 : Le F1 F4 := le2.trans (le3.trans le4)
    refine h6 B F0 ρ3 σ3 F4 H4 _ _ R4 q4 ⟨fun ρ5 σ5 F5 H5 R5 le5 q5 => ⟨ρ5, F5, q5, R5, le14.trans le5⟩, fun τ f v ρ5 σ5 F5 H5 R5 le5 vr q5 => k.rt τ f v ρ5 σ5 F5 H5 R5 (le1.trans (le14.trans le5)) vr q5,
      fun ρ5 σ5 F5 H5 R5 le5 q5 => k.nx ρ5 σ5 F5 H5 R5 (le1.trans (le14.trans le5)) q5, fun ρ5 σ5 F5 H5 R5 le5 q5 => ⟨ρ5, F5, q5, R5, le14.trans le5⟩⟩
  · have e : i = items.length := by omega
    subst e
    exact .inl ⟨it.stop _ H2 (le2.trans R2.fh) (Nat.le_refl _), k.nx ρ2 σ2 F2 H2 R2 (le1.trans le2) (hend ρ2 inv)⟩
def sWhile (pt : PT') (p : PSt) : PSt := fun Δ ρ => ∃ Inv : Nat → PS' → Prop, (∃ m, Inv m ρ) ∧ ∀ m ρ1, Inv m ρ1 → pt ρ1 fun b ρ2 => if b = true then p { Δ with nx := fun ρ3 => ∃ m', m' < m ∧ Inv m' ρ3, ct := fun ρ3 => ∃ m', m' < m ∧ Inv m' ρ3, bk := Δ.nx } ρ2 else Δ.nx ρ2
theorem qs_while (hp : PassesOwn (model X.prog X.w) X.A X.env X.xe) (hc : QT X W c pt) (hb : QSs X W body p) : QS X W (.While c body [] pos) (sWhile pt p) := by
  obtain ⟨u, h3, h4⟩ := hc.ex
  obtain ⟨t, h5, h6⟩ := hb.ex
  refine ⟨_, ps_while hp h3 h5, fun B F0 ρ σ F H Δ D R hpp k => ?_⟩
  obtain ⟨Inv, ⟨m0, i0⟩, hstep⟩ := hpp
  refine ⟨fun m σ' H' => ∃ ρ2 F2, Inv m ρ2 ∧ Rep X.K W B F0 ρ2 σ' F2 H' ∧ Le F F2, ⟨m0, ρ, F, i0, R, Le.refl _⟩, ?_⟩
  rintro m σ2 H2 ⟨ρ2, F2, inv, R2, le2⟩
  refine h4 B F0 ρ2 σ2 F2 H2 _ _ R2 (hstep m ρ2 inv) fun b ρ3 F3 H3 R3 le3 q3 => ?_
  cases b with
  | true =>
    rw [if_pos rfl] at q3 ⊢
    refine ⟨fun σ' H' => ∃ m', m' < m ∧ ∃ ρ2 F2, Inv m' ρ2 ∧ Rep X.K W B F0 ρ2 σ' F2 H' ∧ Le F F2, fun σ' H' ⟨m', hm, z⟩ => ⟨m', hm, z⟩, ?_⟩
    have le13 : Le F F3 := le2.trans le3
    exact h6 B F0 ρ3 σ2 F3 H3 _ _ R3 q3 ⟨fun ρ5 σ5 F5 H5 R5 le5 ⟨m', hm, q5⟩ => ⟨m', hm, ρ5, F5, q5, R5, le13.trans le5⟩, fun τ f v ρ5 σ5 F5 H5 R5 le5 vr q5 => k.rt τ f v ρ5 σ5 F5 H5 R5 (le13.trans le5) vr q5,
      fun ρ5 σ5 F5 H5 R5 le5 q5 => k.nx ρ5 σ5 F5 H5 R5 (le13.trans le5) q5, fun ρ5 σ5 F5 H5 R5 le5 ⟨m', hm, q5⟩ => ⟨m', hm, ρ5, F5, q5, R5, le13.trans le5⟩⟩
  | false =>
    rw [if_neg Bool.false_ne_true] at q3 ⊢
    exact k.nx ρ3 σ2 F3 H3 R3 (le2.trans le3) q3
end
end Y

namespace Y
open PySem PySem.Spec PyProof.Rows L2 RT RZ
/-! ### what a def promises, by data -/
abbrev PSp := List T → (T → Bool → Prop) → Prop
/-- what a call gives: frozen, or a new list -/
def VX (K : PySem.W.Frag) (F' H H' : Hp) (t : T) (f : Bool) (v : V) : Prop :=
  match f with
  | false => Tv K F' t v
  | true => ∃ a o, v = .ref a ∧ Ow K F' t o ∧ H' a = some o ∧ F' a = none ∧ H a = none
structure After (K : PySem.W.Frag) (W : Wld) (F H F' H' : Hp) : Prop where
  le : Le F F'
  fh : Le F' H'
  fd : ∀ a, F' a ≠ none → F a ≠ none ∨ H a = none
  kp : ∀ a o, H a = some o → ¬ W.D a → H' a = some o
  ok : W.ok H'
def spQ (K : PySem.W.Frag) (W : Wld) (pf : PSp) : Sp := fun vs H Q _ => ∃ ts F Ψ, Le F H ∧ W.ok H ∧ (∀ a, W.D a → F a = none) ∧ TvL K F ts vs ∧ pf ts Ψ ∧
  ∀ τ f v F' H', Ψ τ f → After K W F H F' H' → VX K F' H H' τ f v → Q v H'
/-- a def that can be called by its name -/
def CalQ (P : Program) (w : World) (K : PySem.W.Frag) (mg : Str → Option Value) (base : Heap) (W : Wld) (x : Str) (k : Nat) (ps : List Str) (pf : PSp) : Prop :=
  ∃ f fd, mg x = some (.ref f) ∧ PySem.W.keepIn K (.ref f) = true ∧ Binds K fd ps [] ∧ FnOk P w K mg base CX0 k f fd ps (spQ K W pf)
section
variable {P : Program} {w : World} {K : PySem.W.Frag} {mg : Str → Option Value} {base : Heap} {W : Wld} {x : Str} {j k : Nat} {ps : List Str} {pf pf' : PSp}
theorem CalQ.mono (h : CalQ P w K mg base W x j ps pf) (l : j ≤ k) : CalQ P w K mg base W x k ps pf := by
  obtain ⟨f, fd, h1, h2, h3, h4⟩ := h
  exact ⟨f, fd, h1, h2, h3, h4.mono l⟩
/-- a weaker promise -/
theorem CalQ.imp (h : CalQ P w K mg base W x k ps pf) (l : ∀ ts Φ, pf' ts Φ → ∃ Ψ, pf ts Ψ ∧ ∀ τ f, Ψ τ f → Φ τ f) : CalQ P w K mg base W x k ps pf' := by
  obtain ⟨f, fd, h1, h2, h3, h4⟩ := h
  refine ⟨f, fd, h1, h2, h3, h4.imp fun vs H Q E q => ?_⟩
  obtain ⟨ts, F, Ψ, q2, q3, q4, q5, q6, q7⟩ := q
  obtain ⟨Ψ', r1, r2⟩ := l _ _ q6
  exact ⟨ts, F, Ψ', q2, q3, q4, q5, r1, fun τ f v F' H' z => q7 τ f v F' H' (r2 τ f z)⟩
end
section
variable {K : PySem.W.Frag} {W : Wld} {B F0 F H F' H' : Hp} {ρ : PS'} {σ : L2.St}
theorem Rep.after (R : Rep K W B F0 ρ σ F H) (A : After K W F H F' H') : Rep K W B F0 ρ σ F' H' := by
  refine ⟨A.fh, R.f0.trans A.le, fun a e => ?_, fun a o e => A.kp a o (R.bh _ _ e) (fun z => by rw [R.wb a z] at e; cases e), A.ok, fun a e => ?_, R.wb, R.ln, fun i t e => ?_, fun i l e => ?_, R.ds⟩
  · rcases A.fd a e with z | z
    · exact R.fd a z
    · exact .inr (none_of_le R.bh z)
  · cases z : F' a with
    | none => rfl
    | some o =>
      rcases A.fd a (some_ne z) with y | y
      · exact absurd (R.wf a e) y
      · exact absurd y (W.al H a R.ok (W.sub _ e))
  · obtain ⟨v, e1, e2⟩ := R.fz i t e
    exact ⟨v, e1, Tv.le A.le _ _ e2⟩
  · obtain ⟨a, xs, e1, e2, e3, e4, e5, e6⟩ := R.own i l e
    refine ⟨a, xs, e1, A.kp a _ e2 (fun z => e6 (W.sub _ z)), e3.le A.le, ?_, e5, e6⟩
    cases z : F' a with
    | none => rfl
    | some o =>
      rcases A.fd a (some_ne z) with y | y
      · exact absurd e4 y
      · rw [y] at e2
        cases e2
theorem Rep.vx (R : Rep K W B F0 ρ σ F H) {t : T} {f : Bool} {v : V} (h : VX K F' H H' t f v) : VR K W B ρ σ F' H' t f v := by
  cases f with
  | false => exact h
  | true =>
    obtain ⟨a, o, e1, e2, e3, e5, e6⟩ := h
    refine ⟨a, o, e1, e2, e3, e5, none_of_le R.bh e6, fun z => W.al H a R.ok z e6, fun i l' e z => ?_⟩
    obtain ⟨b, ys, z1, z2, _⟩ := R.own i l' e
    rw [z1] at z
    cases z
    rw [e6] at z2
    cases z2
end
section
variable {X : Cx} {W : Wld} {e : Expr} {es : List Expr} {x : Str} {p pos : Pos} {k : Nat} {ps : List Str} {pf : PSp} {q : PA'}
def pCall (pf : PSp) (q : PA') : PE' := fun ρ Φ => q ρ fun l ρ' => pf l fun τ f => Φ τ f ρ'
theorem sm_call {t : TA} (h2 : SmA X.K W t q) : SmE X.K W (tCall (spQ X.K W pf) [] E0 t) (pCall pf q) := fun B F0 ρ σ F H Φ Q R hp k => by
  refine h2 B F0 ρ σ F H _ _ R hp fun l ρ1 vs F1 H1 R1 le1 tv q1 => ?_
  refine ⟨l, F1, _, R1.fh, R1.ok, R1.wf, by rw [List.append_nil]; exact tv, q1, fun τ f v F' H' hΨ A vx => ?_⟩
  exact k τ f ρ1 v F' H' (R1.after A) (le1.trans A.le) (R1.vx vx) hΨ
theorem qe_call (C : CalQ X.prog X.w X.K X.mg X.base W x k ps pf) (hr : Room k X.A) (hg : Gl X x) (ha : QA X W (e :: es) q) (hdb : (x == ("__debug__" : Str)) = false := by decide) (he : starEach (e :: es) X.env = (false, eval e X.env) :: starEach es X.env := by rfl) (hpl : (backTo pos (starEach es X.env)).any (·.1) = false := by rfl) :
    QE X W (.Call (.Name x p) (e :: es) [] pos) (pCall pf q) := by
  obtain ⟨f, fd, hm, hk, hb, F⟩ := C
  obtain ⟨t, h1, h2⟩ := ha.ex
  exact ⟨_, pe_call F hr hg hm hk hb .nil pass0 h1 hdb he hpl, sm_call h2⟩
theorem qe_call0 (C : CalQ X.prog X.w X.K X.mg X.base W x k ps pf) (hr : Room k X.A) (hg : Gl X x) (hdb : (x == ("__debug__" : Str)) = false := by decide) : QE X W (.Call (.Name x p) [] [] pos) (pCall pf pNil) := by
  obtain ⟨f, fd, hm, hk, hb, F⟩ := C
  exact ⟨_, pe_call0 F hr hg hm hk hb .nil pass0 hdb, sm_call fun B F0 ρ σ F H Φ Q R hp k => k [] ρ [] F H R (Le.refl _) rfl hp⟩
end
/-! ### a def by its body -/
def startP (N : List Str) (ts : List T) : PS' := ts.map Sl.fz ++ List.replicate (N.length - ts.length) Sl.no
/-- a def of the top as the head leaves it -/
def Df (K : PySem.W.Frag) (mg : Str → Option Value) (x : Str) (st : Stmt) : Prop := ∃ f fd, FunD K x x (defArgs st) (defBody st) (defScope st) [] [] f fd ∧ mg x = some (.ref f)
open Classical in
theorem CalQ.mk {P : Program} {w : World} {K : PySem.W.Frag} {mg : Str → Option Value} {base : Heap} {W : Wld} {x : Str} {st : Stmt} {N ps : List Str} {k : Nat} {pf : PSp} (D : Df K mg x st) (S : FnScope N ps (defScope st))
    (hb : ∀ (kV doc pm : Value) (an : Option Addr) (cdv ct : Value) (us : List Value), us.length = ps.length → bindArgs (PySem.W.fnOf x x (defArgs st) (defBody st) (defScope st) .none kV doc pm an cdv ct) ⟨us, []⟩ = pure (ps.zip us))
    (hl : ∀ ts Φ, pf ts Φ → ts.length = ps.length)
    (hbody : ∀ (f : Addr) (cdv : Value) (A : Around) (outer : List Env) (s : Shared) (H : Hp) (E : XK), Room k (A.deeper (envOfC x (defScope st) s.heap.objs.size f cdv)) →
      ∃ p, QSs (cxOf CX0 P w K mg base N x (defScope st) f cdv A outer s H E) W (defBody st) p ∧ ∀ ts Φ, pf ts Φ → p { nx := fun _ => Φ .non false, rt := Φ } (startP N ts)) :
    CalQ P w K mg base W x (k + 1) ps pf := by
  obtain ⟨f, fd, F, g⟩ := D
  refine ⟨f, fd, g, F.kp, F.bindsN hb, ?_⟩
  refine F.ok S (fun vs H Q E h => ?_) (fun cdv A outer s H vs Q E hr h => ?_)
  · obtain ⟨ts, F, Ψ, _, _, _, h2, h3, _⟩ := h
    rw [h2.length]
    exact hl _ _ h3
  · obtain ⟨p, hQ, hp⟩ := hbody f cdv A outer s H E hr
    obtain ⟨t, h1, h2⟩ := hQ.ex
    refine ⟨t, h1, ?_⟩
    obtain ⟨ts, F, Ψ, q2, q3, q4, q5, q6, q7⟩ := h
    have lv := q5.length
    have R : Rep K W (fun a => if W.D a then none else H a) F (startP N ts) (L2.start N vs) F H := by
      refine ⟨q2, Le.refl _, fun a e => .inl e, fun a o e => ?_, q3, q4, fun a e => if_pos e, ?_, fun i t e => ?_, fun i l e => ?_, fun i j l m e => ?_⟩
      · have e : (if W.D a then none else H a) = some o := e
        split at e
        · cases e
        · exact e
      · unfold startP L2.start
        rw [List.length_append, List.length_append, List.length_map, List.length_map, List.length_replicate, List.length_replicate, lv]
      · unfold startP at e
        unfold L2.start
        by_cases hi : i < ts.length
        · rw [List.getElem?_append_left (by simpa using hi), List.getElem?_map, List.getElem?_eq_getElem hi] at e
          have e2 : ts[i] = t := Sl.fz.inj (Option.some.inj e)
          obtain ⟨v, e3, e4⟩ := q5.get (List.getElem?_eq_getElem hi)
          refine ⟨v, ?_, e2 ▸ e4⟩
          rw [List.getElem?_append_left (by rw [List.length_map]; omega), List.getElem?_map, e3]
          rfl
        · rw [List.getElem?_append_right (by simpa using hi), List.getElem?_replicate] at e
          split at e <;> cases e
      · unfold startP at e
        by_cases hi : i < ts.length
        · rw [List.getElem?_append_left (by simpa using hi), List.getElem?_map, List.getElem?_eq_getElem hi] at e
          cases e
        · rw [List.getElem?_append_right (by simpa using hi), List.getElem?_replicate] at e
          split at e <;> cases e
      · unfold startP at e
        by_cases hi : i < ts.length
        · rw [List.getElem?_append_left (by simpa using hi), List.getElem?_map, List.getElem?_eq_getElem hi] at e
          cases e
        · rw [List.getElem?_append_right (by simpa using hi), List.getElem?_replicate] at e
          split at e <;> cases e
    have fin : ∀ {τ : T} {f : Bool} {v : V} {ρ : PS'} {σ : L2.St} {F' H' : Hp}, Rep K W (fun a => if W.D a then none else H a) F ρ σ F' H' → VR K W (fun a => if W.D a then none else H a) ρ σ F' H' τ f v → Ψ τ f → Q v H' := fun {τ f v ρ σ F' H'} R' vr hΨ => by
      have bn : ∀ a, ¬ W.D a → (if W.D a then none else H a) = none → H a = none := fun a hd e => by rwa [if_neg hd] at e
      refine q7 τ f v F' H' hΨ ⟨R'.f0, R'.fh, fun a e => ?_, fun a o e hd => R'.bh a o (by show (if W.D a then none else H a) = some o; rw [if_neg hd]; exact e), R'.ok⟩ ?_
      · rcases R'.fd a e with z | z
        · exact .inl z
        · exact .inr (bn a (fun hd => e (R'.wf a hd)) z)
      · cases f with
        | false => exact vr
        | true =>
          obtain ⟨a, o, e1, e2, e3, e5, e6, e7, _⟩ := vr
          exact ⟨a, o, e1, e2, e3, e5, bn a (fun hd => e7 (W.sub _ hd)) e6⟩
    exact h2 _ F (startP N ts) (start N vs) F H _ _ R (hp ts Ψ q6) ⟨fun ρ σ F' H' R' _ hΨ => fin R' VR.non hΨ, fun τ f v ρ σ F' H' R' _ vr hΨ => fin R' vr hΨ, fun _ _ _ _ _ _ h => h.elim, fun _ _ _ _ _ _ h => h.elim⟩
/-! ### built-ins -/
def rSC (X : Cx) (f : Value) : List V → Hp → VK → Prop := fun xs H Q => ∀ (pins : List (Addr × Obj)) (s : Shared) (σ : L2.St) (us : List Value), Inv X pins σ H s → Vals xs us → wpAny (model X.prog X.w) X.A (call f us) (EP X pins σ Q) X.xe s
theorem callS (X : Cx) (f : Value) : CallR X f (rSC X f) := fun pins s σ H xs us Q I r h => h pins s σ us I r
theorem rSC.of {X : Cx} {f : Value} {r : List V → Hp → VK → Prop} (o : CallR X f r) {xs : List V} {H : Hp} {Q : VK} (h : r xs H Q) : rSC X f xs H Q := fun pins s σ us I rs => o pins s σ H xs us Q I rs h
def CallQ (X : Cx) (W : Wld) (f : Value) (P : PSp) : Prop :=
  ∀ (B F0 : Hp) (ρ : PS') (σ : L2.St) (F H : Hp) (l : List T) (vs : List V) (Φ : T → Bool → Prop) (Q : VK), Rep X.K W B F0 ρ σ F H → TvL X.K F l vs → P l Φ →
    (∀ τ f w F' H', Rep X.K W B F0 ρ σ F' H' → Le F F' → VR X.K W B ρ σ F' H' τ f w → Φ τ f → Q w H') → rSC X f vs H Q
section
variable {X : Cx} {W : Wld} {e : Expr} {es : List Expr} {x : Str} {p pos : Pos} {P : PSp} {q : PA'} {id T' : String} {pa : PE'} {pr : PR'}
theorem sm_cb {f : Value} {t : TA} (hc : CallQ X W f P) (h2 : SmA X.K W t q) : SmE X.K W (tCB (rSC X f) t) (pCall P q) := fun B F0 ρ σ F H Φ Q R hp k => by
  refine h2 B F0 ρ σ F H _ _ R hp fun l ρ1 vs F1 H1 R1 le1 tv q1 => ?_
  exact hc B F0 ρ1 σ F1 H1 l vs _ Q R1 tv q1 fun τ f w F' H' R' le vr z => k τ f ρ1 w F' H' R' (le1.trans le) vr z
theorem qe_callB (hc : CallQ X W (.builtin id) P) (hg : Gl X x) (hm : X.mg x = none) (hv : bootBuiltins x = some (.builtin id)) (ha : QA X W (e :: es) q) (hn : x ≠ "__name__" := by decide) (hdb : (x == ("__debug__" : Str)) = false := by decide)
    (he : starEach (e :: es) X.env = (false, eval e X.env) :: starEach es X.env := by rfl) (hpl : (backTo pos (starEach es X.env)).any (·.1) = false := by rfl) : QE X W (.Call (.Name x p) (e :: es) [] pos) (pCall P q) := by
  obtain ⟨t, h1, h2⟩ := ha.ex
  exact ⟨_, pe_callB (callS X _) hg hm hv h1 hn hdb he hpl, sm_cb hc h2⟩
theorem qe_callTy (hc : CallQ X W (.type T') P) (hg : Gl X x) (hm : X.mg x = none) (hv : bootBuiltins x = some (.type T')) (ha : QA X W (e :: es) q) (hn : x ≠ "__name__" := by decide) (hdb : (x == ("__debug__" : Str)) = false := by decide)
    (he : starEach (e :: es) X.env = (false, eval e X.env) :: starEach es X.env := by rfl) (hpl : (backTo pos (starEach es X.env)).any (·.1) = false := by rfl) : QE X W (.Call (.Name x p) (e :: es) [] pos) (pCall P q) := by
  obtain ⟨t, h1, h2⟩ := ha.ex
  exact ⟨_, pe_callTy (callS X _) hg hm hv h1 hn hdb he hpl, sm_cb hc h2⟩
theorem tvl1 {K : PySem.W.Frag} {F : Hp} {t : T} {vs : List V} (h : TvL K F [t] vs) : ∃ v, vs = [v] ∧ Tv K F t v := by
  obtain ⟨v, r, rfl, h1, h2⟩ := h
  rw [show r = [] from h2]
  exact ⟨v, rfl, h1⟩
theorem tvl2 {K : PySem.W.Frag} {F : Hp} {t u : T} {vs : List V} (h : TvL K F [t, u] vs) : ∃ v w, vs = [v, w] ∧ Tv K F t v ∧ Tv K F u w := by
  obtain ⟨v, r, rfl, h1, h2⟩ := h
  obtain ⟨w, rfl, h3⟩ := tvl1 h2
  exact ⟨v, w, rfl, h1, h3⟩
/-- len, read only -/
def T.len : T → Option Nat
  | .lst l => some l.length
  | .tup l => some l.length
  | .wtp l => some l.length
  | .str z => if z.length ≤ 16000000 then some z.length else none
  | _ => none
def pLen (pr : PR') : PE' := fun ρ Φ => pr ρ fun r ρ' => ∃ t n, r.look ρ' = some t ∧ t.len = some n ∧ Φ (.int (n : Nat)) false ρ'
theorem len_v {K : PySem.W.Frag} {F H : Hp} (le : Le F H) {t : T} {v : V} {n : Nat} (h : Rv K F H t v) (e : t.len = some n) : LenV K v H n := by
  have hs := sl16
  cases t with
  | str z =>
    rw [show v = .str z from h]
    have e : (if z.length ≤ 16000000 then some z.length else none) = some n := e
    split at e
    · exact ⟨by omega, (Option.some.inj e).symm⟩
    · cases e
  | tup l =>
    obtain ⟨a, xs, rfl, h1, h2⟩ := h
    exact .inr ⟨xs, sqt_le le h1, by rw [h2.length]; exact (Option.some.inj e).symm⟩
  | wtp l =>
    obtain ⟨a, xs, rfl, h1, h2⟩ := h
    exact .inr ⟨xs, sqw_le le h1, by rw [h2.length]; exact (Option.some.inj e).symm⟩
  | lst l =>
    obtain ⟨a, xs, rfl, h1, h2⟩ := h
    exact .inl ⟨xs, .of h1, by rw [h2.length]; exact (Option.some.inj e).symm⟩
  | _ => cases e
theorem qe_len (hg : Gl X "len") (hm : X.mg "len" = none) (h : QR X W e pr) (he : starEach [e] X.env = (false, eval e X.env) :: starEach [] X.env := by rfl) : QE X W (.Call (.Name "len" p) [e] [] pos) (pLen pr) := by
  obtain ⟨t, h1, h2⟩ := h.ex
  refine ⟨_, pe_callB call_len hg hm PySem.boot_len (pa_cons h1 pa_nil he) (by decide) (by decide) he, fun B F0 ρ σ F H Φ Q R hp k => ?_⟩
  refine h2 B F0 ρ σ F H _ _ R hp fun r ρ1 v F1 H1 R1 le1 rd q1 => ?_
  obtain ⟨u, n, e1, e2, q1⟩ := q1
  exact ⟨v, n, rfl, len_v R1.fh (R1.rv rd e1) e2, k _ false ρ1 _ F1 H1 R1 le1 VR.int q1⟩
/-- isinstance(x, a built-in type) -/
def tyN : T → String
  | .non => "NoneType"
  | .bl _ => "bool"
  | .int _ => "int"
  | .str _ => "str"
  | .tup _ => "tuple"
  | .lst _ => "list"
  | .adr _ => ""
  | .wtp _ => ""
  | .dct _ _ => ""
/-- a value whose type is told -/
def T.isV : T → Bool
  | .adr _ => false
  | .wtp _ => false
  | .dct _ _ => false
  | _ => true
def pIsi (pa : PE') (is : String → Bool) : PE' := fun ρ Φ => pa ρ fun t _ ρ' => (t.isV = true) ∧ Φ (.bl (is (tyN t))) false ρ'
theorem ty_v {K : PySem.W.Frag} {F H : Hp} (le : Le F H) {t : T} {v : V} (h : Tv K F t v) (n : t.isV = true) : TyX K H v (.type (tyN t)) := by
  cases t with
  | non => rw [show v = .non from h]; exact .base .non
  | bl b => rw [show v = .bl b from h]; exact .base (.bl b)
  | int b => rw [show v = .int b from h]; exact .base (.int b)
  | str b => rw [show v = .str b from h]; exact .base (.str b)
  | adr b => cases n
  | wtp b => cases n
  | dct _ b => cases n
  | tup l =>
    obtain ⟨a, xs, rfl, h1, _⟩ := h
    rcases sqt_le le h1 with (h1 | ⟨o, h1⟩) | ⟨o, its, n, h1, h2, _⟩
    · exact .base (.tup h1)
    · exact .fTuple h1
    · exact .kTuple h1 h2
  | lst l =>
    obtain ⟨a, xs, rfl, h1, _⟩ := h
    exact .base (.lst (le _ _ h1))
theorem qe_isi {b : Expr} {is : String → Bool} (hg : Gl X "isinstance") (hm : X.mg "isinstance" = none) (ha : QE X W e pa) (hb : PE X b (tC (.ty T')))
    (hk : ∀ n ∈ ["NoneType", "bool", "int", "str", "tuple", "list"], PySem.W.kitOne X.K (.type n) (.type T') = some (is n))
    (he : starEach [e, b] X.env = (false, eval e X.env) :: starEach [b] X.env := by rfl) (hb2 : starEach [b] X.env = (false, eval b X.env) :: starEach [] X.env := by rfl) (hpl : (backTo pos (starEach [b] X.env)).any (·.1) = false := by rfl) :
    QE X W (.Call (.Name "isinstance" p) [e, b] [] pos) (pIsi pa is) := by
  obtain ⟨t, h1, h2⟩ := ha.ex
  refine ⟨_, pe_callB call_isi hg hm PyProof.Rows.boot_isinstance (pa_cons h1 (pa_cons hb pa_nil hb2) he) (by decide) (by decide) he hpl, fun B F0 ρ σ F H Φ Q R hp k => ?_⟩
  refine h2.fz R hp fun τ ρ1 v F1 H1 R1 le1 tv q1 => ?_
  obtain ⟨n, q1⟩ := q1
  refine ⟨v, .ty T', _, _, is (tyN τ), rfl, .ty T', ty_v R1.fh tv n, hk _ ?_, k _ false ρ1 _ F1 H1 R1 le1 VR.bl q1⟩
  cases τ <;> first | (simp [tyN]; done) | cases n
/-! the calls by values -/
theorem cq_abs : CallQ X W (.builtin "abs") (fun l Φ => ∃ i, l = [.int i] ∧ Φ (.int (if i < 0 then -i else i)) false) := by
  intro B F0 ρ σ F H l vs Φ Q R tv hp k
  obtain ⟨i, rfl, hp⟩ := hp
  obtain ⟨v, rfl, h1⟩ := tvl1 tv
  exact rSC.of call_abs ⟨i, by rw [show v = _ from h1], k _ false _ F H R (Le.refl _) VR.int hp⟩
theorem cq_max2 (hc : X.calm = true) : CallQ X W (.builtin "max") (fun l Φ => ∃ i j, l = [.int i, .int j] ∧ Φ (.int (if j > i then j else i)) false) := by
  intro B F0 ρ σ F H l vs Φ Q R tv hp k
  obtain ⟨i, j, rfl, hp⟩ := hp
  obtain ⟨v, w, rfl, h1, h2⟩ := tvl2 tv
  exact rSC.of (call_max2 hc) ⟨i, j, by rw [show v = _ from h1, show w = _ from h2], k _ false _ F H R (Le.refl _) VR.int hp⟩
theorem cq_min2 (hc : X.calm = true) : CallQ X W (.builtin "min") (fun l Φ => ∃ i j, l = [.int i, .int j] ∧ Φ (.int (if j < i then j else i)) false) := by
  intro B F0 ρ σ F H l vs Φ Q R tv hp k
  obtain ⟨i, j, rfl, hp⟩ := hp
  obtain ⟨v, w, rfl, h1, h2⟩ := tvl2 tv
  exact rSC.of (call_min2 hc) ⟨i, j, by rw [show v = _ from h1, show w = _ from h2], k _ false _ F H R (Le.refl _) VR.int hp⟩
theorem cq_int : CallQ X W (.type "int") (fun l Φ => (∃ i, l = [.int i] ∧ Φ (.int i) false) ∨ ∃ b, l = [.bl b] ∧ Φ (.int (if b then 1 else 0)) false) := by
  intro B F0 ρ σ F H l vs Φ Q R tv hp k
  rcases hp with ⟨i, rfl, hp⟩ | ⟨b, rfl, hp⟩
  · obtain ⟨v, rfl, h1⟩ := tvl1 tv
    exact rSC.of call_int1 (.inl ⟨i, by rw [show v = _ from h1], k _ false _ F H R (Le.refl _) VR.int hp⟩)
  · obtain ⟨v, rfl, h1⟩ := tvl1 tv
    exact rSC.of call_int1 (.inr ⟨b, by rw [show v = _ from h1], k _ false _ F H R (Le.refl _) VR.int hp⟩)
theorem cq_str : CallQ X W (.type "str") (fun l Φ => (∃ i : Int, l = [.int i] ∧ i.natAbs.log2 < 1920 ∧ Φ (.str (toString i)) false) ∨ ∃ b, l = [.str b] ∧ Φ (.str b) false) := by
  intro B F0 ρ σ F H l vs Φ Q R tv hp k
  rcases hp with ⟨i, rfl, hz, hp⟩ | ⟨b, rfl, hp⟩
  · obtain ⟨v, rfl, h1⟩ := tvl1 tv
    exact rSC.of call_str_int ⟨i, by rw [show v = _ from h1], hz, k _ false _ F H R (Le.refl _) VR.str hp⟩
  · obtain ⟨v, rfl, h1⟩ := tvl1 tv
    exact rSC.of SkE.call_str_str ⟨b, by rw [show v = _ from h1], k _ false _ F H R (Le.refl _) VR.str hp⟩
theorem cq_tuple : CallQ X W (.type "tuple") (fun l Φ => ∃ t m, l = [t] ∧ t.items = some m ∧ Φ (.tup m) false) := by
  intro B F0 ρ σ F H l vs Φ Q R tv hp k
  obtain ⟨t, m, rfl, e1, hp⟩ := hp
  obtain ⟨v, rfl, h1⟩ := tvl1 tv
  cases t <;> first | cases e1 | skip
  · obtain ⟨a, xs, rfl, h2, h3⟩ := h1
    exact rSC.of call_tupleN ⟨a, xs, rfl, .inr ⟨sqt_le R.fh h2, k _ false _ F H R (Le.refl _) (VR.fz (t := .tup _) ⟨a, xs, rfl, h2, h3⟩) hp⟩⟩
  · obtain ⟨a, xs, rfl, h2, h3⟩ := h1
    refine rSC.of call_tupleN ⟨a, xs, rfl, .inl ⟨.of (R.fh _ _ h2), fun z o nz d => ?_⟩⟩
    obtain ⟨F2, R2, le2, tv2⟩ := R.newT nz d h3
    exact k _ false _ F2 _ R2 le2 (VR.fz tv2) hp
theorem cq_list : CallQ X W (.type "list") (fun l Φ => ∃ t m, l = [t] ∧ t.items = some m ∧ Φ (.lst m) true) := by
  intro B F0 ρ σ F H l vs Φ Q R tv hp k
  obtain ⟨t, m, rfl, e1, hp⟩ := hp
  obtain ⟨v, rfl, h1⟩ := tvl1 tv
  obtain ⟨a, xs, rfl, h2, h3⟩ := items_sq R.fh e1 h1
  refine rSC.of call_list_of ⟨a, xs, rfl, h2.symm, fun z nz => ?_⟩
  obtain ⟨R2, vr⟩ := R.newL nz h3
  exact k _ true _ F _ R2 (Le.refl _) vr hp
theorem cq_sum (hc : X.calm = true) : CallQ X W (.builtin "sum") (fun l Φ => ∃ ns : List Int, l = [.lst (ns.map T.int)] ∧ Φ (.int ns.sum) false) := by
  intro B F0 ρ σ F H l vs Φ Q R tv hp k
  obtain ⟨ns, rfl, hp⟩ := hp
  obtain ⟨v, rfl, a, xs, rfl, h2, h3⟩ := tvl1 tv
  rw [TvL.ints ns rfl h3] at h2
  exact rSC.of (cr_sum hc) ⟨a, ns, rfl, .of (R.fh _ _ h2), k _ false _ F H R (Le.refl _) VR.int hp⟩
theorem cq_max (hc : X.calm = true) : CallQ X W (.builtin "max") (fun l Φ => ∃ ns : List Int, l = [.lst (ns.map T.int)] ∧ 0 < ns.length ∧ ∀ m, m ∈ ns → (∀ y, y ∈ ns → y ≤ m) → Φ (.int m) false) := by
  intro B F0 ρ σ F H l vs Φ Q R tv hp k
  obtain ⟨ns, rfl, h0, hp⟩ := hp
  obtain ⟨v, rfl, a, xs, rfl, h2, h3⟩ := tvl1 tv
  rw [TvL.ints ns rfl h3] at h2
  exact rSC.of (cr_max hc) ⟨a, ns, rfl, .of (R.fh _ _ h2), h0, fun m h4 h5 => k _ false _ F H R (Le.refl _) VR.int (hp m h4 h5)⟩
theorem cq_min (hc : X.calm = true) : CallQ X W (.builtin "min") (fun l Φ => ∃ ns : List Int, l = [.lst (ns.map T.int)] ∧ 0 < ns.length ∧ ∀ m, m ∈ ns → (∀ y, y ∈ ns → m ≤ y) → Φ (.int m) false) := by
  intro B F0 ρ σ F H l vs Φ Q R tv hp k
  obtain ⟨ns, rfl, h0, hp⟩ := hp
  obtain ⟨v, rfl, a, xs, rfl, h2, h3⟩ := tvl1 tv
  rw [TvL.ints ns rfl h3] at h2
  exact rSC.of (cr_min hc) ⟨a, ns, rfl, .of (R.fh _ _ h2), h0, fun m h4 h5 => k _ false _ F H R (Le.refl _) VR.int (hp m h4 h5)⟩
theorem cq_sorted : CallQ X W (.builtin "sorted") (fun l Φ => (∃ ns : List Int, l = [.lst (ns.map T.int)] ∧ ns.length < 64 ∧ ∀ ns' : List Int, ns'.Perm ns → ns'.Pairwise (· ≤ ·) → Φ (.lst (ns'.map T.int)) true) ∨
    ∃ ns : List Str, l = [.lst (ns.map T.str)] ∧ ns.length < 64 ∧ ∀ ns' : List Str, ns'.Perm ns → sortedS ns' = true → Φ (.lst (ns'.map T.str)) true) := by
  intro B F0 ρ σ F H l vs Φ Q R tv hp k
  rcases hp with ⟨ns, rfl, h0, hp⟩ | ⟨ns, rfl, h0, hp⟩
  · obtain ⟨v, rfl, a, xs, rfl, h2, h3⟩ := tvl1 tv
    rw [TvL.ints ns rfl h3] at h2
    refine rSC.of cr_sorted ⟨a, ns, rfl, .of (R.fh _ _ h2), h0, fun ns' z h4 h5 nz => ?_⟩
    obtain ⟨R2, vr⟩ := R.newL nz (tvl_ints ns')
    exact k _ true _ F _ R2 (Le.refl _) vr (hp ns' h4 h5)
  · obtain ⟨v, rfl, a, xs, rfl, h2, h3⟩ := tvl1 tv
    rw [TvL.strs ns rfl h3] at h2
    refine rSC.of cr_sortedS ⟨a, ns, rfl, .of (R.fh _ _ h2), h0, fun ns' z h4 h5 nz => ?_⟩
    obtain ⟨R2, vr⟩ := R.newL nz (tvl_strs ns')
    exact k _ true _ F _ R2 (Le.refl _) vr (hp ns' h4 h5)
theorem cq_any (hc : X.calm = true) : CallQ X W (.builtin "any") (fun l Φ => ∃ bs : List Bool, l = [.lst (bs.map T.bl)] ∧ Φ (.bl (bs.any _root_.id)) false) := by
  intro B F0 ρ σ F H l vs Φ Q R tv hp k
  obtain ⟨ns, rfl, hp⟩ := hp
  obtain ⟨v, rfl, a, xs, rfl, h2, h3⟩ := tvl1 tv
  rw [TvL.bls ns rfl h3] at h2
  exact rSC.of (cr_any hc) ⟨a, ns, rfl, .of (R.fh _ _ h2), k _ false _ F H R (Le.refl _) VR.bl hp⟩
theorem cq_all (hc : X.calm = true) : CallQ X W (.builtin "all") (fun l Φ => ∃ bs : List Bool, l = [.lst (bs.map T.bl)] ∧ Φ (.bl (bs.all _root_.id)) false) := by
  intro B F0 ρ σ F H l vs Φ Q R tv hp k
  obtain ⟨ns, rfl, hp⟩ := hp
  obtain ⟨v, rfl, a, xs, rfl, h2, h3⟩ := tvl1 tv
  rw [TvL.bls ns rfl h3] at h2
  exact rSC.of (cr_all hc) ⟨a, ns, rfl, .of (R.fh _ _ h2), k _ false _ F H R (Le.refl _) VR.bl hp⟩
theorem cq_divmod : CallQ X W (.builtin "divmod") (fun l Φ => ∃ i j, l = [.int i, .int j] ∧ (CDiv i j ∨ CDivP i j) ∧ Φ (.tup [.int (i / j), .int (i % j)]) false) := by
  intro B F0 ρ σ F H l vs Φ Q R tv hp k
  obtain ⟨i, j, rfl, hc, hp⟩ := hp
  obtain ⟨v, w, rfl, h1, h2⟩ := tvl2 tv
  have fin : ∀ p (o : Obj), H p = none → o.dict = none → Q (.ref p) (upd H p (.frz o (.tup [.int (i / j), .int (i % j)]))) := fun z o nz d => by
    obtain ⟨F2, R2, le2, tv2⟩ := R.newT (l := [.int (i / j), .int (i % j)]) nz d ⟨_, _, rfl, rfl, _, _, rfl, rfl, rfl⟩
    exact k _ false _ F2 _ R2 le2 (VR.fz tv2) hp
  rw [show v = _ from h1, show w = _ from h2]
  exact rSC.of call_divmodN ⟨i, j, rfl, hc, fin⟩
/-- list(range(..)) -/
def KLR1 (t : T) (Φ : T → Prop) : Prop := match t with
  | .int j => RgOk 0 j ∧ Φ (.lst (rngT 0 (j - 0).toNat))
  | _ => False
def pLRng1 (pa : PE') : PE' := fun ρ Φ => pa ρ fun t _ ρ' => KLR1 t fun u => Φ u true ρ'
theorem tvl_rng {K : PySem.W.Frag} {F : Hp} (a b : Int) : TvL K F (rngT a (b - a).toNat) (rgV a b) := by
  unfold rngT rgV
  generalize (List.range (b - a).toNat) = l
  induction l with
  | nil => rfl
  | cons i l ih => exact ⟨_, _, rfl, rfl, ih⟩
theorem qe_listRg1 {p2 p3 : Pos} (hc : X.calm = true) (hg : Gl X "list") (hm : X.mg "list" = none) (hg2 : Gl X "range") (hm2 : X.mg "range" = none) (h : QE X W e pa)
    (na : starEach [.Call (.Name "range" p2) [e] [] p3] X.env = (false, eval (.Call (.Name "range" p2) [e] [] p3) X.env) :: starEach [] X.env := by rfl) (na2 : starEach [e] X.env = (false, eval e X.env) :: starEach [] X.env := by rfl) :
    QE X W (.Call (.Name "list" p) [.Call (.Name "range" p2) [e] [] p3] [] pos) (pLRng1 pa) := by
  obtain ⟨t, h1, h2⟩ := h.ex
  refine ⟨_, pe_listRg hc hg hm (prg_1 hg2 hm2 h1 na2) na, fun B F0 ρ σ F H Φ Q R hp k => ?_⟩
  refine h2.fz R hp fun τ ρ1 v F1 H1 R1 le1 tv q1 => ?_
  unfold KLR1 at q1
  split at q1
  · refine ⟨_, tv, q1.1, fun z nz => ?_⟩
    obtain ⟨R2, vr⟩ := R1.newL nz (tvl_rng (K := X.K) (F := F1) 0 _)
    exact k _ true ρ1 _ F1 _ R2 le1 vr q1.2
  · exact q1.elim
def KLR2 (t u : T) (Φ : T → Prop) : Prop := match t, u with
  | .int i, .int j => RgOk i j ∧ Φ (.lst (rngT i (j - i).toNat))
  | _, _ => False
def pLRng2 (pa pb : PE') : PE' := fun ρ Φ => pa ρ fun t _ ρ1 => pb ρ1 fun u _ ρ2 => KLR2 t u fun v => Φ v true ρ2
theorem qe_listRg2 {e2 : Expr} {pb : PE'} {p2 p3 : Pos} (hc : X.calm = true) (hg : Gl X "list") (hm : X.mg "list" = none) (hg2 : Gl X "range") (hm2 : X.mg "range" = none) (h : QE X W e pa) (h' : QE X W e2 pb)
    (na : starEach [.Call (.Name "range" p2) [e, e2] [] p3] X.env = (false, eval (.Call (.Name "range" p2) [e, e2] [] p3) X.env) :: starEach [] X.env := by rfl) (na2 : starEach [e, e2] X.env = (false, eval e X.env) :: starEach [e2] X.env := by rfl)
    (nb : starEach [e2] X.env = (false, eval e2 X.env) :: starEach [] X.env := by rfl) (hp' : (backTo p3 (starEach [e2] X.env)).any (·.1) = false := by rfl) : QE X W (.Call (.Name "list" p) [.Call (.Name "range" p2) [e, e2] [] p3] [] pos) (pLRng2 pa pb) := by
  obtain ⟨t, h1, h2⟩ := h.ex
  obtain ⟨u, h3, h4⟩ := h'.ex
  refine ⟨_, pe_listRg hc hg hm (prg_2 hg2 hm2 h1 h3 na2 nb hp') na, fun B F0 ρ σ F H Φ Q R hp k => ?_⟩
  refine h2.fz R hp fun τ ρ1 v F1 H1 R1 le1 tv q1 => ?_
  refine h4.fz R1 q1 fun τ2 ρ2 w F2 H2 R2 le2 tv2 q2 => ?_
  unfold KLR2 at q2
  split at q2
  · refine ⟨_, _, tv, tv2, q2.1, fun z nz => ?_⟩
    obtain ⟨R3, vr⟩ := R2.newL nz (tvl_rng (K := X.K) (F := F2) _ _)
    exact k _ true ρ2 _ F2 _ R3 (le1.trans le2) vr q2.2
  · exact q2.elim
end
/-! ### methods -/
def rSM (X : Cx) (id : String) : V → List V → Hp → VK → Prop := fun x xs H Q => ∀ (pins : List (Addr × Obj)) (s : Shared) (σ : L2.St) (v : Value) (us : List Value), Inv X pins σ H s → RelV x v → Vals xs us → wpAny (model X.prog X.w) X.A (call (.builtin id) (v :: us)) (EP X pins σ Q) X.xe s
theorem mtS (X : Cx) (id : String) : MtR X id (rSM X id) := fun pins s σ H x xs v us Q I r rs h => h pins s σ v us I r rs
theorem rSM.of {X : Cx} {id : String} {r : V → List V → Hp → VK → Prop} (o : MtR X id r) {x : V} {xs : List V} {H : Hp} {Q : VK} (h : r x xs H Q) : rSM X id x xs H Q := fun pins s σ v us I rx rs => o pins s σ H x xs v us Q I rx rs h
/-- a method of a text or a list that changes nothing -/
def MetQ (X : Cx) (W : Wld) (id : String) (P : T → List T → (T → Bool → Prop) → Prop) : Prop :=
  ∀ (B F0 : Hp) (ρ : PS') (σ : L2.St) (F H : Hp) (t : T) (x : V) (l : List T) (vs : List V) (Φ : T → Bool → Prop) (Q : VK), Rep X.K W B F0 ρ σ F H → Rv X.K F H t x → TvL X.K F l vs → P t l Φ →
    (∀ τ f w F' H', Rep X.K W B F0 ρ σ F' H' → Le F F' → VR X.K W B ρ σ F' H' τ f w → Φ τ f → Q w H') → rSM X id x vs H Q
def tyOk (ty : String) : T → Prop
  | .str _ => ty = "str"
  | .lst _ => ty = "list"
  | .tup _ => ty = "tuple"
  | _ => False
theorem tyV_v {K : PySem.W.Frag} {F H : Hp} {t : T} {x : V} {ty : String} (h : Rv K F H t x) (le : Le F H) (e : tyOk ty t) : tyN' K ty x H := by
  cases t with
  | str z => rw [show x = .str z from h]; exact .inl e
  | tup l =>
    obtain ⟨a, xs, rfl, h1, _⟩ := h
    exact .inr ⟨e, a, xs, rfl, sqn_le le h1⟩
  | lst l =>
    obtain ⟨a, xs, rfl, h1, _⟩ := h
    exact .inl (.inl ⟨e, xs, .of h1⟩)
  | _ => exact e.elim
section
variable {X : Cx} {W : Wld} {o e : Expr} {es : List Expr} {name x : Str} {apos cpos pos : Pos} {ty id : String} {pr : PR'} {q : PA'} {P : T → List T → (T → Bool → Prop) → Prop} {i : Nat}
def pMet (ty : String) (P : T → List T → (T → Bool → Prop) → Prop) (pr : PR') (q : PA') : PE' := fun ρ Φ => pr ρ fun r ρ1 => (∃ t, r.look ρ1 = some t ∧ tyOk ty t) ∧ q ρ1 fun l ρ2 => ∃ t, r.look ρ2 = some t ∧ P t l fun τ f => Φ τ f ρ2
theorem sm_met {to : TE} {t : TA} (hm : MetQ X W id P) (h1 : SmR X.K W to pr) (h2 : SmA X.K W t q) : SmE X.K W (tBN X.K ty (rSM X id) to t) (pMet ty P pr q) := fun B F0 ρ σ F H Φ Q R hp k => by
  refine h1 B F0 ρ σ F H _ _ R hp fun r ρ1 v F1 H1 R1 le1 rd q1 => ?_
  obtain ⟨⟨t, e1, e2⟩, q1⟩ := q1
  refine ⟨tyV_v (R1.rv rd e1) R1.fh e2, ?_⟩
  refine h2 B F0 ρ1 σ F1 H1 _ _ R1 q1 fun l ρ2 vs F2 H2 R2 le2 tv q2 => ?_
  obtain ⟨u, e3, q2⟩ := q2
  exact hm B F0 ρ2 σ F2 H2 u v l vs _ Q R2 (R2.rv (rd.le le2) e3) tv q2 fun τ f w F' H' R' le vr z => k τ f ρ2 w F' H' R' (le1.trans (le2.trans le)) vr z
theorem qe_met (pa : PlainAttrs ty) (slot : Slot ty name id) (hty : typeOf (.builtin id) = pure (.type "method_descriptor")) (hm : MetQ X W id P) (ho : QR X W o pr) (ha : QA X W (e :: es) q)
    (hbase : attributeBase o name X.env (eval o X.env) = eval o X.env := by rfl)
    (hfew : ((backTo cpos (starEach (e :: es) X.env)).all (fun x => !x.1) && (backToKw cpos (keywordEach [] X.env)).all (fun x => x.1.isSome)
      && decide ((e :: es).length + ([] : List Keyword).length + (if ([] : List Keyword).isEmpty then 0 else 1) < 30)) = true := by rfl)
    (hline : (apos.endLine == cpos.line) = true := by rfl) (hs : starEach (e :: es) X.env = (false, eval e X.env) :: starEach es X.env := by rfl) (hplain : (backTo cpos (starEach es X.env)).any (·.1) = false := by rfl) :
    QE X W (.Call (.Attribute o name apos) (e :: es) [] cpos) (pMet ty P pr q) := by
  obtain ⟨t, h1, h2⟩ := ho.ex
  obtain ⟨u, h3, h4⟩ := ha.ex
  exact ⟨_, pe_bmN pa slot hty (mtS X id) h1 h3 hbase hfew hline hs hplain, sm_met hm h2 h4⟩
def pMet0 (ty : String) (P : T → List T → (T → Bool → Prop) → Prop) (pr : PR') : PE' := fun ρ Φ => pr ρ fun r ρ1 => ∃ t, r.look ρ1 = some t ∧ tyOk ty t ∧ P t [] fun τ f => Φ τ f ρ1
theorem qe_met0 (pa : PlainAttrs ty) (slot : Slot ty name id) (hty : typeOf (.builtin id) = pure (.type "method_descriptor")) (hm : MetQ X W id P) (ho : QR X W o pr)
    (hbase : attributeBase o name X.env (eval o X.env) = eval o X.env := by rfl) (hline : (apos.endLine == cpos.line) = true := by rfl) : QE X W (.Call (.Attribute o name apos) [] [] cpos) (pMet0 ty P pr) := by
  obtain ⟨t, h1, h2⟩ := ho.ex
  refine ⟨_, pe_bm0N pa slot hty (mtS X id) h1 hbase hline, fun B F0 ρ σ F H Φ Q R hp k => ?_⟩
  refine h2 B F0 ρ σ F H _ _ R hp fun r ρ1 v F1 H1 R1 le1 rd q1 => ?_
  obtain ⟨t, e1, e2, q1⟩ := q1
  exact ⟨tyV_v (R1.rv rd e1) R1.fh e2, hm B F0 ρ1 σ F1 H1 t v [] [] _ Q R1 (R1.rv rd e1) rfl q1 fun τ f w F' H' R' le vr z => k τ f ρ1 w F' H' R' (le1.trans le) vr z⟩
/-! changing a slot's own list -/
def MutQ (X : Cx) (W : Wld) (id : String) (P : List T → List T → (T → List T → Prop) → Prop) : Prop :=
  ∀ (B F0 : Hp) (ρ : PS') (σ : L2.St) (F H : Hp) (i : Nat) (m : List T) (a : Addr) (l : List T) (vs : List V) (Φ : T → List T → Prop) (Q : VK), Rep X.K W B F0 ρ σ F H → ρ[i]? = some (Sl.ow m) → σ[i]? = some (some (V.ref a)) → TvL X.K F l vs → P m l Φ →
    (∀ τ w m' H', Rep X.K W B F0 (ρ.set i (Sl.ow m')) σ F H' → Tv X.K F τ w → Φ τ m' → Q w H') → rSM X id (.ref a) vs H Q
def pMut (i : Nat) (P : List T → List T → (T → List T → Prop) → Prop) (q : PA') : PE' := fun ρ Φ => (∃ m, ρ[i]? = some (Sl.ow m)) ∧ q ρ fun l ρ1 => ∃ m, ρ1[i]? = some (Sl.ow m) ∧ P m l fun τ m' => Φ τ false (ρ1.set i (Sl.ow m'))
variable {Pm : List T → List T → (T → List T → Prop) → Prop}
theorem sm_mut {t : TA} (hm : MutQ X W id Pm) (h2 : SmA X.K W t q) : SmE X.K W (tBM X.K "list" (rSM X id) (tVar i) t) (pMut i Pm q) := fun B F0 ρ σ F H Φ Q R hp k => by
  obtain ⟨⟨m, e1⟩, hp⟩ := hp
  obtain ⟨a, xs, e2, e3, _⟩ := R.ow i m e1
  refine ⟨_, e2, .inl ⟨rfl, xs, .of e3⟩, ?_⟩
  refine h2 B F0 ρ σ F H _ _ R hp fun l ρ1 vs F1 H1 R1 le1 tv q1 => ?_
  obtain ⟨m1, e4, q1⟩ := q1
  exact hm B F0 ρ1 σ F1 H1 i m1 a l vs _ Q R1 e4 e2 tv q1 fun τ w m' H' R' tw z => k τ false _ w F1 H' R' le1 (VR.fz tw) z
theorem qe_mut (slot : Slot "list" name id) (hty : typeOf (.builtin id) = pure (.type "method_descriptor")) (hm : MutQ X W id Pm) (ho : PE X (.Name x pos) (tVar i)) (ha : QA X W (e :: es) q)
    (hbase : attributeBase (.Name x pos) name X.env (eval (.Name x pos) X.env) = eval (.Name x pos) X.env := by rfl)
    (hfew : ((backTo cpos (starEach (e :: es) X.env)).all (fun x => !x.1) && (backToKw cpos (keywordEach [] X.env)).all (fun x => x.1.isSome)
      && decide ((e :: es).length + ([] : List Keyword).length + (if ([] : List Keyword).isEmpty then 0 else 1) < 30)) = true := by rfl)
    (hline : (apos.endLine == cpos.line) = true := by rfl) (hs : starEach (e :: es) X.env = (false, eval e X.env) :: starEach es X.env := by rfl) (hplain : (backTo cpos (starEach es X.env)).any (·.1) = false := by rfl) :
    QE X W (.Call (.Attribute (.Name x pos) name apos) (e :: es) [] cpos) (pMut i Pm q) := by
  obtain ⟨u, h3, h4⟩ := ha.ex
  exact ⟨_, pe_bm PySem.F.plainAttrs_list slot hty (mtS X id) ho h3 hbase hfew hline hs hplain, sm_mut hm h4⟩
theorem qe_mut0 (slot : Slot "list" name id) (hty : typeOf (.builtin id) = pure (.type "method_descriptor")) (hm : MutQ X W id Pm) (ho : PE X (.Name x pos) (tVar i))
    (hbase : attributeBase (.Name x pos) name X.env (eval (.Name x pos) X.env) = eval (.Name x pos) X.env := by rfl) (hline : (apos.endLine == cpos.line) = true := by rfl) : QE X W (.Call (.Attribute (.Name x pos) name apos) [] [] cpos) (pMut i Pm pNil) := by
  refine ⟨_, pe_bm0 PySem.F.plainAttrs_list slot hty (mtS X id) ho hbase hline, fun B F0 ρ σ F H Φ Q R hp k => ?_⟩
  obtain ⟨⟨m, e1⟩, hp⟩ := hp
  obtain ⟨a, xs, e2, e3, _⟩ := R.ow i m e1
  refine ⟨_, e2, .inl ⟨rfl, xs, .of e3⟩, ?_⟩
  obtain ⟨m1, e4, q1⟩ := hp
  exact hm B F0 ρ σ F H i m1 a [] [] _ Q R e4 e2 rfl q1 fun τ w m' H' R' tw z => k τ false _ w F H' R' (Le.refl _) (VR.fz tw) z
theorem own_at {K : PySem.W.Frag} {B F0 F H : Hp} {ρ : PS'} {σ : L2.St} (R : Rep K W B F0 ρ σ F H) {i : Nat} {m : List T} {a : Addr} (e : ρ[i]? = some (Sl.ow m)) (e' : σ[i]? = some (some (V.ref a))) : ∃ xs, H a = some (.lst xs) ∧ TvL K F m xs := by
  obtain ⟨b, xs, e1, e2, e3, _⟩ := R.ow i m e
  rw [e'] at e1
  cases e1
  exact ⟨xs, e2, e3⟩
theorem mq_append : MutQ X W "list.append" (fun m l Φ => ∃ t, l = [t] ∧ m.length < 16000000 ∧ Φ .non (m ++ [t])) := by
  intro B F0 ρ σ F H i m a l vs Φ Q R e1 e2 tv hp k
  obtain ⟨t, rfl, hl, hp⟩ := hp
  obtain ⟨v, rfl, h1⟩ := tvl1 tv
  obtain ⟨xs, h2, h3⟩ := own_at R e1 e2
  have := h3.length
  have := sl16
  exact rSM.of mt_append ⟨a, xs, v, rfl, rfl, h2, by omega, k .non _ _ _ (R.mut e1 e2 (TvL.app h3 (TvL.one h1))) rfl hp⟩
theorem mq_extend : MutQ X W "list.extend" (fun m l Φ => ∃ ts, l = [.lst ts] ∧ m.length + ts.length ≤ 16000000 ∧ Φ .non (m ++ ts)) := by
  intro B F0 ρ σ F H i m a l vs Φ Q R e1 e2 tv hp k
  obtain ⟨ts, rfl, hl, hp⟩ := hp
  obtain ⟨v, rfl, b, ys, rfl, h4, h5⟩ := tvl1 tv
  obtain ⟨xs, h2, h3⟩ := own_at R e1 e2
  have := h3.length
  have := h5.length
  have := sl16
  exact rSM.of mt_extend ⟨a, b, xs, ys, rfl, rfl, h2, R.fh _ _ h4, by omega, k .non _ _ _ (R.mut e1 e2 (TvL.app h3 h5)) rfl hp⟩
theorem mq_pop : MutQ X W "list.pop" (fun m l Φ => (∃ t, l = [] ∧ m[m.length - 1]? = some t ∧ Φ t m.dropLast) ∨ ∃ (j : Int) (k : Nat) (t : T), l = [.int j] ∧ j = (k : Int) ∧ k < 16000000 ∧ m[k]? = some t ∧ Φ t (m.eraseIdx k)) := by
  intro B F0 ρ σ F H i m a l vs Φ Q R e1 e2 tv hp k
  obtain ⟨xs, h2, h3⟩ := own_at R e1 e2
  have ln := h3.length
  rcases hp with ⟨t, rfl, ht, hp⟩ | ⟨j, kk, t, rfl, rfl, hk, ht, hp⟩
  · obtain ⟨v, h4, h5⟩ := h3.get ht
    rw [show vs = [] from tv]
    have e : xs.dropLast = xs.take (xs.length - 1) := List.dropLast_eq_take
    have e' : m.dropLast = m.take (m.length - 1) := List.dropLast_eq_take
    refine rSM.of mt_pop ⟨a, xs, v, rfl, rfl, h2, by rw [ln]; exact h4, k _ _ _ _ (R.mut e1 e2 ?_) h5 hp⟩
    rw [e, e', ln]
    exact h3.take _
  · obtain ⟨v, rfl, h1⟩ := tvl1 tv
    obtain ⟨w, h4, h5⟩ := h3.get ht
    have hlt := (List.getElem?_eq_some_iff.mp h4).1
    refine rSM.of mt_popAt ⟨a, xs, kk, kk, w, rfl, by rw [show v = _ from h1], h2, by omega, by omega, ?_, h4, k _ _ _ _ (R.mut e1 e2 (h3.eraseIdx kk)) h5 hp⟩
    rw [PySem.seqIndex_of (by omega) (by omega), Int.toNat_natCast]
/-! texts -/
theorem me_join : MetQ X W "str.join" (fun t l Φ => ∃ (a : Str) (ys : List Str), t = .str a ∧ (l = [.lst (ys.map T.str)] ∨ l = [.tup (ys.map T.str)]) ∧ (ys.map (·.length)).sum + ys.length * a.length ≤ 16777216 ∧ Φ (.str (Txt.join a ys)) false) := by
  intro B F0 ρ σ F H t x l vs Φ Q R rx tv hp k
  obtain ⟨a, ys, rfl, hl, hz, hp⟩ := hp
  rw [show x = .str a from rx]
  have fin := k _ false _ F H R (Le.refl _) VR.str hp
  rcases hl with rfl | rfl
  · obtain ⟨v, rfl, b, xs, rfl, h2, h3⟩ := tvl1 tv
    rw [TvL.strs ys rfl h3] at h2
    exact rSM.of mt_join ⟨a, b, ys, rfl, rfl, .inl (.of (R.fh _ _ h2)), hz, fin⟩
  · obtain ⟨v, rfl, b, xs, rfl, h2, h3⟩ := tvl1 tv
    rw [TvL.strs ys rfl h3] at h2
    exact rSM.of mt_join ⟨a, b, ys, rfl, rfl, .inr (sqt_le R.fh h2), hz, fin⟩
theorem me_isalnum : MetQ X W "str.isalnum" (fun t l Φ => ∃ a : Str, t = .str a ∧ l = [] ∧ Φ (.bl (Txt.isalnum a)) false) := by
  intro B F0 ρ σ F H t x l vs Φ Q R rx tv hp k
  obtain ⟨a, rfl, rfl, hp⟩ := hp
  rw [show x = .str a from rx, show vs = [] from tv]
  exact rSM.of mt_isalnum ⟨a, rfl, rfl, trivial, k _ false _ F H R (Le.refl _) VR.bl hp⟩
theorem me_count : MetQ X W "str.count" (fun t l Φ => ∃ a b : Str, t = .str a ∧ l = [.str b] ∧ Φ (.int (Txt.count a b)) false) := by
  intro B F0 ρ σ F H t x l vs Φ Q R rx tv hp k
  obtain ⟨a, b, rfl, rfl, hp⟩ := hp
  obtain ⟨v, rfl, h1⟩ := tvl1 tv
  rw [show x = .str a from rx, show v = .str b from h1]
  exact rSM.of mt_count ⟨a, b, rfl, rfl, k _ false _ F H R (Le.refl _) VR.int hp⟩
theorem me_index (hu : X.A.units + 65 < cLine) : MetQ X W "list.index" (fun t l Φ => ∃ (ts : List T) (y z : T) (j : Nat), t = .lst ts ∧ l = [y] ∧ T.cmp (.lst ts) = true ∧ y.cmp = true ∧ ts[j]? = some z ∧ T.eqv z y = true ∧ (∀ (m : Nat) z', m < j → ts[m]? = some z' → T.eqv z' y = false) ∧ Φ (.int (j : Nat)) false) := by
  intro B F0 ρ σ F H t x l vs Φ Q R rx tv hp k
  obtain ⟨ts, y, z, j, rfl, rfl, c1, c2, h1, h2, h3, hp⟩ := hp
  obtain ⟨v, rfl, h4⟩ := tvl1 tv
  obtain ⟨a, xs, rfl, h5, h6⟩ := rx
  obtain ⟨n1, s1⟩ := cmp_parts c1
  obtain ⟨n2, s2⟩ := cmp_parts c2
  have gp : ∀ (ts : List T) (m : Nat), (T.pdL ts)[m]? = ts[m]?.map T.pd := fun ts => by
    induction ts with
    | nil => intro m; rfl
    | cons t ts ih =>
      intro m
      cases m with
      | zero => rfl
      | succ m => exact ih m
  refine rSM.of (mt_indexD hu) ⟨a, v, _, T.pdL ts, j, T.pd z, rfl, rfl, .lst (.of h5) (TvL.dp ts xs n1 (TvL.le R.fh _ _ h6)), Tv.dp y v n2 (Tv.le R.fh _ _ h4), s1, s2, ?_, h2, fun m z' hm hz => ?_, k _ false _ F H R (Le.refl _) VR.int hp⟩
  · rw [gp, h1]
    rfl
  · rw [gp] at hz
    cases w : ts[m]? with
    | none => rw [w] at hz; cases hz
    | some u =>
      rw [w] at hz
      obtain rfl := Option.some.inj hz
      exact h3 m u hm w
end
end Y

namespace Y
open PySem PySem.Spec PyProof.Rows L2 RT RZ
/-! ### words of the reading, for simp -/
section
variable {i j : Int} {a b : Str} {c e : Bool} {l m : List T} {t u : T}
theorem eq_ii : T.eqv (.int i) (.int j) = decide (i = j) := by
  show (i == j) = _
  rw [Bool.eq_iff_iff]; simp
theorem eq_ss : T.eqv (.str a) (.str b) = decide (a = b) := by
  show (a == b) = _
  rw [Bool.eq_iff_iff]; simp
theorem eq_nn : T.eqv .non .non = true := rfl
theorem eq_bb : T.eqv (.bl c) (.bl e) = (c == e) := rfl
theorem eq_st : T.eqv (.str a) (.tup l) = false := rfl
theorem eq_ts : T.eqv (.tup l) (.str a) = false := rfl
theorem eq_si : T.eqv (.str a) (.int i) = false := rfl
theorem eq_is : T.eqv (.int i) (.str a) = false := rfl
theorem eq_it : T.eqv (.int i) (.tup l) = false := rfl
theorem eq_ti : T.eqv (.tup l) (.int i) = false := rfl
theorem cmp_i : T.cmp (.int i) = true := rfl
theorem sc_i : T.sc (.int i) (.int j) = true := rfl
theorem sc_s : T.sc (.str a) (.str b) = true := rfl
theorem sc_b : T.sc (.bl c) (.bl e) = true := rfl
theorem sc_n : T.sc .non .non = true := rfl
theorem cmp_b : T.cmp (.bl c) = true := rfl
theorem cmp_n : T.cmp .non = true := rfl
theorem flat_i : T.flat (.int i) = true := rfl
theorem flat_s : T.flat (.str a) = true := rfl
theorem flat_b : T.flat (.bl c) = true := rfl
theorem flat_n : T.flat .non = true := rfl
theorem tru_n : T.tru .non = some false := rfl
theorem tru_b : T.tru (.bl c) = some c := rfl
theorem tru_i : T.tru (.int i) = some (i != 0) := rfl
theorem tru_t : T.tru (.tup l) = some (!l.isEmpty) := rfl
theorem tru_l : T.tru (.lst l) = some (!l.isEmpty) := rfl
theorem items_t : T.items (.tup l) = some l := rfl
theorem items_l : T.items (.lst l) = some l := rfl
theorem len_t : T.len (.tup l) = some l.length := rfl
theorem len_w : T.len (.wtp l) = some l.length := rfl
theorem len_l : T.len (.lst l) = some l.length := rfl
theorem iter_t : T.iter (.tup l) = some l := rfl
theorem iter_l : T.iter (.lst l) = some l := rfl
theorem iter_s : T.iter (.str a) = some (a.cps.toList.map fun c => .str ⟨#[c]⟩) := rfl
theorem len_s (h : a.length ≤ 16000000) : T.len (.str a) = some a.length := if_pos h
theorem isN_n : T.isN .non = true := rfl
theorem isN_i : T.isN (.int i) = false := rfl
theorem isN_s : T.isN (.str a) = false := rfl
theorem isN_t : T.isN (.tup l) = false := rfl
theorem isN_l : T.isN (.lst l) = false := rfl
theorem isN_b : T.isN (.bl c) = false := rfl
theorem at_0 : atI (t :: l) 0 = some t := atI_nat (j := 0) rfl
theorem at_1 : atI (t :: u :: l) 1 = some u := atI_nat (j := 1) rfl
theorem at_2 {v : T} : atI (t :: u :: v :: l) 2 = some v := atI_nat (j := 2) rfl
theorem at_3 {v w : T} : atI (t :: u :: v :: w :: l) 3 = some w := atI_nat (j := 3) rfl
theorem _root_.L2.Room.units65 {k : Nat} {A : Around} (r : Room k A) : A.units + 65 < cLine := by have := r.un; omega
section
variable {a0 a1 a2 a3 a4 a5 a6 a7 a8 a9 a10 a11 a12 a13 : Sl} {r : PS'} {ΦE : T → Bool → PS' → Prop} {ΦR : Rdr → PS' → Prop} {Δ : PEnds}
theorem pV_f0 : pV 0 (Sl.fz t :: r) ΦE = ΦE t false (Sl.fz t :: r) := rfl
theorem pV_o0 : pV 0 (Sl.own t :: r) ΦE = ΦE t false (Sl.fz t :: r) := rfl
theorem pRV_f0 : pRV 0 (Sl.fz t :: r) ΦR = ΦR (.fz t) (Sl.fz t :: r) := rfl
theorem pRV_o0 : pRV 0 (Sl.own t :: r) ΦR = ΦR (.sl 0) (Sl.own t :: r) := rfl
theorem lk_f0 : Rdr.look (.sl 0) (Sl.fz t :: r) = some t := rfl
theorem lk_o0 : Rdr.look (.sl 0) (Sl.own t :: r) = some t := rfl
theorem sRV_f0 : sRetV 0 Δ (Sl.fz t :: r) = Δ.rt t false := rfl
theorem sRV_o0 : sRetV 0 Δ (Sl.own t :: r) = Δ.rt t true := rfl
theorem pV_f1 : pV 1 (a0 :: Sl.fz t :: r) ΦE = ΦE t false (a0 :: Sl.fz t :: r) := rfl
theorem pV_o1 : pV 1 (a0 :: Sl.own t :: r) ΦE = ΦE t false (a0 :: Sl.fz t :: r) := rfl
theorem pRV_f1 : pRV 1 (a0 :: Sl.fz t :: r) ΦR = ΦR (.fz t) (a0 :: Sl.fz t :: r) := rfl
theorem pRV_o1 : pRV 1 (a0 :: Sl.own t :: r) ΦR = ΦR (.sl 1) (a0 :: Sl.own t :: r) := rfl
theorem lk_f1 : Rdr.look (.sl 1) (a0 :: Sl.fz t :: r) = some t := rfl
theorem lk_o1 : Rdr.look (.sl 1) (a0 :: Sl.own t :: r) = some t := rfl
theorem sRV_f1 : sRetV 1 Δ (a0 :: Sl.fz t :: r) = Δ.rt t false := rfl
theorem sRV_o1 : sRetV 1 Δ (a0 :: Sl.own t :: r) = Δ.rt t true := rfl
theorem pV_f2 : pV 2 (a0 :: a1 :: Sl.fz t :: r) ΦE = ΦE t false (a0 :: a1 :: Sl.fz t :: r) := rfl
theorem pV_o2 : pV 2 (a0 :: a1 :: Sl.own t :: r) ΦE = ΦE t false (a0 :: a1 :: Sl.fz t :: r) := rfl
theorem pRV_f2 : pRV 2 (a0 :: a1 :: Sl.fz t :: r) ΦR = ΦR (.fz t) (a0 :: a1 :: Sl.fz t :: r) := rfl
theorem pRV_o2 : pRV 2 (a0 :: a1 :: Sl.own t :: r) ΦR = ΦR (.sl 2) (a0 :: a1 :: Sl.own t :: r) := rfl
theorem lk_f2 : Rdr.look (.sl 2) (a0 :: a1 :: Sl.fz t :: r) = some t := rfl
theorem lk_o2 : Rdr.look (.sl 2) (a0 :: a1 :: Sl.own t :: r) = some t := rfl
theorem sRV_f2 : sRetV 2 Δ (a0 :: a1 :: Sl.fz t :: r) = Δ.rt t false := rfl
theorem sRV_o2 : sRetV 2 Δ (a0 :: a1 :: Sl.own t :: r) = Δ.rt t true := rfl
theorem pV_f3 : pV 3 (a0 :: a1 :: a2 :: Sl.fz t :: r) ΦE = ΦE t false (a0 :: a1 :: a2 :: Sl.fz t :: r) := rfl
theorem pV_o3 : pV 3 (a0 :: a1 :: a2 :: Sl.own t :: r) ΦE = ΦE t false (a0 :: a1 :: a2 :: Sl.fz t :: r) := rfl
theorem pRV_f3 : pRV 3 (a0 :: a1 :: a2 :: Sl.fz t :: r) ΦR = ΦR (.fz t) (a0 :: a1 :: a2 :: Sl.fz t :: r) := rfl
theorem pRV_o3 : pRV 3 (a0 :: a1 :: a2 :: Sl.own t :: r) ΦR = ΦR (.sl 3) (a0 :: a1 :: a2 :: Sl.own t :: r) := rfl
theorem lk_f3 : Rdr.look (.sl 3) (a0 :: a1 :: a2 :: Sl.fz t :: r) = some t := rfl
theorem lk_o3 : Rdr.look (.sl 3) (a0 :: a1 :: a2 :: Sl.own t :: r) = some t := rfl
theorem sRV_f3 : sRetV 3 Δ (a0 :: a1 :: a2 :: Sl.fz t :: r) = Δ.rt t false := rfl
theorem sRV_o3 : sRetV 3 Δ (a0 :: a1 :: a2 :: Sl.own t :: r) = Δ.rt t true := rfl
theorem pV_f4 : pV 4 (a0 :: a1 :: a2 :: a3 :: Sl.fz t :: r) ΦE = ΦE t false (a0 :: a1 :: a2 :: a3 :: Sl.fz t :: r) := rfl
theorem pV_o4 : pV 4 (a0 :: a1 :: a2 :: a3 :: Sl.own t :: r) ΦE = ΦE t false (a0 :: a1 :: a2 :: a3 :: Sl.fz t :: r) := rfl
theorem pRV_f4 : pRV 4 (a0 :: a1 :: a2 :: a3 :: Sl.fz t :: r) ΦR = ΦR (.fz t) (a0 :: a1 :: a2 :: a3 :: Sl.fz t :: r) := rfl
theorem pRV_o4 : pRV 4 (a0 :: a1 :: a2 :: a3 :: Sl.own t :: r) ΦR = ΦR (.sl 4) (a0 :: a1 :: a2 :: a3 :: Sl.own t :: r) := rfl
theorem lk_f4 : Rdr.look (.sl 4) (a0 :: a1 :: a2 :: a3 :: Sl.fz t :: r) = some t := rfl
theorem lk_o4 : Rdr.look (.sl 4) (a0 :: a1 :: a2 :: a3 :: Sl.own t :: r) = some t := rfl
theorem sRV_f4 : sRetV 4 Δ (a0 :: a1 :: a2 :: a3 :: Sl.fz t :: r) = Δ.rt t false := rfl
theorem sRV_o4 : sRetV 4 Δ (a0 :: a1 :: a2 :: a3 :: Sl.own t :: r) = Δ.rt t true := rfl
theorem pV_f5 : pV 5 (a0 :: a1 :: a2 :: a3 :: a4 :: Sl.fz t :: r) ΦE = ΦE t false (a0 :: a1 :: a2 :: a3 :: a4 :: Sl.fz t :: r) := rfl
theorem pV_o5 : pV 5 (a0 :: a1 :: a2 :: a3 :: a4 :: Sl.own t :: r) ΦE = ΦE t false (a0 :: a1 :: a2 :: a3 :: a4 :: Sl.fz t :: r) := rfl
theorem pRV_f5 : pRV 5 (a0 :: a1 :: a2 :: a3 :: a4 :: Sl.fz t :: r) ΦR = ΦR (.fz t) (a0 :: a1 :: a2 :: a3 :: a4 :: Sl.fz t :: r) := rfl
theorem pRV_o5 : pRV 5 (a0 :: a1 :: a2 :: a3 :: a4 :: Sl.own t :: r) ΦR = ΦR (.sl 5) (a0 :: a1 :: a2 :: a3 :: a4 :: Sl.own t :: r) := rfl
theorem lk_f5 : Rdr.look (.sl 5) (a0 :: a1 :: a2 :: a3 :: a4 :: Sl.fz t :: r) = some t := rfl
theorem lk_o5 : Rdr.look (.sl 5) (a0 :: a1 :: a2 :: a3 :: a4 :: Sl.own t :: r) = some t := rfl
theorem sRV_f5 : sRetV 5 Δ (a0 :: a1 :: a2 :: a3 :: a4 :: Sl.fz t :: r) = Δ.rt t false := rfl
theorem sRV_o5 : sRetV 5 Δ (a0 :: a1 :: a2 :: a3 :: a4 :: Sl.own t :: r) = Δ.rt t true := rfl
theorem pV_f6 : pV 6 (a0 :: a1 :: a2 :: a3 :: a4 :: a5 :: Sl.fz t :: r) ΦE = ΦE t false (a0 :: a1 :: a2 :: a3 :: a4 :: a5 :: Sl.fz t :: r) := rfl
theorem pV_o6 : pV 6 (a0 :: a1 :: a2 :: a3 :: a4 :: a5 :: Sl.own t :: r) ΦE = ΦE t false (a0 :: a1 :: a2 :: a3 :: a4 :: a5 :: Sl.fz t :: r) := rfl
theorem pRV_f6 : pRV 6 (a0 :: a1 :: a2 :: a3 :: a4 :: a5 :: Sl.fz t :: r) ΦR = ΦR (.fz t) (a0 :: a1 :: a2 :: a3 :: a4 :: a5 :: Sl.fz t :: r) := rfl
theorem pRV_o6 : pRV 6 (a0 :: a1 :: a2 :: a3 :: a4 :: a5 :: Sl.own t :: r) ΦR = ΦR (.sl 6) (a0 :: a1 :: a2 :: a3 :: a4 :: a5 :: Sl.own t :: r) := rfl
theorem lk_f6 : Rdr.look (.sl 6) (a0 :: a1 :: a2 :: a3 :: a4 :: a5 :: Sl.fz t :: r) = some t := rfl
theorem lk_o6 : Rdr.look (.sl 6) (a0 :: a1 :: a2 :: a3 :: a4 :: a5 :: Sl.own t :: r) = some t := rfl
theorem sRV_f6 : sRetV 6 Δ (a0 :: a1 :: a2 :: a3 :: a4 :: a5 :: Sl.fz t :: r) = Δ.rt t false := rfl
theorem sRV_o6 : sRetV 6 Δ (a0 :: a1 :: a2 :: a3 :: a4 :: a5 :: Sl.own t :: r) = Δ.rt t true := rfl
theorem pV_f7 : pV 7 (a0 :: a1 :: a2 :: a3 :: a4 :: a5 :: a6 :: Sl.fz t :: r) ΦE = ΦE t false (a0 :: a1 :: a2 :: a3 :: a4 :: a5 :: a6 :: Sl.fz t :: r) := rfl
theorem pV_o7 : pV 7 (a0 :: a1 :: a2 :: a3 :: a4 :: a5 :: a6 :: Sl.own t :: r) ΦE = ΦE t false (a0 :: a1 :: a2 :: a3 :: a4 :: a5 :: a6 :: Sl.fz t :: r) := rfl
theorem pRV_f7 : pRV 7 (a0 :: a1 :: a2 :: a3 :: a4 :: a5 :: a6 :: Sl.fz t :: r) ΦR = ΦR (.fz t) (a0 :: a1 :: a2 :: a3 :: a4 :: a5 :: a6 :: Sl.fz t :: r) := rfl
theorem pRV_o7 : pRV 7 (a0 :: a1 :: a2 :: a3 :: a4 :: a5 :: a6 :: Sl.own t :: r) ΦR = ΦR (.sl 7) (a0 :: a1 :: a2 :: a3 :: a4 :: a5 :: a6 :: Sl.own t :: r) := rfl
theorem lk_f7 : Rdr.look (.sl 7) (a0 :: a1 :: a2 :: a3 :: a4 :: a5 :: a6 :: Sl.fz t :: r) = some t := rfl
theorem lk_o7 : Rdr.look (.sl 7) (a0 :: a1 :: a2 :: a3 :: a4 :: a5 :: a6 :: Sl.own t :: r) = some t := rfl
theorem sRV_f7 : sRetV 7 Δ (a0 :: a1 :: a2 :: a3 :: a4 :: a5 :: a6 :: Sl.fz t :: r) = Δ.rt t false := rfl
theorem sRV_o7 : sRetV 7 Δ (a0 :: a1 :: a2 :: a3 :: a4 :: a5 :: a6 :: Sl.own t :: r) = Δ.rt t true := rfl
theorem pV_f8 : pV 8 (a0 :: a1 :: a2 :: a3 :: a4 :: a5 :: a6 :: a7 :: Sl.fz t :: r) ΦE = ΦE t false (a0 :: a1 :: a2 :: a3 :: a4 :: a5 :: a6 :: a7 :: Sl.fz t :: r) := rfl
theorem pV_o8 : pV 8 (a0 :: a1 :: a2 :: a3 :: a4 :: a5 :: a6 :: a7 :: Sl.own t :: r) ΦE = ΦE t false (a0 :: a1 :: a2 :: a3 :: a4 :: a5 :: a6 :: a7 :: Sl.fz t :: r) := rfl
theorem pRV_f8 : pRV 8 (a0 :: a1 :: a2 :: a3 :: a4 :: a5 :: a6 :: a7 :: Sl.fz t :: r) ΦR = ΦR (.fz t) (a0 :: a1 :: a2 :: a3 :: a4 :: a5 :: a6 :: a7 :: Sl.fz t :: r) := rfl
theorem pRV_o8 : pRV 8 (a0 :: a1 :: a2 :: a3 :: a4 :: a5 :: a6 :: a7 :: Sl.own t :: r) ΦR = ΦR (.sl 8) (a0 :: a1 :: a2 :: a3 :: a4 :: a5 :: a6 :: a7 :: Sl.own t :: r) := rfl
theorem lk_f8 : Rdr.look (.sl 8) (a0 :: a1 :: a2 :: a3 :: a4 :: a5 :: a6 :: a7 :: Sl.fz t :: r) = some t := rfl
theorem lk_o8 : Rdr.look (.sl 8) (a0 :: a1 :: a2 :: a3 :: a4 :: a5 :: a6 :: a7 :: Sl.own t :: r) = some t := rfl
theorem sRV_f8 : sRetV 8 Δ (a0 :: a1 :: a2 :: a3 :: a4 :: a5 :: a6 :: a7 :: Sl.fz t :: r) = Δ.rt t false := rfl
theorem sRV_o8 : sRetV 8 Δ (a0 :: a1 :: a2 :: a3 :: a4 :: a5 :: a6 :: a7 :: Sl.own t :: r) = Δ.rt t true := rfl
theorem pV_f9 : pV 9 (a0 :: a1 :: a2 :: a3 :: a4 :: a5 :: a6 :: a7 :: a8 :: Sl.fz t :: r) ΦE = ΦE t false (a0 :: a1 :: a2 :: a3 :: a4 :: a5 :: a6 :: a7 :: a8 :: Sl.fz t :: r) := rfl
theorem pV_o9 : pV 9 (a0 :: a1 :: a2 :: a3 :: a4 :: a5 :: a6 :: a7 :: a8 :: Sl.own t :: r) ΦE = ΦE t false (a0 :: a1 :: a2 :: a3 :: a4 :: a5 :: a6 :: a7 :: a8 :: Sl.fz t :: r) := rfl
theorem pRV_f9 : pRV 9 (a0 :: a1 :: a2 :: a3 :: a4 :: a5 :: a6 :: a7 :: a8 :: Sl.fz t :: r) ΦR = ΦR (.fz t) (a0 :: a1 :: a2 :: a3 :: a4 :: a5 :: a6 :: a7 :: a8 :: Sl.fz t :: r) := rfl
theorem pRV_o9 : pRV 9 (a0 :: a1 :: a2 :: a3 :: a4 :: a5 :: a6 :: a7 :: a8 :: Sl.own t :: r) ΦR = ΦR (.sl 9) (a0 :: a1 :: a2 :: a3 :: a4 :: a5 :: a6 :: a7 :: a8 :: Sl.own t :: r) := rfl
theorem lk_f9 : Rdr.look (.sl 9) (a0 :: a1 :: a2 :: a3 :: a4 :: a5 :: a6 :: a7 :: a8 :: Sl.fz t :: r) = some t := rfl
theorem lk_o9 : Rdr.look (.sl 9) (a0 :: a1 :: a2 :: a3 :: a4 :: a5 :: a6 :: a7 :: a8 :: Sl.own t :: r) = some t := rfl
theorem sRV_f9 : sRetV 9 Δ (a0 :: a1 :: a2 :: a3 :: a4 :: a5 :: a6 :: a7 :: a8 :: Sl.fz t :: r) = Δ.rt t false := rfl
theorem sRV_o9 : sRetV 9 Δ (a0 :: a1 :: a2 :: a3 :: a4 :: a5 :: a6 :: a7 :: a8 :: Sl.own t :: r) = Δ.rt t true := rfl
theorem pV_f10 : pV 10 (a0 :: a1 :: a2 :: a3 :: a4 :: a5 :: a6 :: a7 :: a8 :: a9 :: Sl.fz t :: r) ΦE = ΦE t false (a0 :: a1 :: a2 :: a3 :: a4 :: a5 :: a6 :: a7 :: a8 :: a9 :: Sl.fz t :: r) := rfl
theorem pV_o10 : pV 10 (a0 :: a1 :: a2 :: a3 :: a4 :: a5 :: a6 :: a7 :: a8 :: a9 :: Sl.own t :: r) ΦE = ΦE t false (a0 :: a1 :: a2 :: a3 :: a4 :: a5 :: a6 :: a7 :: a8 :: a9 :: Sl.fz t :: r) := rfl
theorem pRV_f10 : pRV 10 (a0 :: a1 :: a2 :: a3 :: a4 :: a5 :: a6 :: a7 :: a8 :: a9 :: Sl.fz t :: r) ΦR = ΦR (.fz t) (a0 :: a1 :: a2 :: a3 :: a4 :: a5 :: a6 :: a7 :: a8 :: a9 :: Sl.fz t :: r) := rfl
theorem pRV_o10 : pRV 10 (a0 :: a1 :: a2 :: a3 :: a4 :: a5 :: a6 :: a7 :: a8 :: a9 :: Sl.own t :: r) ΦR = ΦR (.sl 10) (a0 :: a1 :: a2 :: a3 :: a4 :: a5 :: a6 :: a7 :: a8 :: a9 :: Sl.own t :: r) := rfl
theorem lk_f10 : Rdr.look (.sl 10) (a0 :: a1 :: a2 :: a3 :: a4 :: a5 :: a6 :: a7 :: a8 :: a9 :: Sl.fz t :: r) = some t := rfl
theorem lk_o10 : Rdr.look (.sl 10) (a0 :: a1 :: a2 :: a3 :: a4 :: a5 :: a6 :: a7 :: a8 :: a9 :: Sl.own t :: r) = some t := rfl
theorem sRV_f10 : sRetV 10 Δ (a0 :: a1 :: a2 :: a3 :: a4 :: a5 :: a6 :: a7 :: a8 :: a9 :: Sl.fz t :: r) = Δ.rt t false := rfl
theorem sRV_o10 : sRetV 10 Δ (a0 :: a1 :: a2 :: a3 :: a4 :: a5 :: a6 :: a7 :: a8 :: a9 :: Sl.own t :: r) = Δ.rt t true := rfl
theorem pV_f11 : pV 11 (a0 :: a1 :: a2 :: a3 :: a4 :: a5 :: a6 :: a7 :: a8 :: a9 :: a10 :: Sl.fz t :: r) ΦE = ΦE t false (a0 :: a1 :: a2 :: a3 :: a4 :: a5 :: a6 :: a7 :: a8 :: a9 :: a10 :: Sl.fz t :: r) := rfl
theorem pV_o11 : pV 11 (a0 :: a1 :: a2 :: a3 :: a4 :: a5 :: a6 :: a7 :: a8 :: a9 :: a10 :: Sl.own t :: r) ΦE = ΦE t false (a0 :: a1 :: a2 :: a3 :: a4 :: a5 :: a6 :: a7 :: a8 :: a9 :: a10 :: Sl.fz t :: r) := rfl
theorem pRV_f11 : pRV 11 (a0 :: a1 :: a2 :: a3 :: a4 :: a5 :: a6 :: a7 :: a8 :: a9 :: a10 :: Sl.fz t :: r) ΦR = ΦR (.fz t) (a0 :: a1 :: a2 :: a3 :: a4 :: a5 :: a6 :: a7 :: a8 :: a9 :: a10 :: Sl.fz t :: r) := rfl
theorem pRV_o11 : pRV 11 (a0 :: a1 :: a2 :: a3 :: a4 :: a5 :: a6 :: a7 :: a8 :: a9 :: a10 :: Sl.own t :: r) ΦR = ΦR (.sl 11) (a0 :: a1 :: a2 :: a3 :: a4 :: a5 :: a6 :: a7 :: a8 :: a9 :: a10 :: Sl.own t :: r) := rfl
theorem lk_f11 : Rdr.look (.sl 11) (a0 :: a1 :: a2 :: a3 :: a4 :: a5 :: a6 :: a7 :: a8 :: a9 :: a10 :: Sl.fz t :: r) = some t := rfl
theorem lk_o11 : Rdr.look (.sl 11) (a0 :: a1 :: a2 :: a3 :: a4 :: a5 :: a6 :: a7 :: a8 :: a9 :: a10 :: Sl.own t :: r) = some t := rfl
theorem sRV_f11 : sRetV 11 Δ (a0 :: a1 :: a2 :: a3 :: a4 :: a5 :: a6 :: a7 :: a8 :: a9 :: a10 :: Sl.fz t :: r) = Δ.rt t false := rfl
theorem sRV_o11 : sRetV 11 Δ (a0 :: a1 :: a2 :: a3 :: a4 :: a5 :: a6 :: a7 :: a8 :: a9 :: a10 :: Sl.own t :: r) = Δ.rt t true := rfl
theorem pV_f12 : pV 12 (a0 :: a1 :: a2 :: a3 :: a4 :: a5 :: a6 :: a7 :: a8 :: a9 :: a10 :: a11 :: Sl.fz t :: r) ΦE = ΦE t false (a0 :: a1 :: a2 :: a3 :: a4 :: a5 :: a6 :: a7 :: a8 :: a9 :: a10 :: a11 :: Sl.fz t :: r) := rfl
theorem pV_o12 : pV 12 (a0 :: a1 :: a2 :: a3 :: a4 :: a5 :: a6 :: a7 :: a8 :: a9 :: a10 :: a11 :: Sl.own t :: r) ΦE = ΦE t false (a0 :: a1 :: a2 :: a3 :: a4 :: a5 :: a6 :: a7 :: a8 :: a9 :: a10 :: a11 :: Sl.fz t :: r) := rfl
theorem pRV_f12 : pRV 12 (a0 :: a1 :: a2 :: a3 :: a4 :: a5 :: a6 :: a7 :: a8 :: a9 :: a10 :: a11 :: Sl.fz t :: r) ΦR = ΦR (.fz t) (a0 :: a1 :: a2 :: a3 :: a4 :: a5 :: a6 :: a7 :: a8 :: a9 :: a10 :: a11 :: Sl.fz t :: r) := rfl
theorem pRV_o12 : pRV 12 (a0 :: a1 :: a2 :: a3 :: a4 :: a5 :: a6 :: a7 :: a8 :: a9 :: a10 :: a11 :: Sl.own t :: r) ΦR = ΦR (.sl 12) (a0 :: a1 :: a2 :: a3 :: a4 :: a5 :: a6 :: a7 :: a8 :: a9 :: a10 :: a11 :: Sl.own t :: r) := rfl
theorem lk_f12 : Rdr.look (.sl 12) (a0 :: a1 :: a2 :: a3 :: a4 :: a5 :: a6 :: a7 :: a8 :: a9 :: a10 :: a11 :: Sl.fz t :: r) = some t := rfl
theorem lk_o12 : Rdr.look (.sl 12) (a0 :: a1 :: a2 :: a3 :: a4 :: a5 :: a6 :: a7 :: a8 :: a9 :: a10 :: a11 :: Sl.own t :: r) = some t := rfl
theorem sRV_f12 : sRetV 12 Δ (a0 :: a1 :: a2 :: a3 :: a4 :: a5 :: a6 :: a7 :: a8 :: a9 :: a10 :: a11 :: Sl.fz t :: r) = Δ.rt t false := rfl
theorem sRV_o12 : sRetV 12 Δ (a0 :: a1 :: a2 :: a3 :: a4 :: a5 :: a6 :: a7 :: a8 :: a9 :: a10 :: a11 :: Sl.own t :: r) = Δ.rt t true := rfl
theorem pV_f13 : pV 13 (a0 :: a1 :: a2 :: a3 :: a4 :: a5 :: a6 :: a7 :: a8 :: a9 :: a10 :: a11 :: a12 :: Sl.fz t :: r) ΦE = ΦE t false (a0 :: a1 :: a2 :: a3 :: a4 :: a5 :: a6 :: a7 :: a8 :: a9 :: a10 :: a11 :: a12 :: Sl.fz t :: r) := rfl
theorem pV_o13 : pV 13 (a0 :: a1 :: a2 :: a3 :: a4 :: a5 :: a6 :: a7 :: a8 :: a9 :: a10 :: a11 :: a12 :: Sl.own t :: r) ΦE = ΦE t false (a0 :: a1 :: a2 :: a3 :: a4 :: a5 :: a6 :: a7 :: a8 :: a9 :: a10 :: a11 :: a12 :: Sl.fz t :: r) := rfl
theorem pRV_f13 : pRV 13 (a0 :: a1 :: a2 :: a3 :: a4 :: a5 :: a6 :: a7 :: a8 :: a9 :: a10 :: a11 :: a12 :: Sl.fz t :: r) ΦR = ΦR (.fz t) (a0 :: a1 :: a2 :: a3 :: a4 :: a5 :: a6 :: a7 :: a8 :: a9 :: a10 :: a11 :: a12 :: Sl.fz t :: r) := rfl
theorem pRV_o13 : pRV 13 (a0 :: a1 :: a2 :: a3 :: a4 :: a5 :: a6 :: a7 :: a8 :: a9 :: a10 :: a11 :: a12 :: Sl.own t :: r) ΦR = ΦR (.sl 13) (a0 :: a1 :: a2 :: a3 :: a4 :: a5 :: a6 :: a7 :: a8 :: a9 :: a10 :: a11 :: a12 :: Sl.own t :: r) := rfl
theorem lk_f13 : Rdr.look (.sl 13) (a0 :: a1 :: a2 :: a3 :: a4 :: a5 :: a6 :: a7 :: a8 :: a9 :: a10 :: a11 :: a12 :: Sl.fz t :: r) = some t := rfl
theorem lk_o13 : Rdr.look (.sl 13) (a0 :: a1 :: a2 :: a3 :: a4 :: a5 :: a6 :: a7 :: a8 :: a9 :: a10 :: a11 :: a12 :: Sl.own t :: r) = some t := rfl
theorem sRV_f13 : sRetV 13 Δ (a0 :: a1 :: a2 :: a3 :: a4 :: a5 :: a6 :: a7 :: a8 :: a9 :: a10 :: a11 :: a12 :: Sl.fz t :: r) = Δ.rt t false := rfl
theorem sRV_o13 : sRetV 13 Δ (a0 :: a1 :: a2 :: a3 :: a4 :: a5 :: a6 :: a7 :: a8 :: a9 :: a10 :: a11 :: a12 :: Sl.own t :: r) = Δ.rt t true := rfl
variable {ΦT : T → Prop} {Ψ : T → Bool → Prop} {ΦL : List T → Prop} {ΦO : Option Int → Prop} {ΦS : PS' → Prop} {ρ : PS'} {g : PG'} {gs : PGs'} {lo hi : Option Int} {gc : Int → Int → Bool} {neg f : Bool}
theorem lk_fz : Rdr.look (.fz t) ρ = some t := rfl
theorem of_fn : Sl.of .non f = .fz .non := rfl
theorem of_fb : Sl.of (.bl c) f = .fz (.bl c) := rfl
theorem of_fi : Sl.of (.int i) f = .fz (.int i) := rfl
theorem of_fs : Sl.of (.str a) f = .fz (.str a) := rfl
theorem of_ft : Sl.of (.tup l) f = .fz (.tup l) := rfl
theorem of_fl : Sl.of (.lst l) false = .fz (.lst l) := rfl
theorem of_ol : Sl.of (.lst l) true = .ow l := rfl
theorem of_ff : Sl.of t false = .fz t := by cases t <;> rfl
theorem ad_i : PAdd (.int i) (.int j) Ψ = Ψ (.int (i + j)) false := rfl
theorem ad_s : PAdd (.str a) (.str b) Ψ = (a.length + b.length ≤ 16000000 ∧ Ψ (.str (a ++ b)) false) := rfl
theorem ad_l : PAdd (.lst l) (.lst m) Ψ = (l.length + m.length ≤ 16000000 ∧ Ψ (.lst (l ++ m)) true) := rfl
theorem ad_t : PAdd (.tup l) (.tup m) Ψ = (l.length + m.length ≤ 16000000 ∧ Ψ (.tup (l ++ m)) false) := rfl
theorem su_i : PSub (.int i) (.int j) Ψ = Ψ (.int (i - j)) false := rfl
theorem mu_i : PMul (.int i) (.int j) Ψ = ((CMul i j ∨ CMulX i j) ∧ Ψ (.int (i * j)) false) := rfl
theorem mu_l : PMul (.lst l) (.int j) Ψ = (-(2 ^ 63) ≤ j ∧ j < 2 ^ 63 ∧ l.length * j.toNat ≤ 16000000 ∧ Ψ (.lst (List.replicate j.toNat l).flatten) true) := rfl
theorem mo_i : PMod (.int i) (.int j) Ψ = (0 < j ∧ Ψ (.int (i % j)) false) := rfl
theorem fd_i : PFdiv (.int i) (.int j) Ψ = ((CDiv i j ∨ CDivW i j) ∧ Ψ (.int (i / j)) false) := rfl
theorem pw_i : PPow (.int i) (.int j) Ψ = (CPow i j ∧ Ψ (.int (i ^ j.toNat)) false) := rfl
theorem an_i : PAnd (.int i) (.int j) Ψ = Ψ (.int (Builtin.bitAnd i j)) false := rfl
theorem ci_i : PCmpI gc (.int i) (.int j) Ψ = Ψ (.bl (gc i j)) false := rfl
theorem is_n : PIs t .non Ψ = Ψ (.bl t.isN) false := rfl
theorem is_nn : PIsNot t .non Ψ = Ψ (.bl (!t.isN)) false := rfl
theorem in_t : PIn neg t (.tup l) Ψ = (t.flat = true ∧ l.all T.flat = true ∧ Ψ (.bl (if neg then !(l.any fun z => T.eqv z t) else l.any fun z => T.eqv z t)) false) := rfl
theorem in_l : PIn neg t (.lst l) Ψ = (((t.flat && l.all T.flat) || (t.cmp && T.cmp (.lst l))) = true ∧ Ψ (.bl (if neg then !(l.any fun z => T.eqv z t) else l.any fun z => T.eqv z t)) false) := rfl
theorem in_s : PIn neg t (.str a) Ψ = (∃ c, t = .str ⟨#[c]⟩ ∧ Ψ (.bl (if neg then !(decide (c ∈ a.cps.toList)) else decide (c ∈ a.cps.toList))) false) := rfl
theorem ix_l : PIx (.lst l) (.int i) ΦT = ∃ t, atI l i = some t ∧ ΦT t := rfl
theorem ix_t : PIx (.tup l) (.int i) ΦT = ∃ t, atI l i = some t ∧ ΦT t := rfl
theorem ix_s : PIx (.str a) (.int i) ΦT = (a.length ≤ 16000000 ∧ ∃ c, atI a.cps.toList i = some c ∧ ΦT (.str ⟨#[c]⟩)) := rfl
theorem sl_l : PSl (.lst l) lo hi Ψ = Ψ (.lst (cutT l lo hi)) true := rfl
theorem sl_t : PSl (.tup l) lo hi Ψ = Ψ (.tup (cutT l lo hi)) false := rfl
theorem sl_s : PSl (.str a) lo hi Ψ = (a.length ≤ 16000000 ∧ Ψ (.str (cutS a lo hi)) false) := rfl
theorem kn_i : KNeg (.int i) ΦT = ΦT (.int (-i)) := rfl
theorem kp_i : KPart (.int i) ΦO = ΦO (some i) := rfl
theorem kr1 : KRng1 (.int i) ΦL = (-(2 ^ 62) ≤ i ∧ i < 2 ^ 62 ∧ ΦL (rngT 0 i.toNat)) := rfl
theorem kr2 : KRng2 (.int i) (.int j) ΦL = ((-(2 ^ 62) ≤ i ∧ i < 2 ^ 62 ∧ -(2 ^ 62) ≤ j ∧ j < 2 ^ 62) ∧ ΦL (rngT i (j - i).toNat)) := rfl
theorem ke_l : KEnum (.lst l) ΦL = ΦL (l.mapIdx fun i t => .wtp [.int (i : Nat), t]) := rfl
theorem kz_l : KZip (.lst l) (.lst m) ΦL = ΦL (List.zipWith (fun x y => T.wtp [x, y]) l m) := rfl
theorem kz_t : KZip (.tup l) (.tup m) ΦL = ΦL (List.zipWith (fun x y => T.wtp [x, y]) l m) := rfl
theorem klr1 : KLR1 (.int i) ΦT = (RgOk 0 i ∧ ΦT (.lst (rngT 0 (i - 0).toNat))) := rfl
theorem klr2 : KLR2 (.int i) (.int j) ΦT = (RgOk i j ∧ ΦT (.lst (rngT i (j - i).toNat))) := rfl
theorem gt_e : gTp gs (.tup l) f ρ ΦS = gs l ρ ΦS := propext ⟨fun ⟨_, e, h⟩ => by rcases e with e | e <;> cases e; exact h, fun h => ⟨l, .inl rfl, h⟩⟩
theorem gt_w : gTp gs (.wtp l) f ρ ΦS = gs l ρ ΦS := propext ⟨fun ⟨_, e, h⟩ => by rcases e with e | e <;> cases e; exact h, fun h => ⟨l, .inr rfl, h⟩⟩
theorem gs_n : gsNil [] ρ ΦS = ΦS ρ := propext ⟨fun h => h.2, fun h => ⟨rfl, h⟩⟩
theorem gs_c : gsCons g gs (t :: l) ρ ΦS = g t false ρ fun ρ1 => gs l ρ1 ΦS := propext ⟨fun ⟨_, _, e, h⟩ => by cases e; exact h, fun h => ⟨t, l, rfl, h⟩⟩
end
theorem nc_0 : ((0 : Nat) : Int) = 0 := rfl
theorem nc_1 : ((1 : Nat) : Int) = 1 := rfl
theorem nc_2 : ((2 : Nat) : Int) = 2 := rfl
theorem nc_3 : ((3 : Nat) : Int) = 3 := rfl
theorem nc_4 : ((4 : Nat) : Int) = 4 := rfl
theorem nc_5 : ((5 : Nat) : Int) = 5 := rfl
theorem nc_6 : ((6 : Nat) : Int) = 6 := rfl
theorem nc_7 : ((7 : Nat) : Int) = 7 := rfl
theorem nc_8 : ((8 : Nat) : Int) = 8 := rfl
theorem nc_9 : ((9 : Nat) : Int) = 9 := rfl
theorem nc_10 : ((10 : Nat) : Int) = 10 := rfl
theorem nc_11 : ((11 : Nat) : Int) = 11 := rfl
theorem nc_12 : ((12 : Nat) : Int) = 12 := rfl
/-- is a value of a built-in type -/
def isB (ty n : String) : Bool := (kitB n ty).getD false
theorem kitN {K : PySem.W.Frag} {ty : String} (h : (["NoneType", "bool", "int", "str", "tuple", "list"].all fun n => (kitB n ty).isSome) = true) : ∀ n ∈ ["NoneType", "bool", "int", "str", "tuple", "list"], PySem.W.kitOne K (.type n) (.type ty) = some (isB ty n) := fun n hn => by
  have := List.all_eq_true.mp h n hn
  refine kit_ty ?_
  unfold isB
  cases z : kitB n ty with
  | none => rw [z] at this; cases this
  | some r => rfl
theorem ib_tn : isB "tuple" (tyN .non) = false := by decide +kernel
theorem ib_tb : isB "tuple" (tyN (.bl c)) = false := by show isB "tuple" "bool" = _; decide +kernel
theorem ib_ti : isB "tuple" (tyN (.int i)) = false := by show isB "tuple" "int" = _; decide +kernel
theorem ib_ts : isB "tuple" (tyN (.str a)) = false := by show isB "tuple" "str" = _; decide +kernel
theorem ib_tt : isB "tuple" (tyN (.tup l)) = true := by show isB "tuple" "tuple" = _; decide +kernel
theorem ib_tl : isB "tuple" (tyN (.lst l)) = false := by show isB "tuple" "list" = _; decide +kernel
theorem ib_sn : isB "str" (tyN .non) = false := by decide +kernel
theorem ib_sb : isB "str" (tyN (.bl c)) = false := by show isB "str" "bool" = _; decide +kernel
theorem ib_si : isB "str" (tyN (.int i)) = false := by show isB "str" "int" = _; decide +kernel
theorem ib_ss : isB "str" (tyN (.str a)) = true := by show isB "str" "str" = _; decide +kernel
theorem ib_st : isB "str" (tyN (.tup l)) = false := by show isB "str" "tuple" = _; decide +kernel
theorem ib_sl : isB "str" (tyN (.lst l)) = false := by show isB "str" "list" = _; decide +kernel
theorem ib_in : isB "int" (tyN .non) = false := by decide +kernel
theorem ib_ib : isB "int" (tyN (.bl c)) = true := by show isB "int" "bool" = _; decide +kernel
theorem ib_ii : isB "int" (tyN (.int i)) = true := by show isB "int" "int" = _; decide +kernel
theorem ib_is : isB "int" (tyN (.str a)) = false := by show isB "int" "str" = _; decide +kernel
theorem ib_it : isB "int" (tyN (.tup l)) = false := by show isB "int" "tuple" = _; decide +kernel
theorem ib_il : isB "int" (tyN (.lst l)) = false := by show isB "int" "list" = _; decide +kernel
theorem ib_bn : isB "bool" (tyN .non) = false := by decide +kernel
theorem ib_bb : isB "bool" (tyN (.bl c)) = true := by show isB "bool" "bool" = _; decide +kernel
theorem ib_bi : isB "bool" (tyN (.int i)) = false := by show isB "bool" "int" = _; decide +kernel
theorem ib_bs : isB "bool" (tyN (.str a)) = false := by show isB "bool" "str" = _; decide +kernel
theorem ib_bt : isB "bool" (tyN (.tup l)) = false := by show isB "bool" "tuple" = _; decide +kernel
theorem ib_bl : isB "bool" (tyN (.lst l)) = false := by show isB "bool" "list" = _; decide +kernel
theorem na_n : (T.isV T.non = true) ↔ True := ⟨fun _ => trivial, fun _ => rfl⟩
theorem na_b : (T.isV (T.bl c) = true) ↔ True := ⟨fun _ => trivial, fun _ => rfl⟩
theorem na_i : (T.isV (T.int i) = true) ↔ True := ⟨fun _ => trivial, fun _ => rfl⟩
theorem na_s : (T.isV (T.str a) = true) ↔ True := ⟨fun _ => trivial, fun _ => rfl⟩
theorem na_t : (T.isV (T.tup l) = true) ↔ True := ⟨fun _ => trivial, fun _ => rfl⟩
theorem na_l : (T.isV (T.lst l) = true) ↔ True := ⟨fun _ => trivial, fun _ => rfl⟩
/-- what holds between two statements -/
theorem seq1_by {a r : PSt} {Δ : PEnds} {ρ : PS'} (Pv : PS' → Prop) (h1 : ∀ nx' : PS' → Prop, (∀ ρ, Pv ρ → nx' ρ) → a { Δ with nx := nx' } ρ) (h2 : ∀ ρ, Pv ρ → r Δ ρ) : sSeq a r Δ ρ := h1 (r Δ) h2
theorem seq2_by {a b r : PSt} {Δ : PEnds} {ρ : PS'} (Pv : PS' → Prop) (h1 : ∀ nx' : PS' → Prop, (∀ ρ, Pv ρ → nx' ρ) → sSeq a b { Δ with nx := nx' } ρ) (h2 : ∀ ρ, Pv ρ → r Δ ρ) : sSeq a (sSeq b r) Δ ρ := h1 (r Δ) h2
theorem seq3_by {a b c r : PSt} {Δ : PEnds} {ρ : PS'} (Pv : PS' → Prop) (h1 : ∀ nx' : PS' → Prop, (∀ ρ, Pv ρ → nx' ρ) → sSeq a (sSeq b c) { Δ with nx := nx' } ρ) (h2 : ∀ ρ, Pv ρ → r Δ ρ) : sSeq a (sSeq b (sSeq c r)) Δ ρ := h1 (r Δ) h2
theorem seq4_by {a b c e r : PSt} {Δ : PEnds} {ρ : PS'} (Pv : PS' → Prop) (h1 : ∀ nx' : PS' → Prop, (∀ ρ, Pv ρ → nx' ρ) → sSeq a (sSeq b (sSeq c e)) { Δ with nx := nx' } ρ) (h2 : ∀ ρ, Pv ρ → r Δ ρ) : sSeq a (sSeq b (sSeq c (sSeq e r))) Δ ρ := h1 (r Δ) h2
/-- nothing is promised -/
theorem CalQ.rec0 {P : Program} {w : World} {K : PySem.W.Frag} {mg : Str → Option Value} {base : Heap} {W : Wld} {x : Str} {st : Stmt} {ps : List Str} {k : Nat} (D : Df K mg x st)
    (hb : ∀ (kV doc pm : Value) (an : Option Addr) (cdv ct : Value) (us : List Value), us.length = ps.length → bindArgs (PySem.W.fnOf x x (defArgs st) (defBody st) (defScope st) .none kV doc pm an cdv ct) ⟨us, []⟩ = pure (ps.zip us)) :
    CalQ P w K mg base W x k ps (fun _ _ => False) := by
  obtain ⟨f, fd, F, g⟩ := D
  exact ⟨f, fd, g, F.kp, F.bindsN hb, ⟨fun _ _ _ _ h => (let ⟨_, _, _, _, _, _, _, h, _⟩ := h; h.elim), fun _ _ _ _ _ _ _ _ _ _ _ _ _ h => (let ⟨_, _, _, _, _, _, _, h, _⟩ := h; h.elim)⟩⟩
end
end Y

namespace Y
open PySem PySem.Spec PyProof.Rows L2
/-! ### the frame of a generator expression -/
abbrev gx (X : Cx) (A : Around) (s : Shared) (H : Hp) (ge : Env) (fp : List Addr) (pn : List (Addr × Obj)) : Cx :=
  { X with A := A, s_0 := s, H_0 := H, env := ge, outer := X.stack, stack := ge :: X.stack, ex := fp, fn := fun _ => false, pn := pn, xe := fun _ _ => False }
theorem nocells : ∀ {names : List (Str × NameKind)} {n : Nat} {acc : List (Str × Addr)}, (∀ y ∈ names, y.2 ≠ .cell) → cellsFrom n names acc = acc
  | [], _, _, _ => rfl
  | (a, k) :: r, n, acc, h => by
    have hk : (k == NameKind.cell) = false := by
      have := h (a, k) List.mem_cons_self
      cases k <;> first | rfl | exact absurd rfl this
    rw [cellsFrom, if_neg (by rw [hk]; exact Bool.false_ne_true)]
    exact nocells fun y hy => h y (List.mem_cons_of_mem _ hy)
theorem nopush : ∀ {names : List (Str × NameKind)} {h : Heap}, (∀ y ∈ names, y.2 ≠ .cell) → pushCells h names = h
  | [], _, _ => rfl
  | (a, k) :: r, h, hh => by
    have hk : (k == NameKind.cell) = false := by
      have := hh (a, k) List.mem_cons_self
      cases k <;> first | rfl | exact absurd rfl this
    rw [pushCells, if_neg (by rw [hk]; exact Bool.false_ne_true)]
    exact nopush fun y hy => hh y (List.mem_cons_of_mem _ hy)
theorem clo_look {cells : List (Str × Addr)} {names : List (Str × NameKind)} {y : Str} {c : Addr} (hf : ∀ y ∈ names, y.2 = .free → ∃ c, cells.lookup y.1 = some c) (e : (cloFrom cells names []).lookup y = some c) : cells.lookup y = some c := by
  rcases cloFrom_mem (PySem.mem_of_lookup e) with z | ⟨z, q⟩
  · cases z
  · obtain ⟨c', h'⟩ := hf _ z rfl
    rw [q, h']
    rfl
theorem clo_has {cells : List (Str × Addr)} {names : List (Str × NameKind)} {y : Str} (e : names.lookup y = some .free) : ∃ c, (cloFrom cells names []).lookup y = some c :=
  mem_lookup (cloFrom_has (cells := cells) (acc := []) (PySem.mem_of_lookup e))
section
variable {X : Cx} {pins : List (Addr × Obj)} {σ : L2.St} {H : Hp} {s s5 : Shared} {scope : Scope} {own : List (Str × Nat)} {fp : List Addr}
theorem gx_start {A : Around} {code : Value} {m0 : Str → Option Value} (I : Inv X pins σ H s) (ok : BlkOk X.N X.env.scope scope own) (hc : ∀ y ∈ scope.names, y.2 ≠ .cell) (hN : X.N.Nodup) (hfp : ∀ b ∈ fp, FpOk X pins H b ∧ b < s.heap.objs.size)
    (hA : A.handled = none) (hf : A.frames = some (genEnv scope (cloFrom X.env.cells scope.names []) s.heap.objs.size code builtinsNs X.env :: X.stack))
    (os5 : s5.os = s.os) (bare5 : AllBare s5.gens) (kp : ∀ b o, s.heap.get? b = some o → s5.heap.get? b = some o) (ns : s5.heap.Ns s.heap.objs.size m0) :
    Inv (gx X A s H (genEnv scope (cloFrom X.env.cells scope.names []) s.heap.objs.size code builtinsNs X.env) fp []) [] (wipe σ (own.map (·.2))) H s5 := by
  have hfree : ∀ y ∈ scope.names, y.2 = .free → ∃ c, X.env.cells.lookup y.1 = some c := fun y hy e => I.ok.has _ (ok.free y hy e)
  have B := block_start I ok hN hfp
  have hce : cellsFrom (s.heap.objs.size + 1) scope.names (cloFrom X.env.cells scope.names []) = cloFrom X.env.cells scope.names [] := nocells hc
  rw [hce] at B
  have C := B.ok
  have lk : ∀ {y c}, (cloFrom X.env.cells scope.names []).lookup y = some c → X.env.cells.lookup y = some c := fun {y c} e => clo_look hfree e
  refine ⟨⟨I.ok.mod, ok.kind, I.ok.glob, rfl, Nat.le_refl _, fun x y c h1 h2 => C.inj x y c h1 h2, fun x hx => ?_, fun x c hx => (by cases hx), fun _ => hA, hf, .inr ⟨rfl, rfl⟩, C.exf, C.bs, C.bsz, C.noex, C.exfs, C.funs, C.frf⟩,
    os5, bare5, Un.kept kp, ⟨m0, ns, fun i x v e1 e2 e3 => ?_⟩, fun x c e => ?_, I.hok.fresh (Nat.le_refl _), fun x c e => I.freeC x c (lk e), fun p hp => absurd (show p ∈ ([] : List (Addr × Obj)) ++ [] from hp) (by simp), I.hok.kept kp, by rw [wipe_length]; exact I.len⟩
  · rcases hx with hx | hx
    · exact absurd rfl (hc (x, .cell) (PySem.mem_of_lookup (show scope.names.lookup x = some .cell from hx)))
    · exact clo_has hx
  · obtain ⟨e2, hne⟩ := wipe_some e2
    have hfr : scope.names.lookup x = some .free := by
      rcases (show Vis scope x from e3) with k | k | k
      · exfalso
        rcases ok.own _ (PySem.mem_of_lookup k) (.inl rfl) with z | z
        · obtain ⟨p, hp, hpx⟩ := List.mem_map.mp z
          have e4 := ok.ix p hp
          rw [show p.1 = x from hpx] at e4
          exact hne (List.mem_map.mpr ⟨p, hp, nodup_ix hN e4 e1⟩)
        · exact z (List.mem_of_getElem? e1)
      · exact absurd rfl (hc (x, .cell) (PySem.mem_of_lookup k))
      · exact k
    obtain ⟨m, hn, hl⟩ := I.loc
    have hv := ok.free _ (PySem.mem_of_lookup hfr) rfl
    obtain ⟨u, r, q⟩ := hl i x v e1 e2 (.inr hv)
    obtain ⟨c, hcl⟩ := clo_has (cells := X.env.cells) hfr
    refine ⟨u, r, .inr ⟨.inr hfr, c, hcl, ?_⟩⟩
    rcases q with ⟨k, _⟩ | ⟨_, c', e', z⟩
    · exfalso
      rcases hv with hv | hv
      · rw [show X.env.scope.names.lookup x = some .local from k] at hv
        cases hv
      · rw [show X.env.scope.names.lookup x = some .local from k] at hv
        cases hv
    · rw [lk hcl] at e'
      cases e'
      exact z.keeps kp
  · obtain ⟨v, z⟩ := I.cell x c (lk e)
    exact ⟨v, z.keeps kp⟩
end
end Y

namespace Y
open PySem PySem.Spec PyProof.Rows L2
abbrev gexp (elt tg iter : Expr) (ifs : List Expr) (scope : Scope) (pos : Pos) : Expr := .GeneratorExp elt [⟨tg, iter, ifs, 0⟩] scope pos
theorem over_comp {A : Around} {elt tg iter : Expr} {ifs : List Expr} {scope : Scope} {pos : Pos} {it acc : Value} {env : Env} : A.over (.compLoop (gexp elt tg iter ifs scope pos) 0 it acc env) [] = A.deeper env := by
  first
    | rfl
    | (obtain ⟨a, b, c, d, e⟩ := A; simp [Around.over, Around.deeper, marksOver, frameCount, unitsOf, envsOf, guardsOf, pushEnvs, pushGuards, Code.envs, Code.env?, Code.isFrame, Code.guards, Code.isGuard, Code.weight, Code.frames, Code.isCreation, Code.isCaller, Code.cUnits])
theorem over_start {A : Around} {elt tg iter : Expr} {ifs : List Expr} {scope : Scope} {pos : Pos} {it acc : Value} {env : Env} : A.over (.compStart (gexp elt tg iter ifs scope pos) 0 it acc env) [] = A.deeper env := by
  first
    | rfl
    | (obtain ⟨a, b, c, d, e⟩ := A; simp [Around.over, Around.deeper, marksOver, frameCount, unitsOf, envsOf, guardsOf, pushEnvs, pushGuards, Code.envs, Code.env?, Code.isFrame, Code.guards, Code.isGuard, Code.weight, Code.frames, Code.isCreation, Code.isCaller, Code.cUnits])
/-- what a bool that is handed out brings: sb ends the walk -/
def YB (Xg : Cx) (σw : L2.St) (sb : Bool) (Qs : Hp → Prop) : Protocol := fun n s₀ v s1 kap => ∃ (b : Bool) (H1 : Hp), v = .bool b ∧ Inv Xg [] σw H1 s1 ∧ (b = sb → Qs H1) ∧
  (b ≠ sb → ∀ s2 : Shared, s2.heap = s1.heap → s2.os = s1.os → AllBare s2.gens → kap (.send .none) s2)
def RB (Xg : Cx) (σw : L2.St) (Qe : Hp → Prop) : GenEnd := fun n s₀ r s1 => r = .ok .next ∧ ∃ H1, Inv Xg [] σw H1 s1 ∧ Qe H1
/-- the same heap, other generators -/
theorem _root_.L2.Inv.again {X : Cx} {pins : List (Addr × Obj)} {σ : L2.St} {H : Hp} {s s2 : Shared} (I : Inv X pins σ H s) (h : s2.heap = s.heap) (o : s2.os = s.os) (g : AllBare s2.gens) : Inv X pins σ H s2 := by
  obtain ⟨hp, gs, d, t, os⟩ := s2
  cases h
  cases o
  exact ⟨I.ok, I.os, g, I.base, I.loc, I.cell, I.free, I.freeC, I.pin, I.hok, I.len⟩
section
variable {X : Cx} {σ : L2.St} {elt tg iter : Expr} {ifs : List Expr} {scope : Scope} {gpos : Pos} {it : Addr} {fp : List Addr} {tn : Nat → Heap → Prop} {J : It} {g : TG} {tt : TT} {te : TE} {vs : List Nat} {sb : Bool} {Qs Qe : Hp → Prop}
/-- how a turn goes -/
def TurnG (J : It) (g : TG) (tt : TT) (te : TE) (vs : List Nat) (σ : L2.St) (sb : Bool) (Qs Qe : Hp → Prop) (W : Nat → Nat → Hp → Prop) : Prop :=
  ∀ i m H, W i m H → (J.stop i H ∧ Qe H) ∨ (J.go i H ∧ ∃ Nx : Hp → Prop, (∀ H', Nx H' → ∃ m', m' < m ∧ W (i + 1) m' H') ∧ ∀ x H', J.yld i H x H' → g x (wipe σ vs) H' fun σ2 H2 => wipe σ2 vs = wipe σ vs ∧ tt σ2 H2 fun b H3 =>
    if b = true then te σ2 H3 fun y H4 => ∃ b : Bool, y = .bl b ∧ (b = sb → Qs H4) ∧ (b ≠ sb → Nx H4) else Nx H3)
theorem seg_gx {A : Around} {s0 : Shared} {H0 : Hp} {ge : Env} {pn : List (Addr × Obj)} {W : Nat → Nat → Hp → Prop} (hc : X.calm = true) (T : Turn X.prog X.w X.K tg J fp it tn) (hco : ge.scope.isCoroutine = false)
    (hpn : ∀ p ∈ pn, ∀ b ∈ fp, p.1 ≠ b)
    (hg : PG (gx X (A.deeper ge) s0 H0 ge fp pn) tg g) (ht : PTs (gx X (A.deeper ge) s0 H0 ge fp pn) ifs tt) (he : PE (gx X (A.deeper ge) s0 H0 ge fp pn) elt te) (turn : TurnG J g tt te vs σ sb Qs Qe W) :
    ∀ (m n i : Nat) (z s5 : Shared) (H5 : Hp), m ≤ n → Inv (gx X (A.deeper ge) s0 H0 ge fp pn) [] (wipe σ vs) H5 s5 → tn i s5.heap → (∀ b ∈ fp, H5 b = none) → W i m H5 →
      Seg (model X.prog X.w) A (RB (gx X (A.deeper ge) s0 H0 ge fp pn) (wipe σ vs) Qe) (YB (gx X (A.deeper ge) s0 H0 ge fp pn) (wipe σ vs) sb Qs) (n + 1) z
        (.compLoop (gexp elt tg iter ifs scope gpos) 0 (.ref it) .none ge) ((model X.prog X.w).den (.compLoop (gexp elt tg iter ifs scope gpos) 0 (.ref it) .none ge)) [] s5 := by
  have fpk : ∀ {σ' : L2.St} {H' : Hp} {s' : Shared}, Inv (gx X (A.deeper ge) s0 H0 ge fp pn) [] σ' H' s' → (∀ b ∈ fp, H' b = none) → ∀ b ∈ fp, FpOk (gx X (A.deeper ge) s0 H0 ge fp pn) [] H' b := fun {σ' H' s'} I' hn b hb =>
    ⟨hn b hb, (I'.ok.exf b hb).1, I'.ok.exfs b hb, .inl hb, fun x c e => (I'.ok.exf b hb).2 x c e, fun p hp => hpn p (List.mem_append.mp hp |>.elim _root_.id fun z => absurd z (by simp)) b hb⟩
  intro m
  induction m using Nat.strongRecOn with
  | _ m ih =>
    intro n i z s5 H5 hmn I5 st5 n5 w5
    show Seg _ A _ _ _ z _ ((compTurn (gexp elt tg iter ifs scope gpos) 0 (.ref it) .none ge).onRaise (leaving ge)) [] s5
    rw [compTurn_gen]; rw [Sem.onRaise_eq_wrap]
    refine seg_bind_wrap (wpAny_standAt (s := s5) ?_)
    rcases turn i m H5 w5 with ⟨stop, qq⟩ | ⟨go, Nx, hNx, step⟩
    · have td := T.done (gx X (A.deeper ge) s0 H0 ge fp pn) rfl rfl rfl hc i [] s5 _ H5 (fun _ _ => False) I5 (fpk I5 n5) st5 stop
      refine seg_bind_wrap ?_
      rw [over_comp]
      refine thnF td fun r s6 ⟨hr, I6⟩ => ?_
      subst hr
      exact seg_end (.ok .next) ⟨rfl, H5, I6, qq⟩
    · have ti := T.item (gx X (A.deeper ge) s0 H0 ge fp pn) rfl rfl rfl hc i [] s5 _ H5 (fun _ _ => False) I5 (fpk I5 n5) st5 go
      refine seg_bind_wrap ?_
      rw [over_comp]
      refine thnF ti fun r s6 ⟨u, hr, h6⟩ => ?_
      subst hr
      refine seg_bind_wrap ?_
      rw [over_comp]
      refine thnF h6 fun _ s7 ⟨x, H7, I7, r7, y7, st7, n7⟩ => ?_
      have J7 := I7.pinned (fpk I7 n7) (T.obj _ _ st7)
      refine seg_bind_wrap ?_
      rw [over_comp]
      refine thnF (hg.run _ s7 _ H7 x u _ J7 r7 (step x H7 y7)) fun _ s8 ⟨σ8, H8, I8, hw8, q8⟩ => ?_
      refine seg_bind_wrap ?_
      rw [over_comp]
      refine thnF (ht.run _ s8 σ8 H8 _ I8 q8) fun b s9 ⟨H9, I9, q9⟩ => ?_
      -- the turn's end
      have rest : ∀ {s' : Shared} {H' : Hp}, Inv (gx X (A.deeper ge) s0 H0 ge fp pn) ([] ++ pinsAt fp s7.heap) σ8 H' s' → Inv (gx X (A.deeper ge) s0 H0 ge fp pn) [] (wipe σ vs) H' s' ∧ tn (i + 1) s'.heap ∧ ∀ b ∈ fp, H' b = none := fun {s' H'} I' => by
        have pin : ∀ b ∈ fp, ∀ o, s7.heap.get? b = some o → s'.heap.get? b = some o ∧ H' b = none := fun b hb o e =>
          have q := I'.pin (b, o) (List.mem_append_right _ (List.mem_append_right _ (mem_pinsAt hb e)))
          ⟨q.1, q.2.1⟩
        refine ⟨(I'.unpinned (pins := [])).weak (by rw [wipe_length, ← wipe_length σ8 vs, hw8, wipe_length]) (fun j v e => ?_), T.keep _ _ _ st7 fun b hb o e => (pin b hb o e).1, fun b hb => ?_⟩
        · rw [← hw8] at e
          exact (wipe_some e).1
        · obtain ⟨o, e, _⟩ := T.obj _ _ st7 b hb
          exact (pin b hb o e).2
      cases b with
      | false =>
        obtain ⟨m', hm, w'⟩ := hNx H9 q9
        obtain ⟨e1, e2, e3⟩ := rest I9
        simp only [Bool.false_eq_true, if_false]
        exact seg_again (by rfl) (ih m' hm n (i + 1) z s9 H9 (by omega) e1 e2 e3 w')
      | true =>
        simp only [if_true]
        have hyo : ∀ v, yieldOut ge v = yieldValue v := fun v => by
          unfold yieldOut
          rw [hco]
          rfl
        simp only [hyo]
        rw [Sem.bind_eq_wrap', Sem.bind_eq_wrap']; rw [Sem.wrap_wrap, Sem.wrap_wrap]
        refine seg_wrap ?_
        rw [over_comp]
        refine thnF (he.run _ s9 σ8 H9 _ I9 q9) fun y s10 ⟨yv, H10, I10, r10, bb, ey, q1, q2⟩ => ?_
        subst ey
        obtain ⟨e1, e2, e3⟩ := rest I10
        refine seg_at ?_
        refine seg_yield (hfs := rfl) (hg := rfl) (hfg := rfl) ⟨bb, H10, r10, e1, q1, fun hb s2 f1 f2 f3 => ?_⟩
        obtain ⟨m', hm, w'⟩ := hNx H10 (q2 hb)
        obtain ⟨n', rfl⟩ : ∃ n', n = n' + 1 := ⟨n - 1, by omega⟩
        exact seg_again (by rfl) (ih m' hm n' (i + 1) s2 s2 H10 (by omega) (e1.again f1 f2 f3) (by rw [f1]; exact e2) e3 w')
theorem seg_gx0 {A : Around} {z s5 : Shared} {ge : Env} {R : GenEnd} {Y' : Protocol} {n : Nat} (self : ∀ (A : Around) (Q : Value → Shared → Prop) (E : Value → Shared → Prop), Q (.ref it) s5 → wpAny (model X.prog X.w) A (pyIter (.ref it)) Q E s5)
    (loop : Seg (model X.prog X.w) A R Y' n z (.compLoop (gexp elt tg iter ifs scope gpos) 0 (.ref it) .none ge) ((model X.prog X.w).den (.compLoop (gexp elt tg iter ifs scope gpos) 0 (.ref it) .none ge)) [] s5) :
    Seg (model X.prog X.w) A R Y' n z (.compStart (gexp elt tg iter ifs scope gpos) 0 (.ref it) .none ge) ((model X.prog X.w).den (.compStart (gexp elt tg iter ifs scope gpos) 0 (.ref it) .none ge)) [] s5 := by
  show Seg _ A _ _ _ z _ ((compStart (gexp elt tg iter ifs scope gpos) 0 (.ref it) .none ge).onRaise (leaving ge)) [] s5
  unfold compStart; rw [Sem.onRaise_eq_wrap]
  show Seg _ A _ _ _ z _ ((ask >>= _).wrap _ _ _ _) [] s5
  refine seg_bind_wrap (wpAny_askSetting (s := s5) ?_)
  split
  · exact seg_again (by rfl) loop
  · refine seg_bind_wrap (wpAny_rule (s := s5) ?_)
    first
      | exact seg_bind_wrap (wpAny_standAt (s := s5) (seg_bind_wrap (self _ _ _ (seg_again (by rfl) loop))))
      | (show Seg _ A _ _ _ z _ ((standAt iter.pos >>= _).wrap _ _ _ _) [] s5
         exact seg_bind_wrap (wpAny_standAt (s := s5) (seg_bind_wrap (self _ _ _ (seg_again (by rfl) loop)))))
end
end Y

namespace Y
open PySem PySem.Spec PyProof.Rows L2
section
variable {P : Program} {w : World} {A : Around} {Xg : Cx} {σw : L2.St} {Qs Qe : Hp → Prop} {R : Result → Shared → Prop} {a : Addr} {g : Nat}
/-- the generator g at a stands ready; n: how many more it may hand out -/
def Rdy (P : Program) (w : World) (A : Around) (Xg : Cx) (σw : L2.St) (sb : Bool) (Qs Qe : Hp → Prop) (a : Addr) (g n : Nat) (s : Shared) : Prop :=
  s.heap.NoLimit ∧ s.heap.IsGen a g ∧ ∃ gs, s.gens[g]? = some gs ∧ gs.Goes (model P w) A.in1.in1 (RB Xg σw Qe) (YB Xg σw sb Qs) n (.send .none) (s.setGen g .running)
theorem gens_lt {s : Shared} {gs : GenState} (h : s.gens[g]? = some gs) : g < s.gens.size := (Array.getElem?_eq_some_iff.mp h).1
/-- one step: next of it -/
theorem rdy_next {sb : Bool} {n : Nat} {s : Shared} {Q : Option Value → Shared → Prop} {E : Value → Shared → Prop} (hh : A.handled = none) (hroom : A.depth < recursionLimit) (gen : ∀ σ H s, Inv Xg [] σ H s → s.heap.IsGen a g) (h : Rdy P w A Xg σw sb Qs Qe a g n s)
    (hy : ∀ (b : Bool) (H1 : Hp) (s1 : Shared), Inv Xg [] σw H1 s1 → (b = sb → Qs H1) → (b ≠ sb → ∃ m, n = m + 1 ∧ Rdy P w A Xg σw sb Qs Qe a g m s1) → Q (some (.bool b)) s1)
    (he : ∀ (H1 : Hp) (s1 : Shared), Inv Xg [] σw H1 s1 → Qe H1 → Q none s1) : wpAny (model P w) A.in1 (pyNext (.ref a)) Q E s := by
  obtain ⟨hl, hg, gs, hgs, hgo⟩ := h
  have hlt := gens_lt hgs
  refine GenW.wpAny_gsz (n := g + 1) hlt ?_
  refine wpAny_pyNext_genexpQ (A := A.in1) (P := fun n s₀ s₁ => ∃ H1, Inv Xg [] σw H1 s₁ ∧ Qe H1) hh hl hroom hg hgs hgo (fun v s₁ gs' hb hv => ?_) (fun s₁ hp h' hk => ?_)
  · intro hsz
    obtain ⟨b, H1, rfl, I1, q1, q2⟩ := hv
    have I2 : Inv Xg [] σw H1 (s₁.setGen g gs') := I1.again rfl rfl (allBare_setGen I1.bare hb)
    have hsz' : g + 1 ≤ s₁.gens.size := by rw [GenW.setGen_size] at hsz; exact hsz
    refine hy b H1 _ I2 q1 fun hne => ?_
    have q2 := q2 hne
    cases n with
    | zero => exact (q2 (s₁.setGen g gs') rfl rfl I2.bare).elim
    | succ m =>
      refine ⟨m, rfl, I2.nolimit, gen _ _ _ I2, gs', setGen_at (by omega), ?_⟩
      exact q2 ((s₁.setGen g gs').setGen g .running) rfl rfl (allBare_setGen I2.bare rfl)
  · intro hsz
    obtain ⟨H1, I1, q⟩ := hp
    have I2 : Inv Xg [] σw H1 (s₁.setGen g .finished) := I1.again rfl rfl (allBare_setGen I1.bare rfl)
    refine he H1 _ ?_ q
    exact I2.call' (ch := []) rfl (Un.kept hk) (I2.hok.kept hk) I2.bare fun b z => absurd z (by simp)
theorem all_gen (hh : A.handled = none) (hroom : A.depth < recursionLimit) (gen : ∀ σ H s, Inv Xg [] σ H s → s.heap.IsGen a g)
    (fs : ∀ H1 s1, Inv Xg [] σw H1 s1 → Qs H1 → R (.ok (.ret (.bool false))) s1) (fe : ∀ H1 s1, Inv Xg [] σw H1 s1 → Qe H1 → R (.ok (.ret (.bool true))) s1) :
    ∀ (n : Nat) (s : Shared), Rdy P w A Xg σw false Qs Qe a g n s → codeAny (model P w) A (.builtin "all.loop" ⟨[.ref a], []⟩) R s := by
  intro n
  induction n with
  | zero =>
    intro s h
    refine codeAny_builtin (prog := P) F.entry_all_loop ?_; rw [Around.under_plainId (F.plain_all_loop) _]
    show wpAny (model P w) A.in1 (pyNext (.ref a) >>= _) _ _ s
    refine wpAny_bind (rdy_next hh hroom gen h (fun b H1 s1 I1 q1 q2 => ?_) (fun H1 s1 I1 q => ?_))
    · cases b with
      | true => obtain ⟨m, z, _⟩ := q2 (by decide); cases z
      | false =>
        refine wpAny_bind (wpAny_holding (wpAny_truthy_bool (wpAny_bind (wpAny_letGo ?_))))
        exact wpAny_bind (wpAny_rule (wpAny_pure (fs H1 s1 I1 (q1 rfl))))
    · exact wpAny_bind (wpAny_rule (wpAny_pure (fe H1 s1 I1 q)))
  | succ n ih =>
    intro s h
    refine codeAny_builtin (prog := P) F.entry_all_loop ?_; rw [Around.under_plainId (F.plain_all_loop) _]
    show wpAny (model P w) A.in1 (pyNext (.ref a) >>= _) _ _ s
    refine wpAny_bind (rdy_next hh hroom gen h (fun b H1 s1 I1 q1 q2 => ?_) (fun H1 s1 I1 q => ?_))
    · refine wpAny_bind (wpAny_holding (wpAny_truthy_bool ?_))
      cases b with
      | true =>
        obtain ⟨m, z, q3⟩ := q2 (by decide)
        cases z
        exact wpAny_bind (wpAny_letGo (wpAny_pure ⟨plainId_quiet F.plain_all_loop _, ih s1 q3⟩))
      | false => exact wpAny_bind (wpAny_letGo (wpAny_bind (wpAny_rule (wpAny_pure (fs H1 s1 I1 (q1 rfl))))))
    · exact wpAny_bind (wpAny_rule (wpAny_pure (fe H1 s1 I1 q)))
theorem any_gen (hh : A.handled = none) (hroom : A.depth < recursionLimit) (gen : ∀ σ H s, Inv Xg [] σ H s → s.heap.IsGen a g)
    (fs : ∀ H1 s1, Inv Xg [] σw H1 s1 → Qs H1 → R (.ok (.ret (.bool true))) s1) (fe : ∀ H1 s1, Inv Xg [] σw H1 s1 → Qe H1 → R (.ok (.ret (.bool false))) s1) :
    ∀ (n : Nat) (s : Shared), Rdy P w A Xg σw true Qs Qe a g n s → codeAny (model P w) A (.builtin "any.loop" ⟨[.ref a], []⟩) R s := by
  intro n
  induction n with
  | zero =>
    intro s h
    refine codeAny_builtin (prog := P) F.entry_any_loop ?_; rw [Around.under_plainId (F.plain_any_loop) _]
    show wpAny (model P w) A.in1 (pyNext (.ref a) >>= _) _ _ s
    refine wpAny_bind (rdy_next hh hroom gen h (fun b H1 s1 I1 q1 q2 => ?_) (fun H1 s1 I1 q => ?_))
    · refine wpAny_bind (wpAny_holding (wpAny_truthy_bool ?_))
      cases b with
      | false => obtain ⟨m, z, _⟩ := q2 (by decide); cases z
      | true => exact wpAny_bind (wpAny_letGo (wpAny_bind (wpAny_rule (wpAny_pure (fs H1 s1 I1 (q1 rfl))))))
    · exact wpAny_bind (wpAny_rule (wpAny_pure (fe H1 s1 I1 q)))
  | succ n ih =>
    intro s h
    refine codeAny_builtin (prog := P) F.entry_any_loop ?_; rw [Around.under_plainId (F.plain_any_loop) _]
    show wpAny (model P w) A.in1 (pyNext (.ref a) >>= _) _ _ s
    refine wpAny_bind (rdy_next hh hroom gen h (fun b H1 s1 I1 q1 q2 => ?_) (fun H1 s1 I1 q => ?_))
    · refine wpAny_bind (wpAny_holding (wpAny_truthy_bool ?_))
      cases b with
      | false =>
        obtain ⟨m, z, q3⟩ := q2 (by decide)
        cases z
        exact wpAny_bind (wpAny_letGo (wpAny_pure ⟨plainId_quiet F.plain_any_loop _, ih s1 q3⟩))
      | true => exact wpAny_bind (wpAny_letGo (wpAny_bind (wpAny_rule (wpAny_pure (fs H1 s1 I1 (q1 rfl))))))
    · exact wpAny_bind (wpAny_rule (wpAny_pure (fe H1 s1 I1 q)))
end
end Y

namespace Y
open PySem PySem.Spec PyProof.Rows L2
section
variable {X : Cx} {pins : List (Addr × Obj)} {σ : L2.St} {H : Hp} {s : Shared} {elt tg iter : Expr} {ifs : List Expr} {scope : Scope} {own : List (Str × Nat)} {gpos : Pos} {wi : TI} {c P : Addr} {R : It → Hp → Prop} {Q' : Value → Shared → Prop}
/-- what a generator expression leaves: the state s4 ahead of its frame, then s5 with the frame and the generator's object at a -/
structure Made (X : Cx) (elt tg iter : Expr) (ifs : List Expr) (scope : Scope) (gpos : Pos) (s4 s5 : Shared) (it a : Addr) (code : Value) (go : Obj) : Prop where
  os : s5.os = s4.os
  bare : AllBare s5.gens
  keep : ∀ b o, s4.heap.get? b = some o → s5.heap.get? b = some o
  ns : ∃ m0, s5.heap.Ns s4.heap.objs.size m0
  obj : s5.heap.get? a = some go
  big : s4.heap.objs.size < a
  gen : ∀ h : Heap, h.get? a = some go → h.IsGen a s4.gens.size
  dat : ∀ v, go.data ≠ .cell v
  fresh : s5.gens[s4.gens.size]? = some (.fresh (.compStart (gexp elt tg iter ifs scope gpos) 0 (.ref it) .none (genEnv scope (cloFrom X.env.cells scope.names []) s4.heap.objs.size code builtinsNs X.env)))
theorem gen_make (TB : GxR.TabB X.base X.mg c P) (hcode : X.env.code = .ref c) (hi : PI X tg iter wi) (ok : BlkOk X.N X.env.scope scope own) (hc : ∀ y ∈ scope.names, y.2 ≠ .cell) (hco : scope.isCoroutine = false) (h0 : scope.names.lookup (".0" : Str) = some NameKind.local)
    (hroom : X.A.depth < recursionLimit) (hs : ∀ x, genFold iter X.env x = pure x) (I : Inv X pins σ H s) (h : wi σ H fun J H1 => GxR.TabG H1 P ∧ ∀ H2, GxR.Tabbed P H1 H2 → R J H2)
    (hQ : ∀ (J : It) (H2 : Hp) (it : Addr) (fp : List Addr) (tn : Nat → Heap → Prop) (s4 s5 : Shared) (a : Addr) (code : Value) (go : Obj), Inv X pins σ H2 s4 → Turn X.prog X.w X.K tg J fp it tn → tn 0 s5.heap → (∀ b ∈ fp, FpOk X pins H2 b ∧ b < s4.heap.objs.size) → R J H2 →
      Made X elt tg iter ifs scope gpos s4 s5 it a code go → Q' (.ref a) s5) :
    wpAny (model X.prog X.w) X.A (eval (gexp elt tg iter ifs scope gpos) X.env) Q' X.xe s := by
  have hfree : ∀ y ∈ scope.names, y.2 = .free → ∃ c, X.env.cells.lookup y.1 = some c := fun y hy e => I.ok.has _ (ok.free y hy e)
  refine wpAny_GeneratorExp_make hco (closure_ok hfree) hc h0 ok.kind hroom (thn (hi.run pins s σ H _ I h) fun xv s1 hx => thn hx fun itv s2 h2 => ?_) hs
  obtain ⟨it, fp, tn, J, H1, rfl, I1, T, st1, f1, ⟨ps, hP, hok3⟩, q1⟩ := h2
  have ePs : s2.heap.get? P = some { cls := .none, data := .fields ps } := I1.hok P _ hP
  have hd := TB.code.keeps fun b u e => I1.bk b u e
  have nP : ∀ b ∈ fp, b ≠ P := fun b hb z => by
    have := (f1 b hb).1
    rw [z, hP] at this
    cases this
  refine ⟨I1.nolimit, ?_⟩
  have cont : ∀ (code : Value) (h3 : Heap) (tk : Nat) (more : Array Value), Heap.ExtBut P s2.heap h3 → s2.heap.objs.size ≤ h3.objs.size → h3.get? P = some { cls := .none, data := .fields (ps ++ more) } → TriplesOk (ps ++ more).toList →
      wpAny (model X.prog X.w) X.A (builtinsFor X.env.globals X.env.builtins) (fun bi s4 => ∀ h', h'.Ns s4.heap.objs.size (fun y => if y = ".0" then some (Value.ref it) else none) → Heap.SameBut s4.heap.objs.size (s4.heap.push { cls := .type "frame", data := .dict #[] }) h' →
        Q' (.ref h'.objs.size) { s4 with
          gens := s4.gens.push (.fresh (.compStart (.GeneratorExp elt [⟨tg, iter, ifs, 0⟩] scope gpos) 0 (.ref it) .none (genEnv scope (cloFrom X.env.cells scope.names []) s4.heap.objs.size code bi X.env))),
          toks := s4.toks + 1 + 1 + 1,
          heap := h'.push { cls := .type "generator", data := .fields #[.int s4.gens.size 0, .str "<genexpr>" (s4.toks + 1), .str (X.env.qual ++ "<genexpr>") (s4.toks + 1 + 1)] } }) X.xe { s2 with heap := h3, toks := tk } := by
    intro code h3 tk more hx hsz hP3 ht3
    obtain ⟨bm, ob, e1, e2, e3, e4, e5, e6, e7, e8⟩ := TB.bm
    have kp3 : ∀ b u, b ≠ P → s2.heap.get? b = some u → h3.get? b = some u := fun b u hb e => hx b u hb e
    have I2 : Inv X pins σ (upd H1 P (.tbl (ps ++ more))) { s2 with heap := h3, toks := tk } := GxR.inv_tab (g' := s2.gens) (d' := s2.drawn) I1 hP kp3 hP3 I1.bare
    refine wpAny_builtinsFor (m := X.mg) (by rw [I1.ok.glob]; exact (I1.mod.glob.keeps I1.bk).extBut hx TB.gP) e1 e2 (kp3 _ _ e4 (I1.bk _ _ e5)) e6 e7 e8 ?_
    intro h' hn hsb
    have szh : h'.objs.size = h3.objs.size + 1 := by rw [hsb.1, Heap.size_push]
    have kp5 : ∀ b o, h3.get? b = some o → (h'.push { cls := .type "generator", data := .fields #[.int s2.gens.size 0, .str "<genexpr>" (tk + 1), .str (X.env.qual ++ "<genexpr>") (tk + 1 + 1)] }).get? b = some o := fun b o e =>
      Heap.get?_push_of_some _ (hsb.extBut b o (Nat.ne_of_lt (Heap.lt_size e)) (Heap.get?_push_of_some _ e))
    have hfp : ∀ b ∈ fp, b < s2.heap.objs.size := fun b hb => by
      obtain ⟨o, e, _⟩ := T.obj _ _ st1 b hb
      exact Heap.lt_size e
    refine hQ J (upd H1 P (.tbl (ps ++ more))) it fp tn { s2 with heap := h3, toks := tk } _ _ code _ I2 T (T.keep _ _ _ st1 fun b hb o e => kp5 b o (kp3 b o (nP b hb) e)) (fun b hb => ⟨⟨?_, (f1 b hb).2⟩, ?_⟩) (q1 _ ⟨⟨_, upd_same, ht3⟩, fun b hb => upd_ne hb⟩)
      ⟨rfl, I1.bare.push rfl, kp5, ⟨_, hn.push _⟩, Heap.get?_push_size _ rfl, ?_, fun h e => ⟨_, _, _, e, rfl, rfl, rfl⟩, fun v q => (by cases q), Array.getElem?_push_size ..⟩
    · rw [upd_ne (nP b hb)]
      exact (f1 b hb).1
    · exact Nat.lt_of_lt_of_le (hfp b hb) hsz
    · show h3.objs.size < h'.objs.size
      rw [szh]
      exact Nat.lt_succ_self _
  cases hf : codeAmong gpos ps.toList with
  | none =>
    refine wpAny_genexprCodeX hcode (hd.code ePs hok3) (hd.tab ePs) hf fun c' h' tk hx hge hnew0 hco' hcr htab' hnew => ?_
    obtain ⟨o1, vs1, _, _, _, _, _, _, _, _, _, _, _, _, _, _, _, _, _, htr, _⟩ := hco'
    exact cont _ h' tk _ hx (Nat.le_trans hge (Nat.le_of_lt hnew0)) htab'.2 htr
  | some cv =>
    refine wpAny_genexprCode_hit hcode (hd.code ePs hok3) hf ?_
    exact cont cv s2.heap s2.toks #[] (Heap.ExtBut.refl _ _) (Nat.le_refl _) (by simpa using ePs) (by simpa using hok3)
end
end Y

namespace Y
open PySem PySem.Spec PyProof.Rows L2
section
variable {X : Cx} {pins : List (Addr × Obj)} {σ : L2.St} {H : Hp} {s : Shared} {elt tg iter : Expr} {ifs : List Expr} {scope : Scope} {own : List (Str × Nat)} {gpos pos p : Pos} {wi : TI} {c P : Addr} {k : Nat} {g : TG} {tt : TT} {te : TE}
/-- all, any of a generator expression: sb is the bool that ends the walk -/
def tGen (P : Addr) (sb : Bool) (wi : TI) (g : TG) (tt : TT) (te : TE) (vs : List Nat) : TE := fun σ H Q => wi σ H fun J H1 => GxR.TabG H1 P ∧ ∀ H2, GxR.Tabbed P H1 H2 →
  ∃ W : Nat → Nat → Hp → Prop, (∃ m, W 0 m H2) ∧ TurnG J g tt te vs σ sb (fun H' => Q (.bl sb) H') (fun H' => Q (.bl (!sb)) H') W
abbrev geOf (X : Cx) (scope : Scope) (C : Addr) (code : Value) : Env := genEnv scope (cloFrom X.env.cells scope.names []) C code builtinsNs X.env
theorem room_gen {A : Around} {env : Env} (r : Room (k + 1) A) : Room k (A.in1.in1.deeper env) := by
  refine ⟨r.hd, ?_, ?_⟩
  · have := r.dp
    show A.depth + 1 + 3 * k + 5 < _
    omega
  · have := r.un
    show A.units + 1 + 1 + 3 + 16 * k + 200 < _
    omega
/-- the generator's object is pinned -/
theorem gx_pin {A : Around} {s4 s5 : Shared} {H2 : Hp} {ge : Env} {fp : List Addr} {a : Addr} {go : Obj} {σw : L2.St} (I4 : Inv X pins σ H2 s4) (hL : ge.locals = s4.heap.objs.size) (I : Inv (gx X A s4 H2 ge fp []) [] σw H2 s5) (e : s5.heap.get? a = some go) (big : s4.heap.objs.size < a) (dat : ∀ v, go.data ≠ .cell v) :
    Inv (gx X A s4 H2 ge fp [(a, go)]) [] σw H2 s5 := by
  refine ⟨⟨I.ok.mod, I.ok.kind, I.ok.glob, I.ok.blt, I.ok.above, I.ok.inj, I.ok.has, I.ok.cab, I.ok.hd, I.ok.frames, I.ok.stk, I.ok.exf, I.ok.bs, I.ok.bsz, I.ok.noex, I.ok.exfs, I.ok.funs, I.ok.frf⟩, I.os, I.bare, I.base, I.loc, I.cell, I.free, I.freeC, fun q hq => ?_, I.hok, I.len⟩
  have hq : q = (a, go) := by
    rcases List.mem_append.mp hq with z | z
    · exact List.mem_singleton.mp z
    · exact absurd z (by simp)
  subst hq
  refine ⟨e, I4.hok.fresh (Nat.le_of_lt big), ?_, fun z => ?_, dat⟩
  · show a ≠ ge.locals
    rw [hL]
    exact Nat.ne_of_gt big
  · rcases List.mem_cons.mp (I4.stkSub a z) with z | z
    · have h1 := I4.lt
      rw [← z] at h1
      exact Nat.lt_irrefl _ (Nat.lt_trans h1 big)
    · exact I4.nofs (Nat.le_of_lt big) z
/-- what is made stands ready, and what comes of it is the caller's -/
theorem made_rdy {sb : Bool} {J : It} {H2 : Hp} {it a : Addr} {fp : List Addr} {tn : Nat → Heap → Prop} {s4 s5 : Shared} {code : Value} {go : Obj} {W : Nat → Nat → Hp → Prop} {m0 : Nat} {Qs Qe : Hp → Prop} (hr : Room (k + 1) X.A) (hcm : X.calm = true) (hN : X.N.Nodup) (hco : scope.isCoroutine = false) (ok : BlkOk X.N X.env.scope scope own) (hc : ∀ y ∈ scope.names, y.2 ≠ .cell)
    (hg : ∀ (A : Around) (s : Shared) (H : Hp) (C : Addr) (code : Value) (fp : List Addr) (pn : List (Addr × Obj)), Room k A → PG (gx X A s H (geOf X scope C code) fp pn) tg g)
    (ht : ∀ (A : Around) (s : Shared) (H : Hp) (C : Addr) (code : Value) (fp : List Addr) (pn : List (Addr × Obj)), Room k A → PTs (gx X A s H (geOf X scope C code) fp pn) ifs tt)
    (he : ∀ (A : Around) (s : Shared) (H : Hp) (C : Addr) (code : Value) (fp : List Addr) (pn : List (Addr × Obj)), Room k A → PE (gx X A s H (geOf X scope C code) fp pn) elt te)
    (I4 : Inv X pins σ H2 s4) (T : Turn X.prog X.w X.K tg J fp it tn) (st : tn 0 s5.heap) (f4 : ∀ b ∈ fp, FpOk X pins H2 b ∧ b < s4.heap.objs.size) (M : Made X elt tg iter ifs scope gpos s4 s5 it a code go)
    (w0 : W 0 m0 H2) (turn : TurnG J g tt te (own.map (·.2)) σ sb Qs Qe W) :
    ∃ Xg σw, Rdy X.prog X.w X.A Xg σw sb Qs Qe a s4.gens.size (m0 + 1) s5 ∧ (∀ σ H s, Inv Xg [] σ H s → s.heap.IsGen a s4.gens.size) ∧ ∀ H1 s1, Inv Xg [] σw H1 s1 → Inv X pins σ H1 s1 := by
  obtain ⟨mm, ns⟩ := M.ns
  have frm : (X.A.in1.in1.deeper (geOf X scope s4.heap.objs.size code)).frames = some (geOf X scope s4.heap.objs.size code :: X.stack) := Around.frames_deeper I4.ok.frames
  have I5 := gx_pin I4 rfl (gx_start (code := code) (fp := fp) (A := X.A.in1.in1.deeper (geOf X scope s4.heap.objs.size code)) I4 ok hc hN f4 hr.hd frm M.os M.bare M.keep ns) M.obj M.big M.dat
  have rk := room_gen (env := geOf X scope s4.heap.objs.size code) hr
  have hgen : ∀ σ H s, Inv (gx X (X.A.in1.in1.deeper (geOf X scope s4.heap.objs.size code)) s4 H2 (geOf X scope s4.heap.objs.size code) fp [(a, go)]) [] σ H s → s.heap.IsGen a s4.gens.size := fun σ H s I => M.gen _ (I.pin (a, go) (List.mem_append_left _ (List.mem_singleton.mpr rfl))).1
  have nfp : ∀ b ∈ fp, H2 b = none := fun b hb => (f4 b hb).1.1
  refine ⟨_, wipe σ (own.map (·.2)), ⟨I5.nolimit, hgen _ _ _ I5, _, M.fresh, rfl, ?_⟩, hgen, fun H1 s1 I1 => I4.call' (ch := fp) I1.os I1.base I1.hok I1.bare fun b hb => ⟨(f4 b hb).1.2.2.2.1, (f4 b hb).1.2.1, (f4 b hb).1.2.2.2.2.1, (f4 b hb).1.2.2.2.2.2⟩⟩
  have I6 : Inv (gx X (X.A.in1.in1.deeper (geOf X scope s4.heap.objs.size code)) s4 H2 (geOf X scope s4.heap.objs.size code) fp [(a, go)]) [] (wipe σ (own.map (·.2))) H2 (s5.setGen s4.gens.size .running) := I5.again rfl rfl (allBare_setGen I5.bare rfl)
  refine seg_gx0 (fun A' Q' E' hq => T.self A' 0 _ _ _ st hq) ?_
  exact seg_gx hcm T hco (fun q hq b hb z => by
    rw [List.mem_singleton.mp hq] at z
    have h1 := (f4 b hb).2
    rw [← show a = b from z] at h1
    exact Nat.lt_irrefl _ (Nat.lt_trans h1 M.big)) (hg _ _ _ _ _ _ _ rk) (ht _ _ _ _ _ _ _ rk) (he _ _ _ _ _ _ _ rk) turn m0 m0 0 _ _ H2 (Nat.le_refl _) I6 st nfp w0
end
end Y

namespace Y
open PySem PySem.Spec PyProof.Rows L2
section
variable {X : Cx} {elt tg iter : Expr} {ifs : List Expr} {scope : Scope} {own : List (Str × Nat)} {gpos pos p : Pos} {wi : TI} {c P : Addr} {k : Nat} {g : TG} {tt : TT} {te : TE}
theorem pe_allG (hr : Room (k + 1) X.A) (hcm : X.calm = true) (hN : X.N.Nodup) (hgl : Gl X "all") (hm : X.mg "all" = none) (hb : bootBuiltins "all" = some (.builtin "all")) (TB : GxR.TabB X.base X.mg c P) (hcode : X.env.code = .ref c) (hi : PI X tg iter wi) (ok : BlkOk X.N X.env.scope scope own)
    (hc : ∀ y ∈ scope.names, y.2 ≠ .cell) (hco : scope.isCoroutine = false) (h0 : scope.names.lookup (".0" : Str) = some NameKind.local)
    (hg : ∀ (A : Around) (s : Shared) (H : Hp) (C : Addr) (code : Value) (fp : List Addr) (pn : List (Addr × Obj)), Room k A → PG (gx X A s H (geOf X scope C code) fp pn) tg g)
    (ht : ∀ (A : Around) (s : Shared) (H : Hp) (C : Addr) (code : Value) (fp : List Addr) (pn : List (Addr × Obj)), Room k A → PTs (gx X A s H (geOf X scope C code) fp pn) ifs tt)
    (he : ∀ (A : Around) (s : Shared) (H : Hp) (C : Addr) (code : Value) (fp : List Addr) (pn : List (Addr × Obj)), Room k A → PE (gx X A s H (geOf X scope C code) fp pn) elt te)
    (hs : ∀ x, genFold iter X.env x = pure x := by intro _; rfl)
    (hst : starEach [gexp elt tg iter ifs scope gpos] X.env = (false, eval (gexp elt tg iter ifs scope gpos) X.env) :: starEach [] X.env := by rfl) :
    PE X (.Call (.Name "all" p) [gexp elt tg iter ifs scope gpos] [] pos) (tGen P false wi g tt te (own.map (·.2))) := by
  have hd : X.A.depth < recursionLimit := by have := hr.dp; omega
  refine ⟨fun pins s σ H Q I h => ?_⟩
  refine wpAny_Call_Name_kw (ld_blt I hgl hm hb ?_)
  refine PyProof.Rows.callWith_builtin1 ?_ hst (by rfl)
  rw [hst]
  show wpAny _ _ (spliced ((false, eval (gexp elt tg iter ifs scope gpos) X.env) :: backTo pos (starEach [] X.env))) _ _ s
  refine Calls.spliced_cons (gen_make TB hcode hi ok hc hco h0 hd hs I h fun J H2 it fp tn s4 s5 a code go I4 T st5 f4 hR M => ?_)
  refine Calls.spliced_nil ?_
  obtain ⟨W, ⟨m0, w0⟩, turn⟩ := hR
  obtain ⟨Xg, σw, rdy, gen, back⟩ := made_rdy hr hcm hN hco ok hc hg ht he I4 T st5 f4 M w0 turn
  refine call_function_tree (id := "all") F.kind_all F.plain_all F.entry_all (F.args_all1 _) ?_
  unfold Builtin.«all»
  refine wpAny_bind (m := oneArg "all" _) (wpAny_pure (wpAny_bind (wpAny_pyIter_gen rdy.2.1 ?_)))
  exact wpAny_pure ⟨plainId_quiet F.plain_all_loop _, all_gen hr.hd hd gen (fun H1 s1 I1 q => ⟨.bl false, H1, back H1 s1 I1, rfl, q⟩) (fun H1 s1 I1 q => ⟨.bl true, H1, back H1 s1 I1, rfl, q⟩) _ s5 rdy⟩
theorem pe_anyG (hr : Room (k + 1) X.A) (hcm : X.calm = true) (hN : X.N.Nodup) (hgl : Gl X "any") (hm : X.mg "any" = none) (hb : bootBuiltins "any" = some (.builtin "any")) (TB : GxR.TabB X.base X.mg c P) (hcode : X.env.code = .ref c) (hi : PI X tg iter wi) (ok : BlkOk X.N X.env.scope scope own)
    (hc : ∀ y ∈ scope.names, y.2 ≠ .cell) (hco : scope.isCoroutine = false) (h0 : scope.names.lookup (".0" : Str) = some NameKind.local)
    (hg : ∀ (A : Around) (s : Shared) (H : Hp) (C : Addr) (code : Value) (fp : List Addr) (pn : List (Addr × Obj)), Room k A → PG (gx X A s H (geOf X scope C code) fp pn) tg g)
    (ht : ∀ (A : Around) (s : Shared) (H : Hp) (C : Addr) (code : Value) (fp : List Addr) (pn : List (Addr × Obj)), Room k A → PTs (gx X A s H (geOf X scope C code) fp pn) ifs tt)
    (he : ∀ (A : Around) (s : Shared) (H : Hp) (C : Addr) (code : Value) (fp : List Addr) (pn : List (Addr × Obj)), Room k A → PE (gx X A s H (geOf X scope C code) fp pn) elt te)
    (hs : ∀ x, genFold iter X.env x = pure x := by intro _; rfl)
    (hst : starEach [gexp elt tg iter ifs scope gpos] X.env = (false, eval (gexp elt tg iter ifs scope gpos) X.env) :: starEach [] X.env := by rfl) :
    PE X (.Call (.Name "any" p) [gexp elt tg iter ifs scope gpos] [] pos) (tGen P true wi g tt te (own.map (·.2))) := by
  have hd : X.A.depth < recursionLimit := by have := hr.dp; omega
  refine ⟨fun pins s σ H Q I h => ?_⟩
  refine wpAny_Call_Name_kw (ld_blt I hgl hm hb ?_)
  refine PyProof.Rows.callWith_builtin1 ?_ hst (by rfl)
  rw [hst]
  show wpAny _ _ (spliced ((false, eval (gexp elt tg iter ifs scope gpos) X.env) :: backTo pos (starEach [] X.env))) _ _ s
  refine Calls.spliced_cons (gen_make TB hcode hi ok hc hco h0 hd hs I h fun J H2 it fp tn s4 s5 a code go I4 T st5 f4 hR M => ?_)
  refine Calls.spliced_nil ?_
  obtain ⟨W, ⟨m0, w0⟩, turn⟩ := hR
  obtain ⟨Xg, σw, rdy, gen, back⟩ := made_rdy hr hcm hN hco ok hc hg ht he I4 T st5 f4 M w0 turn
  refine call_function_tree (id := "any") F.kind_any F.plain_any F.entry_any (F.args_any1 _) ?_
  unfold Builtin.«any»
  refine wpAny_bind (m := oneArg "any" _) (wpAny_pure (wpAny_bind (wpAny_pyIter_gen rdy.2.1 ?_)))
  exact wpAny_pure ⟨plainId_quiet F.plain_any_loop _, any_gen hr.hd hd gen (fun H1 s1 I1 q => ⟨.bl true, H1, back H1 s1 I1, rfl, q⟩) (fun H1 s1 I1 q => ⟨.bl false, H1, back H1 s1 I1, rfl, q⟩) _ s5 rdy⟩
end
end Y

namespace Y
open PySem PySem.Spec PyProof.Rows L2 RT RZ
/-! ### generator expressions by values -/
/-- the world keeps the table of code objects at P -/
structure TabW (W : Wld) (P : Addr) : Prop where
  d : W.D P
  has : ∀ H, W.ok H → GxR.TabG H P
  stay : ∀ H H', W.ok H → GxR.Tabbed P H H' → W.ok H'
section
variable {K : PySem.W.Frag} {W : Wld} {B F0 F H H2 : Hp} {ρ ρ1 : PS'} {σ : L2.St} {P : Addr}
theorem Rep.tab (R : Rep K W B F0 ρ σ F H) (w : TabW W P) (t : GxR.Tabbed P H H2) : Rep K W B F0 ρ σ F H2 := by
  have ne : ∀ {G : Hp} {b : Addr} {o : HO}, G P = none → G b = some o → b ≠ P := fun {G b o} n e z => by
    rw [z, n] at e
    cases e
  refine ⟨fun a o e => ?_, R.f0, R.fd, fun a o e => ?_, w.stay _ _ R.ok t, R.wf, R.wb, R.ln, R.fz, fun i l e => ?_, R.ds⟩
  · rw [t.2 a (ne (R.wf P w.d) e)]
    exact R.fh a o e
  · rw [t.2 a (ne (R.wb P w.d) e)]
    exact R.bh a o e
  · obtain ⟨a, xs, e1, e2, e3, e4, e5, e6⟩ := R.own i l e
    exact ⟨a, xs, e1, by rw [t.2 a (fun z => e6 (z ▸ W.sub _ w.d))]; exact e2, e3, e4, e5, e6⟩
end
def GenK (sb : Bool) (g : PG') (pt : PT') (pe : PE') (vs : List Nat) (items : List T) (ρ1 : PS') (Φ : T → Bool → PS' → Prop) : Prop := (∀ i ∈ vs, ∀ l, ρ1[i]? ≠ some (Sl.own l)) ∧ ∃ Inv : Nat → PS' → Prop, Inv 0 (wipeP ρ1 vs) ∧
  (∀ i t ρ2, items[i]? = some t → Inv i ρ2 → g t false ρ2 fun ρ3 => pt ρ3 fun b ρ4 => if b = true then pe ρ4 fun y _ ρ5 => ∃ bb, y = .bl bb ∧ if bb = sb then Φ (.bl sb) false (restore ρ1 (wipeP ρ5 vs) vs) else Inv (i + 1) (wipeP ρ5 vs) else Inv (i + 1) (wipeP ρ4 vs)) ∧
  ∀ ρ2, Inv items.length ρ2 → Φ (.bl (!sb)) false (restore ρ1 ρ2 vs)
def pGen (sb : Bool) (pi : PI') (g : PG') (pt : PT') (pe : PE') (vs : List Nat) : PE' := fun ρ Φ => pi ρ fun items ρ1 => GenK sb g pt pe vs items ρ1 Φ
section
variable {X : Cx} {W : Wld} {P : Addr} {sl : List Nat} {pi : PI'} {g : PG'} {pt : PT'} {pe : PE'} {sb : Bool}
theorem sm_gen {wi : TI} {vs : List Nat} (w : TabW W P) (hsl : ∀ i ∈ sl, i ∈ vs) (hi : ∀ (B F0 : Hp) (ρ : PS') (σ : L2.St) (F H : Hp) (Φ : List T → PS' → Prop) (R : It → Hp → Prop), Rep X.K W B F0 ρ σ F H → pi ρ Φ →
    (∀ items ρ' F' H' J, Rep X.K W B F0 ρ' σ F' H' → Le F F' → ItOk X.K J F' items → Φ items ρ' → R J H') → wi σ H R) :
    SmE X.K W (tGen P sb wi (tGc X.K W sl g) (tT X.K W pt) (tE X.K W pe) vs) (pGen sb pi g pt pe vs) := fun B F0 ρ σ F H Φ Q R hp k => by
  refine hi B F0 ρ σ F H _ _ R hp fun items ρ1 F1 H1 J R1 le1 it q1 => ⟨w.has _ R1.ok, fun H2 tb => ?_⟩
  obtain ⟨now, Inv, h0, hstep, hend⟩ := q1
  have R2 := R1.tab w tb
  let Pv : Nat → Hp → Prop := fun i H' => ∃ ρ2 F2, Inv i ρ2 ∧ Rep X.K W B F0 ρ2 (wipe σ vs) F2 H' ∧ Le F1 F2
  refine ⟨fun i m H' => m = items.length - i ∧ i ≤ items.length ∧ Pv i H', ⟨_, rfl, Nat.zero_le _, wipeP ρ1 vs, F1, h0, R2.wipe vs, Le.refl _⟩, ?_⟩
  rintro i m H3 ⟨rfl, hi2, ρ2, F2, inv, R3, le2⟩
  by_cases hlt : i < items.length
  · refine .inr ⟨it.go i H3 (le2.trans R3.fh) hlt, Pv (i + 1), fun H' p' => ⟨items.length - (i + 1), by omega, rfl, hlt, p'⟩, fun x H4 y => ?_⟩
    obtain ⟨t, et, hx⟩ := it.yld i H3 x H4 (le2.trans R3.fh) hlt y
    obtain ⟨F4, R4, le4, tvx⟩ : ∃ F4, Rep X.K W B F0 ρ2 (wipe σ vs) F4 H4 ∧ Le F2 F4 ∧ Tv X.K F4 t x := by
      rcases hx with ⟨rfl, tvx⟩ | ⟨p, ys, l, rfl, rfl, tvl, np, rfl⟩
      · exact ⟨F2, R3, Le.refl _, Tv.le le2 _ _ tvx⟩
      · exact R3.newW np (TvL.le le2 _ _ tvl)
    refine sm_tG B F0 ρ2 (wipe σ vs) F4 H4 t false x _ _ R4 (VR.fz tvx) (hstep i t ρ2 et inv) fun ρ3 σ3 F5 H5 R5 le5 out len q5 => ?_
    have we : wipe σ3 vs = wipe σ vs := wipe_eq (fun j hj => out j (fun z => hj (hsl j z))) (len.trans (wipe_length ..))
    refine ⟨we, ?_⟩
    refine sm_tT B F0 ρ3 σ3 F5 H5 _ _ R5 q5 fun b ρ4 F6 H6 R6 le6 q6 => ?_
    have le16 : Le F1 F6 := le2.trans (le4.trans (le5.trans le6))
    cases b with
    | false =>
      rw [if_neg Bool.false_ne_true] at q6 ⊢
      exact ⟨_, F6, q6, we ▸ R6.wipe vs, le16⟩
    | true =>
      rw [if_pos rfl] at q6 ⊢
      refine sm_tE.fz R6 q6 fun y ρ5 v F7 H7 R7 le7 tvy q7 => ?_
      obtain ⟨bb, rfl, q7⟩ := q7
      refine ⟨bb, tvy, fun e => ?_, fun e => ?_⟩
      · rw [if_pos e] at q7
        have R9 : Rep X.K W B F0 (wipeP ρ5 vs) (wipe σ vs) F7 H7 := we ▸ R7.wipe vs
        exact k _ false _ _ F7 H7 (R9.unwipe R1 (le16.trans le7) now) (le1.trans (le16.trans le7)) VR.bl q7
      · rw [if_neg e] at q7
        exact ⟨_, F7, q7, we ▸ R7.wipe vs, le16.trans le7⟩
  · have e : i = items.length := by omega
    subst e
    exact .inl ⟨it.stop _ H3 (le2.trans R3.fh) (Nat.le_refl _), k _ false _ _ F2 H3 (R3.unwipe R1 le2 now) (le1.trans le2) VR.bl (hend ρ2 inv)⟩
variable {elt tg iter : Expr} {ifs : List Expr} {scope : Scope} {own : List (Str × Nat)} {gpos pos p : Pos} {c : Addr} {k : Nat}
theorem qe_allG (hr : Room (k + 1) X.A) (hcm : X.calm = true) (w : TabW W P) (TB : GxR.TabB X.base X.mg c P) (hcode : X.env.code = .ref c) (hN : X.N.Nodup) (hsl : ∀ i ∈ sl, i ∈ own.map (·.2)) (hgl : Gl X "all") (hm : X.mg "all" = none) (hb : bootBuiltins "all" = some (.builtin "all"))
    (hi : QI X W tg iter pi) (ok : BlkOk X.N X.env.scope scope own) (hc : ∀ y ∈ scope.names, y.2 ≠ .cell) (hco : scope.isCoroutine = false) (h0 : scope.names.lookup (".0" : Str) = some NameKind.local)
    (hg : ∀ (A : Around) (s : Shared) (H : Hp) (C : Addr) (code : Value) (fp : List Addr) (pn : List (Addr × Obj)), Room k A → QG (gx X A s H (geOf X scope C code) fp pn) W tg sl g)
    (ht : ∀ (A : Around) (s : Shared) (H : Hp) (C : Addr) (code : Value) (fp : List Addr) (pn : List (Addr × Obj)), Room k A → QTs (gx X A s H (geOf X scope C code) fp pn) W ifs pt)
    (he : ∀ (A : Around) (s : Shared) (H : Hp) (C : Addr) (code : Value) (fp : List Addr) (pn : List (Addr × Obj)), Room k A → QE (gx X A s H (geOf X scope C code) fp pn) W elt pe)
    (hs : ∀ x, genFold iter X.env x = pure x := by intro _; rfl)
    (hst : starEach [gexp elt tg iter ifs scope gpos] X.env = (false, eval (gexp elt tg iter ifs scope gpos) X.env) :: starEach [] X.env := by rfl) :
    QE X W (.Call (.Name "all" p) [gexp elt tg iter ifs scope gpos] [] pos) (pGen false pi g pt pe (own.map (·.2))) := by
  obtain ⟨wi, h1, h2⟩ := hi.ex
  exact ⟨_, pe_allG hr hcm hN hgl hm hb TB hcode h1 ok hc hco h0 (fun A s H C co fp pn r => (hg A s H C co fp pn r).can) (fun A s H C co fp pn r => (ht A s H C co fp pn r).ex) (fun A s H C co fp pn r => (he A s H C co fp pn r).can) hs hst, sm_gen w hsl h2⟩
theorem qe_anyG (hr : Room (k + 1) X.A) (hcm : X.calm = true) (w : TabW W P) (TB : GxR.TabB X.base X.mg c P) (hcode : X.env.code = .ref c) (hN : X.N.Nodup) (hsl : ∀ i ∈ sl, i ∈ own.map (·.2)) (hgl : Gl X "any") (hm : X.mg "any" = none) (hb : bootBuiltins "any" = some (.builtin "any"))
    (hi : QI X W tg iter pi) (ok : BlkOk X.N X.env.scope scope own) (hc : ∀ y ∈ scope.names, y.2 ≠ .cell) (hco : scope.isCoroutine = false) (h0 : scope.names.lookup (".0" : Str) = some NameKind.local)
    (hg : ∀ (A : Around) (s : Shared) (H : Hp) (C : Addr) (code : Value) (fp : List Addr) (pn : List (Addr × Obj)), Room k A → QG (gx X A s H (geOf X scope C code) fp pn) W tg sl g)
    (ht : ∀ (A : Around) (s : Shared) (H : Hp) (C : Addr) (code : Value) (fp : List Addr) (pn : List (Addr × Obj)), Room k A → QTs (gx X A s H (geOf X scope C code) fp pn) W ifs pt)
    (he : ∀ (A : Around) (s : Shared) (H : Hp) (C : Addr) (code : Value) (fp : List Addr) (pn : List (Addr × Obj)), Room k A → QE (gx X A s H (geOf X scope C code) fp pn) W elt pe)
    (hs : ∀ x, genFold iter X.env x = pure x := by intro _; rfl)
    (hst : starEach [gexp elt tg iter ifs scope gpos] X.env = (false, eval (gexp elt tg iter ifs scope gpos) X.env) :: starEach [] X.env := by rfl) :
    QE X W (.Call (.Name "any" p) [gexp elt tg iter ifs scope gpos] [] pos) (pGen true pi g pt pe (own.map (·.2))) := by
  obtain ⟨wi, h1, h2⟩ := hi.ex
  exact ⟨_, pe_anyG hr hcm hN hgl hm hb TB hcode h1 ok hc hco h0 (fun A s H C co fp pn r => (hg A s H C co fp pn r).can) (fun A s H C co fp pn r => (ht A s H C co fp pn r).ex) (fun A s H C co fp pn r => (he A s H C co fp pn r).can) hs hst, sm_gen w hsl h2⟩
end
end Y

namespace Y
open PySem PySem.Spec PyProof.Rows L2 RT RZ
/-! ### defs whose code object is known -/
def DfT (K : PySem.W.Frag) (mg : Str → Option Value) (x : Str) (st : Stmt) (c : Addr) : Prop := ∃ f fd, FunD K x x (defArgs st) (defBody st) (defScope st) [] [] f fd ∧ mg x = some (.ref f) ∧ fd.code = .ref c
theorem DfT.df {K : PySem.W.Frag} {mg : Str → Option Value} {x : Str} {st : Stmt} {c : Addr} (D : DfT K mg x st c) : Df K mg x st := let ⟨f, fd, F, g, _⟩ := D; ⟨f, fd, F, g⟩
theorem okT {P : Program} {w : World} {K : PySem.W.Frag} {mg : Str → Option Value} {base : Heap} {x qual : Str} {params : Arguments} {body : List Stmt} {scope : Scope} {dvs : List V} {kws : List (Str × V)} {f : Addr} {fd : FuncData} {CX : CXT} {N ps : List Str} {k : Nat} {sp : Sp} {c : Addr}
    (F : FunD K x qual params body scope dvs kws f fd) (S : FnScope N ps scope) (hc : fd.code = .ref c) (len : ∀ vs H Q E, sp vs H Q E → vs.length = ps.length)
    (hbody : ∀ (A : Around) (outer : List Env) (s : Shared) (H : Hp) (vs : List V) (Q : VK) (E : XK), Room k (A.deeper (envOfC qual scope s.heap.objs.size f (.ref c))) → sp vs H Q E →
      ∃ t, PSs (cxOf CX P w K mg base N qual scope f (.ref c) A outer s H E) body t ∧ t { nx := fun _ H' => Q .non H', rt := Q } (L2.start N vs) H) : FnOk P w K mg base CX (k + 1) f fd ps sp := by
  obtain ⟨oc, od, dV, kV, doc, pm, an, cdv, ct, osl, rfl, lk, hcd, h1, h2⟩ := F.ex
  have e : cdv = .ref c := hc
  subst e
  exact fn_of lk hcd S len hbody
open Classical in
theorem CalQ.mkT {P : Program} {w : World} {K : PySem.W.Frag} {mg : Str → Option Value} {base : Heap} {W : Wld} {x : Str} {st : Stmt} {N ps : List Str} {k : Nat} {pf : PSp} {c : Addr} (D : DfT K mg x st c) (S : FnScope N ps (defScope st))
    (hb : ∀ (kV doc pm : Value) (an : Option Addr) (cdv ct : Value) (us : List Value), us.length = ps.length → bindArgs (PySem.W.fnOf x x (defArgs st) (defBody st) (defScope st) .none kV doc pm an cdv ct) ⟨us, []⟩ = pure (ps.zip us))
    (hl : ∀ ts Φ, pf ts Φ → ts.length = ps.length)
    (hbody : ∀ (f : Addr) (A : Around) (outer : List Env) (s : Shared) (H : Hp) (E : XK), Room k (A.deeper (envOfC x (defScope st) s.heap.objs.size f (.ref c))) →
      ∃ p, QSs (cxOf CX0 P w K mg base N x (defScope st) f (.ref c) A outer s H E) W (defBody st) p ∧ ∀ ts Φ, pf ts Φ → p { nx := fun _ => Φ .non false, rt := Φ } (startP N ts)) :
    CalQ P w K mg base W x (k + 1) ps pf := by
  obtain ⟨f, fd, F, g, hcd⟩ := D
  refine ⟨f, fd, g, F.kp, F.bindsN hb, ?_⟩
  refine okT F S hcd (fun vs H Q E h => ?_) (fun A outer s H vs Q E hr h => ?_)
  · obtain ⟨ts, F, Ψ, _, _, _, h2, h3, _⟩ := h
    rw [h2.length]
    exact hl _ _ h3
  · obtain ⟨p, hQ, hp⟩ := hbody f A outer s H E hr
    obtain ⟨t, h1, h2⟩ := hQ.ex
    refine ⟨t, h1, ?_⟩
    obtain ⟨ts, F, Ψ, q2, q3, q4, q5, q6, q7⟩ := h
    have lv := q5.length
    have R : Rep K W (fun a => if W.D a then none else H a) F (startP N ts) (L2.start N vs) F H := by
      refine ⟨q2, Le.refl _, fun a e => .inl e, fun a o e => ?_, q3, q4, fun a e => if_pos e, ?_, fun i t e => ?_, fun i l e => ?_, fun i j l m e => ?_⟩
      · have e : (if W.D a then none else H a) = some o := e
        split at e
        · cases e
        · exact e
      · unfold startP L2.start
        rw [List.length_append, List.length_append, List.length_map, List.length_map, List.length_replicate, List.length_replicate, lv]
      · unfold startP at e
        unfold L2.start
        by_cases hi : i < ts.length
        · rw [List.getElem?_append_left (by simpa using hi), List.getElem?_map, List.getElem?_eq_getElem hi] at e
          have e2 : ts[i] = t := Sl.fz.inj (Option.some.inj e)
          obtain ⟨v, e3, e4⟩ := q5.get (List.getElem?_eq_getElem hi)
          refine ⟨v, ?_, e2 ▸ e4⟩
          rw [List.getElem?_append_left (by rw [List.length_map]; omega), List.getElem?_map, e3]
          rfl
        · rw [List.getElem?_append_right (by simpa using hi), List.getElem?_replicate] at e
          split at e <;> cases e
      · unfold startP at e
        by_cases hi : i < ts.length
        · rw [List.getElem?_append_left (by simpa using hi), List.getElem?_map, List.getElem?_eq_getElem hi] at e
          cases e
        · rw [List.getElem?_append_right (by simpa using hi), List.getElem?_replicate] at e
          split at e <;> cases e
      · unfold startP at e
        by_cases hi : i < ts.length
        · rw [List.getElem?_append_left (by simpa using hi), List.getElem?_map, List.getElem?_eq_getElem hi] at e
          cases e
        · rw [List.getElem?_append_right (by simpa using hi), List.getElem?_replicate] at e
          split at e <;> cases e
    have fin : ∀ {τ : T} {f : Bool} {v : V} {ρ : PS'} {σ : L2.St} {F' H' : Hp}, Rep K W (fun a => if W.D a then none else H a) F ρ σ F' H' → VR K W (fun a => if W.D a then none else H a) ρ σ F' H' τ f v → Ψ τ f → Q v H' := fun {τ f v ρ σ F' H'} R' vr hΨ => by
      have bn : ∀ a, ¬ W.D a → (if W.D a then none else H a) = none → H a = none := fun a hd e => by rwa [if_neg hd] at e
      refine q7 τ f v F' H' hΨ ⟨R'.f0, R'.fh, fun a e => ?_, fun a o e hd => R'.bh a o (by show (if W.D a then none else H a) = some o; rw [if_neg hd]; exact e), R'.ok⟩ ?_
      · rcases R'.fd a e with z | z
        · exact .inl z
        · exact .inr (bn a (fun hd => e (R'.wf a hd)) z)
      · cases f with
        | false => exact vr
        | true =>
          obtain ⟨a, o, e1, e2, e3, e5, e6, e7, _⟩ := vr
          exact ⟨a, o, e1, e2, e3, e5, bn a (fun hd => e7 (W.sub _ hd)) e6⟩
    exact h2 _ F (startP N ts) (start N vs) F H _ _ R (hp ts Ψ q6) ⟨fun ρ σ F' H' R' _ hΨ => fin R' VR.non hΨ, fun τ f v ρ σ F' H' R' _ vr hΨ => fin R' vr hΨ, fun _ _ _ _ _ _ h => h.elim, fun _ _ _ _ _ _ h => h.elim⟩
theorem nocell_by {l : List (Str × NameKind)} (h : (l.all fun y => y.2 != .cell) = true) : ∀ y ∈ l, y.2 ≠ .cell := fun y hy e => by
  have := List.all_eq_true.mp h y hy
  rw [e] at this
  cases this
end Y

namespace Y
open PySem PySem.Spec PyProof.Rows L2
/-! ### sum of a generator expression: the list that holds the sum so far is at S -/
abbrev sOb (acc : Int) (t : Tok) (c : Nat) : Obj := { cls := .type "list", dict := none, data := .seq #[.int acc t] c, slots := #[] }
def YSumG (Xg : Cx) (fp : List Addr) (S : Addr) (σw : L2.St) : Protocol := fun n s₀ v s1 kap => ∃ (acc : Int) (t : Tok) (c : Nat) (x : Int) (t' : Tok) (H1 : Hp), v = .int x t' ∧ s₀.heap.get? S = some (sOb acc t c) ∧ Inv Xg [(S, sOb acc t c)] σw H1 s1 ∧
  ∀ (s2 : Shared) (t2 : Tok) (c2 : Nat), s2.heap.get? S = some (sOb (acc + x) t2 c2) → Inv Xg [(S, sOb (acc + x) t2 c2)] σw H1 s2 → (∀ b ∈ fp, ∀ o, s1.heap.get? b = some o → s2.heap.get? b = some o) → kap (.send .none) s2
def RSumG (Xg : Cx) (S : Addr) (σw : L2.St) (Qe : Int → Hp → Prop) : GenEnd := fun n s₀ r s1 => r = .ok .next ∧ ∃ (acc : Int) (t : Tok) (c : Nat) (H1 : Hp), s₀.heap.get? S = some (sOb acc t c) ∧ Inv Xg [(S, sOb acc t c)] σw H1 s1 ∧ Qe acc H1
def TurnS (J : It) (g : TG) (tt : TT) (te : TE) (vs : List Nat) (σ : L2.St) (Qe : Int → Hp → Prop) (W : Nat → Nat → Int → Hp → Prop) : Prop :=
  ∀ i m acc H, W i m acc H → (J.stop i H ∧ Qe acc H) ∨ (J.go i H ∧ ∃ Nx : Int → Hp → Prop, (∀ a' H', Nx a' H' → ∃ m', m' < m ∧ W (i + 1) m' a' H') ∧ ∀ x H', J.yld i H x H' → g x (wipe σ vs) H' fun σ2 H2 => wipe σ2 vs = wipe σ vs ∧ tt σ2 H2 fun b H3 =>
    if b = true then te σ2 H3 fun y H4 => ∃ v : Int, y = .int v ∧ Nx (acc + v) H4 else Nx acc H3)
section
variable {X : Cx} {σ : L2.St} {elt tg iter : Expr} {ifs : List Expr} {scope : Scope} {gpos : Pos} {it S : Addr} {fp : List Addr} {tn : Nat → Heap → Prop} {J : It} {g : TG} {tt : TT} {te : TE} {vs : List Nat} {Qe : Int → Hp → Prop}
theorem seg_gs {A : Around} {s0 : Shared} {H0 : Hp} {ge : Env} {pn : List (Addr × Obj)} {W : Nat → Nat → Int → Hp → Prop} (hc : X.calm = true) (T : Turn X.prog X.w X.K tg J fp it tn) (hco : ge.scope.isCoroutine = false)
    (hpn : ∀ p ∈ pn, ∀ b ∈ fp, p.1 ≠ b) (hS : ∀ b ∈ fp, S ≠ b)
    (hg : PG (gx X (A.deeper ge) s0 H0 ge fp pn) tg g) (ht : PTs (gx X (A.deeper ge) s0 H0 ge fp pn) ifs tt) (he : PE (gx X (A.deeper ge) s0 H0 ge fp pn) elt te) (turn : TurnS J g tt te vs σ Qe W) :
    ∀ (m n i : Nat) (acc : Int) (t : Tok) (c : Nat) (z s5 : Shared) (H5 : Hp), m ≤ n → z.heap.get? S = some (sOb acc t c) → Inv (gx X (A.deeper ge) s0 H0 ge fp pn) [(S, sOb acc t c)] (wipe σ vs) H5 s5 → tn i s5.heap → (∀ b ∈ fp, H5 b = none) → W i m acc H5 →
      Seg (model X.prog X.w) A (RSumG (gx X (A.deeper ge) s0 H0 ge fp pn) S (wipe σ vs) Qe) (YSumG (gx X (A.deeper ge) s0 H0 ge fp pn) fp S (wipe σ vs)) (n + 1) z
        (.compLoop (gexp elt tg iter ifs scope gpos) 0 (.ref it) .none ge) ((model X.prog X.w).den (.compLoop (gexp elt tg iter ifs scope gpos) 0 (.ref it) .none ge)) [] s5 := by
  have fpk : ∀ {acc : Int} {t : Tok} {c : Nat} {σ' : L2.St} {H' : Hp} {s' : Shared}, Inv (gx X (A.deeper ge) s0 H0 ge fp pn) [(S, sOb acc t c)] σ' H' s' → (∀ b ∈ fp, H' b = none) → ∀ b ∈ fp, FpOk (gx X (A.deeper ge) s0 H0 ge fp pn) [(S, sOb acc t c)] H' b := fun {acc t c σ' H' s'} I' hn b hb =>
    ⟨hn b hb, (I'.ok.exf b hb).1, I'.ok.exfs b hb, .inl hb, fun x c e => (I'.ok.exf b hb).2 x c e, fun p hp => (List.mem_append.mp hp).elim (fun z => hpn p z b hb) fun z => by
      rw [List.mem_singleton.mp z]
      exact hS b hb⟩
  intro m
  induction m using Nat.strongRecOn with
  | _ m ih =>
    intro n i acc t c z s5 H5 hmn hz I5 st5 n5 w5
    show Seg _ A _ _ _ z _ ((compTurn (gexp elt tg iter ifs scope gpos) 0 (.ref it) .none ge).onRaise (leaving ge)) [] s5
    rw [compTurn_gen]; rw [Sem.onRaise_eq_wrap]
    refine seg_bind_wrap (wpAny_standAt (s := s5) ?_)
    rcases turn i m acc H5 w5 with ⟨stop, qq⟩ | ⟨go, Nx, hNx, step⟩
    · have td := T.done (gx X (A.deeper ge) s0 H0 ge fp pn) rfl rfl rfl hc i _ s5 _ H5 (fun _ _ => False) I5 (fpk I5 n5) st5 stop
      refine seg_bind_wrap ?_
      rw [over_comp]
      refine thnF td fun r s6 ⟨hr, I6⟩ => ?_
      subst hr
      exact seg_end (.ok .next) ⟨rfl, acc, t, c, H5, hz, I6, qq⟩
    · have ti := T.item (gx X (A.deeper ge) s0 H0 ge fp pn) rfl rfl rfl hc i _ s5 _ H5 (fun _ _ => False) I5 (fpk I5 n5) st5 go
      refine seg_bind_wrap ?_
      rw [over_comp]
      refine thnF ti fun r s6 ⟨u, hr, h6⟩ => ?_
      subst hr
      refine seg_bind_wrap ?_
      rw [over_comp]
      refine thnF h6 fun _ s7 ⟨x, H7, I7, r7, y7, st7, n7⟩ => ?_
      have J7 := I7.pinned (fpk I7 n7) (T.obj _ _ st7)
      refine seg_bind_wrap ?_
      rw [over_comp]
      refine thnF (hg.run _ s7 _ H7 x u _ J7 r7 (step x H7 y7)) fun _ s8 ⟨σ8, H8, I8, hw8, q8⟩ => ?_
      refine seg_bind_wrap ?_
      rw [over_comp]
      refine thnF (ht.run _ s8 σ8 H8 _ I8 q8) fun b s9 ⟨H9, I9, q9⟩ => ?_
      -- the turn's end
      have rest : ∀ {s' : Shared} {H' : Hp}, Inv (gx X (A.deeper ge) s0 H0 ge fp pn) ([(S, sOb acc t c)] ++ pinsAt fp s7.heap) σ8 H' s' → Inv (gx X (A.deeper ge) s0 H0 ge fp pn) [(S, sOb acc t c)] (wipe σ vs) H' s' ∧ tn (i + 1) s'.heap ∧ ∀ b ∈ fp, H' b = none := fun {s' H'} I' => by
        have pin : ∀ b ∈ fp, ∀ o, s7.heap.get? b = some o → s'.heap.get? b = some o ∧ H' b = none := fun b hb o e =>
          have q := I'.pin (b, o) (List.mem_append_right _ (List.mem_append_right _ (mem_pinsAt hb e)))
          ⟨q.1, q.2.1⟩
        refine ⟨(I'.unpinned (pins := [(S, sOb acc t c)])).weak (by rw [wipe_length, ← wipe_length σ8 vs, hw8, wipe_length]) (fun j v e => ?_), T.keep _ _ _ st7 fun b hb o e => (pin b hb o e).1, fun b hb => ?_⟩
        · rw [← hw8] at e
          exact (wipe_some e).1
        · obtain ⟨o, e, _⟩ := T.obj _ _ st7 b hb
          exact (pin b hb o e).2
      cases b with
      | false =>
        obtain ⟨m', hm, w'⟩ := hNx _ H9 q9
        obtain ⟨e1, e2, e3⟩ := rest I9
        simp only [Bool.false_eq_true, if_false]
        exact seg_again (by rfl) (ih m' hm n (i + 1) acc t c z s9 H9 (by omega) hz e1 e2 e3 w')
      | true =>
        simp only [if_true]
        have hyo : ∀ v, yieldOut ge v = yieldValue v := fun v => by
          unfold yieldOut
          rw [hco]
          rfl
        simp only [hyo]
        rw [Sem.bind_eq_wrap', Sem.bind_eq_wrap']; rw [Sem.wrap_wrap, Sem.wrap_wrap]
        refine seg_wrap ?_
        rw [over_comp]
        refine thnF (he.run _ s9 σ8 H9 _ I9 q9) fun y s10 ⟨yv, H10, I10, r10, xx, ey, q2⟩ => ?_
        subst ey
        obtain ⟨t', r10⟩ := r10
        obtain ⟨e1, e2, e3⟩ := rest I10
        refine seg_at ?_
        refine seg_yield (hfs := rfl) (hg := rfl) (hfg := rfl) ⟨acc, t, c, xx, t', H10, r10, hz, e1, fun s2 t2 c2 hS2 I2 f2 => ?_⟩
        obtain ⟨m', hm, w'⟩ := hNx _ H10 q2
        obtain ⟨n', rfl⟩ : ∃ n', n = n' + 1 := ⟨n - 1, by omega⟩
        exact seg_again (by rfl) (ih m' hm n' (i + 1) _ t2 c2 s2 s2 H10 (by omega) hS2 I2 (T.keep _ _ _ e2 f2) e3 w')
end
section
variable {P : Program} {w : World} {A : Around} {Xg : Cx} {σw : L2.St} {Qe : Int → Hp → Prop} {R : Result → Shared → Prop} {a S : Addr} {g : Nat} {fp : List Addr}
def RdyS (P : Program) (w : World) (A : Around) (Xg : Cx) (fp : List Addr) (S : Addr) (σw : L2.St) (Qe : Int → Hp → Prop) (a : Addr) (g n : Nat) (s : Shared) : Prop :=
  s.heap.NoLimit ∧ s.heap.IsGen a g ∧ ∃ gs, s.gens[g]? = some gs ∧ gs.Goes (model P w) A.in1.in1 (RSumG Xg S σw Qe) (YSumG Xg fp S σw) n (.send .none) (s.setGen g .running)
theorem rdyS_next {acc : Int} {t : Tok} {c n : Nat} {s : Shared} {Q : Option Value → Shared → Prop} {E : Value → Shared → Prop} (hh : A.handled = none) (hroom : A.depth < recursionLimit) (gen : ∀ pins σ H s, Inv Xg pins σ H s → s.heap.IsGen a g)
    (h : RdyS P w A Xg fp S σw Qe a g n s) (hS : s.heap.get? S = some (sOb acc t c))
    (hy : ∀ (x : Int) (t' : Tok) (H1 : Hp) (s1 : Shared), Inv Xg [(S, sOb acc t c)] σw H1 s1 → (∀ (s2 : Shared) (t2 : Tok) (c2 : Nat), s2.gens = s1.gens → s2.heap.get? S = some (sOb (acc + x) t2 c2) → Inv Xg [(S, sOb (acc + x) t2 c2)] σw H1 s2 →
      (∀ b ∈ fp, ∀ o, s1.heap.get? b = some o → s2.heap.get? b = some o) → ∃ m, n = m + 1 ∧ RdyS P w A Xg fp S σw Qe a g m s2) → Q (some (.int x t')) s1)
    (he : ∀ (H1 : Hp) (s1 : Shared), Inv Xg [(S, sOb acc t c)] σw H1 s1 → Qe acc H1 → Q none s1) : wpAny (model P w) A.in1 (pyNext (.ref a)) Q E s := by
  obtain ⟨hl, hg, gs, hgs, hgo⟩ := h
  have hlt := gens_lt hgs
  refine GenW.wpAny_gsz (n := g + 1) hlt ?_
  refine wpAny_pyNext_genexpQ (A := A.in1) (P := fun n s₀ s₁ => ∃ (acc : Int) (t : Tok) (c : Nat) (H1 : Hp), s₀.heap.get? S = some (sOb acc t c) ∧ Inv Xg [(S, sOb acc t c)] σw H1 s₁ ∧ Qe acc H1) hh hl hroom hg hgs hgo (fun v s₁ gs' hb hv => ?_) (fun s₁ hp h' hk => ?_)
  · intro hsz
    obtain ⟨acc', t1, c1, x, t', H1, rfl, e0, I1, q2⟩ := hv
    rw [show (s.setGen g .running).heap.get? S = some (sOb acc t c) from hS] at e0
    obtain ⟨rfl, rfl, rfl⟩ : acc = acc' ∧ t = t1 ∧ c = c1 := by
      injection e0 with e0
      injection e0 with _ _ e0
      injection e0 with e1 e2
      injection e1 with e1
      injection e1 with e1
      injection e1 with e1 e3
      exact ⟨e1, e3, e2⟩
    have I2 : Inv Xg [(S, sOb acc t c)] σw H1 (s₁.setGen g gs') := I1.again rfl rfl (allBare_setGen I1.bare hb)
    have hsz' : g + 1 ≤ s₁.gens.size := by rw [GenW.setGen_size] at hsz; exact hsz
    refine hy x t' H1 _ I2 fun s2 t2 c2 eg eS I3 f2 => ?_
    have I4 : Inv Xg [(S, sOb (acc + x) t2 c2)] σw H1 (s2.setGen g .running) := I3.again rfl rfl (allBare_setGen I3.bare rfl)
    have q2 := q2 (s2.setGen g .running) t2 c2 eS I4 f2
    cases n with
    | zero => exact q2.elim
    | succ m =>
      refine ⟨m, rfl, I3.nolimit, gen _ _ _ _ I3, gs', ?_, q2⟩
      rw [eg]
      exact setGen_at (by omega)
  · intro hsz
    obtain ⟨acc', t1, c1, H1, e0, I1, q⟩ := hp
    rw [show (s.setGen g .running).heap.get? S = some (sOb acc t c) from hS] at e0
    obtain ⟨rfl, rfl, rfl⟩ : acc = acc' ∧ t = t1 ∧ c = c1 := by
      injection e0 with e0
      injection e0 with _ _ e0
      injection e0 with e1 e2
      injection e1 with e1
      injection e1 with e1
      injection e1 with e1 e3
      exact ⟨e1, e3, e2⟩
    have I2 : Inv Xg [(S, sOb acc t c)] σw H1 (s₁.setGen g .finished) := I1.again rfl rfl (allBare_setGen I1.bare rfl)
    refine he H1 _ ?_ q
    have I3 := I2.turnedL (h' := h') (t' := s₁.toks) (ch := []) (fun b o _ e => hk b o e) (fun b z => absurd z (by simp))
    exact I3
/-- the sum's list has turned -/
theorem inv_sum {pins : List (Addr × Obj)} {H1 : Hp} {s3 : Shared} {acc acc' : Int} {t t2 : Tok} {c c2 t' : Nat} {h' : Heap} (I : Inv Xg [(S, sOb acc t c)] σw H1 s3) (f : FpOk Xg [] H1 S) (k : ∀ b o, b ≠ S → s3.heap.get? b = some o → h'.get? b = some o) (e : h'.get? S = some (sOb acc' t2 c2)) :
    Inv Xg [(S, sOb acc' t2 c2)] σw H1 { s3 with heap := h', toks := t' } := by
  have I0 : Inv Xg [] σw H1 s3 := I.unpinned (pins := []) (pl := [(S, sOb acc t c)])
  have I1 := I0.turnedL (h' := h') (t' := t') (ch := [S]) (fun b o hb e => k b o (fun z => hb (by rw [z]; exact List.mem_singleton.mpr rfl)) e) (fun b hb => by rw [List.mem_singleton.mp hb]; exact f)
  refine I1.pins_of fun p hp => ?_
  rw [List.mem_singleton.mp hp]
  exact ⟨e, f.1, f.2.1, f.2.2.1, fun v q => by cases q⟩
end
end Y

namespace Y
open PySem PySem.Spec PyProof.Rows L2
section
variable {P : Program} {w : World} {A : Around} {Xg : Cx} {σw : L2.St} {Qe : Int → Hp → Prop} {R : Result → Shared → Prop} {a S : Addr} {g : Nat} {fp : List Addr}
theorem pin_S {acc : Int} {t : Tok} {c : Nat} {H1 : Hp} {s3 : Shared} (I : Inv Xg [(S, sOb acc t c)] σw H1 s3) : s3.heap.get? S = some (sOb acc t c) ∧ H1 S = none :=
  have q := I.pin (S, sOb acc t c) (List.mem_append_right _ (List.mem_singleton.mpr rfl))
  ⟨q.1, q.2.1⟩
/-- a turn of sum: what is wanted of the states that follow -/
theorem sum_step {n : Nat} (hh : A.handled = none) (hroom : A.depth < recursionLimit) (gen : ∀ pins σ H s, Inv Xg pins σ H s → s.heap.IsGen a g) (hfp : ∀ b ∈ fp, S ≠ b) (hf : ∀ H, H S = none → FpOk Xg [] H S)
    (fe : ∀ (acc : Int) (t : Tok) (c : Nat) H1 s1, Inv Xg [(S, sOb acc t c)] σw H1 s1 → Qe acc H1 → R (.ok (.ret (.int acc t))) s1)
    (nx : ∀ m, n = m + 1 → ∀ (acc : Int) (t : Tok) (c : Nat) (st : Int) (s : Shared), (st = 0 ∨ st = 2) → RdyS P w A Xg fp S σw Qe a g m s → s.heap.get? S = some (sOb acc t c) → codeAny (model P w) A (.builtin "sum.loop" ⟨[.ref a, .ref S, rawInt st, rawInt 0], []⟩) R s)
    (acc : Int) (t : Tok) (c : Nat) (st : Int) (s : Shared) (hst : st = 0 ∨ st = 2) (h : RdyS P w A Xg fp S σw Qe a g n s) (hS : s.heap.get? S = some (sOb acc t c)) :
    codeAny (model P w) A (.builtin "sum.loop" ⟨[.ref a, .ref S, rawInt st, rawInt 0], []⟩) R s := by
  refine codeAny_builtin F.entry_sum_loop ?_
  rw [Around.under_plainId F.plain_sum_loop _]
  show wpAny _ A.in1 (seqItems? (.ref S) >>= _) _ _ s
  refine wpAny_bind (wpAny_seqItems hS rfl ?_)
  show wpAny _ A.in1 (tryCatch (pyNext (.ref a)) _ >>= _) _ _ s
  refine wpAny_bind (wpAny_tryCatch (rdyS_next hh hroom gen h hS (fun x t' H1 s1 I1 q => ?_) (fun H1 s1 I1 q => ?_)))
  · obtain ⟨hS', hn⟩ := pin_S I1
    have go : ∀ (h' : Heap) (tk : Nat) (t2 : Tok) (c2 : Nat) (st' : Int), (st' = 0 ∨ st' = 2) → h'.get? S = some (sOb (acc + x) t2 c2) → (∀ b o, b ≠ S → s1.heap.get? b = some o → h'.get? b = some o) →
        codeAny (model P w) A (.builtin "sum.loop" ⟨[.ref a, .ref S, rawInt st', rawInt 0], []⟩) R { s1 with heap := h', toks := tk } := fun h' tk t2 c2 st' hst' e k => by
      have I2 := inv_sum (pins := []) (t' := tk) I1 (hf _ hn) k e
      obtain ⟨m, em, rd⟩ := q { s1 with heap := h', toks := tk } t2 c2 rfl e I2 (fun b hb o eo => k b o (fun z => hfp b hb z.symm) eo)
      exact nx m em (acc + x) t2 c2 st' _ hst' rd e
    have oth : ∀ (f : Array Value → Array Value) b o, b ≠ S → s1.heap.get? b = some o → (s1.heap.update S (Obj.mapSeq f)).get? b = some o := fun f b o hb e => (Heap.get?_update_other _ _ (Ne.symm hb)).trans e
    rcases hst with rfl | rfl
    · show wpAny _ A.in1 (if (_ : Bool) = true then (mkInt (acc + x) >>= _) else _) _ _ _
      split
      · refine wpAny_bind (wpAny_mkInt ?_)
        show wpAny _ A.in1 (updateSeq S (fun _ => #[.int (acc + x) s1.toks]) >>= _) _ _ _
        refine wpAny_bind ?_
        exact wpAny_updateSeq hS' rfl (wpAny_pure ⟨plainId_quiet F.plain_sum_loop _, go _ _ _ _ 0 (.inl rfl) (Heap.get?_update_self _ hS' rfl) (oth _)⟩)
      · refine wpAny_bind (wpAny_rule ?_)
        refine wpAny_bind (wpAny_attempt (wpAny_holding (wpAny_add_int ?_)))
        show wpAny _ A.in1 (updateSeq S (fun _ => #[.int (acc + x) s1.toks]) >>= _) _ _ _
        refine wpAny_bind (wpAny_updateSeq hS' rfl ?_)
        have hS₂ := Heap.get?_update_self (Obj.mapSeq fun _ => #[Value.int (acc + x) s1.toks]) hS' rfl
        refine wpAny_bind (wpAny_letGo ?_)
        exact wpAny_bind (wpAny_updateSeq hS₂ rfl (wpAny_pure ⟨plainId_quiet F.plain_sum_loop _, go _ _ _ _ 2 (.inr rfl) (Heap.get?_update_self _ hS₂ rfl) fun b o hb e => (Heap.get?_update_other _ _ (Ne.symm hb)).trans (oth _ b o hb e)⟩))
    · show wpAny _ A.in1 ((holding [Value.int x t'] (binaryOp .Add (.int acc t) (.int x t'))).attempt >>= _) _ _ _
      refine wpAny_bind (wpAny_attempt (wpAny_holding (wpAny_add_int ?_)))
      show wpAny _ A.in1 (updateSeq S (fun _ => #[.int (acc + x) s1.toks]) >>= _) _ _ _
      refine wpAny_bind (wpAny_updateSeq hS' rfl ?_)
      have hS₂ := Heap.get?_update_self (Obj.mapSeq fun _ => #[Value.int (acc + x) s1.toks]) hS' rfl
      refine wpAny_bind (wpAny_letGo ?_)
      exact wpAny_bind (wpAny_updateSeq hS₂ rfl (wpAny_pure ⟨plainId_quiet F.plain_sum_loop _, go _ _ _ _ 2 (.inr rfl) (Heap.get?_update_self _ hS₂ rfl) fun b o hb e => (Heap.get?_update_other _ _ (Ne.symm hb)).trans (oth _ b o hb e)⟩))
  · exact wpAny_pure (fe acc t c H1 s1 I1 q)
theorem sum_gen (hh : A.handled = none) (hroom : A.depth < recursionLimit) (gen : ∀ pins σ H s, Inv Xg pins σ H s → s.heap.IsGen a g) (hfp : ∀ b ∈ fp, S ≠ b) (hf : ∀ H, H S = none → FpOk Xg [] H S)
    (fe : ∀ (acc : Int) (t : Tok) (c : Nat) H1 s1, Inv Xg [(S, sOb acc t c)] σw H1 s1 → Qe acc H1 → R (.ok (.ret (.int acc t))) s1) :
    ∀ (n : Nat) (acc : Int) (t : Tok) (c : Nat) (st : Int) (s : Shared), (st = 0 ∨ st = 2) → RdyS P w A Xg fp S σw Qe a g n s → s.heap.get? S = some (sOb acc t c) → codeAny (model P w) A (.builtin "sum.loop" ⟨[.ref a, .ref S, rawInt st, rawInt 0], []⟩) R s := by
  intro n
  induction n with
  | zero => exact sum_step hh hroom gen hfp hf fe (fun m z => by cases z)
  | succ n ih => exact sum_step hh hroom gen hfp hf fe (fun m z => by cases z; exact ih)
end
end Y

namespace Y
open PySem PySem.Spec PyProof.Rows L2 RT RZ
section
variable {X : Cx} {pins : List (Addr × Obj)} {σ : L2.St} {H : Hp} {s : Shared} {elt tg iter : Expr} {ifs : List Expr} {scope : Scope} {own : List (Str × Nat)} {gpos pos p : Pos} {wi : TI} {c P : Addr} {k : Nat} {g : TG} {tt : TT} {te : TE}
/-- sum of a generator expression -/
def tSum (P : Addr) (wi : TI) (g : TG) (tt : TT) (te : TE) (vs : List Nat) : TE := fun σ H Q => wi σ H fun J H1 => GxR.TabG H1 P ∧ ∀ H2, GxR.Tabbed P H1 H2 →
  ∃ W : Nat → Nat → Int → Hp → Prop, (∃ m, W 0 m 0 H2) ∧ TurnS J g tt te vs σ (fun acc H' => Q (.int acc) H') W
theorem made_sum {J : It} {H2 : Hp} {it a : Addr} {fp : List Addr} {tn : Nat → Heap → Prop} {s4 s5 : Shared} {code : Value} {go : Obj} {W : Nat → Nat → Int → Hp → Prop} {m0 : Nat} {Qe : Int → Hp → Prop} (hr : Room (k + 1) X.A) (hcm : X.calm = true) (hN : X.N.Nodup) (hco : scope.isCoroutine = false) (ok : BlkOk X.N X.env.scope scope own) (hc : ∀ y ∈ scope.names, y.2 ≠ .cell)
    (hg : ∀ (A : Around) (s : Shared) (H : Hp) (C : Addr) (code : Value) (fp : List Addr) (pn : List (Addr × Obj)), Room k A → PG (gx X A s H (geOf X scope C code) fp pn) tg g)
    (ht : ∀ (A : Around) (s : Shared) (H : Hp) (C : Addr) (code : Value) (fp : List Addr) (pn : List (Addr × Obj)), Room k A → PTs (gx X A s H (geOf X scope C code) fp pn) ifs tt)
    (he : ∀ (A : Around) (s : Shared) (H : Hp) (C : Addr) (code : Value) (fp : List Addr) (pn : List (Addr × Obj)), Room k A → PE (gx X A s H (geOf X scope C code) fp pn) elt te)
    (I4 : Inv X pins σ H2 s4) (T : Turn X.prog X.w X.K tg J fp it tn) (st : tn 0 s5.heap) (f4 : ∀ b ∈ fp, FpOk X pins H2 b ∧ b < s4.heap.objs.size) (M : Made X elt tg iter ifs scope gpos s4 s5 it a code go)
    (w0 : W 0 m0 0 H2) (turn : TurnS J g tt te (own.map (·.2)) σ Qe W) :
    s5.heap.NoLimit ∧ s5.heap.IsGen a s4.gens.size ∧ ∃ Xg σw, (∀ pins σ H s, Inv Xg pins σ H s → s.heap.IsGen a s4.gens.size) ∧ (∀ b ∈ fp, s5.heap.objs.size ≠ b) ∧ (∀ H', H' s5.heap.objs.size = none → FpOk Xg [] H' s5.heap.objs.size) ∧ (∀ pn' H1 s1, Inv Xg pn' σw H1 s1 → Inv X pins σ H1 s1) ∧
      ∀ (t : Tok) (cc tk : Nat) (h6 : Heap), (∀ b o, s5.heap.get? b = some o → h6.get? b = some o) → h6.get? s5.heap.objs.size = some (sOb 0 t cc) → RdyS X.prog X.w X.A Xg fp s5.heap.objs.size σw Qe a s4.gens.size (m0 + 1) { s5 with heap := h6, toks := tk } := by
  obtain ⟨mm, ns⟩ := M.ns
  have frm : (X.A.in1.in1.deeper (geOf X scope s4.heap.objs.size code)).frames = some (geOf X scope s4.heap.objs.size code :: X.stack) := Around.frames_deeper I4.ok.frames
  have I5 := gx_pin I4 rfl (gx_start (code := code) (fp := fp) (A := X.A.in1.in1.deeper (geOf X scope s4.heap.objs.size code)) I4 ok hc hN f4 hr.hd frm M.os M.bare M.keep ns) M.obj M.big M.dat
  have rk := room_gen (env := geOf X scope s4.heap.objs.size code) hr
  have hgen : ∀ pins σ H s, Inv (gx X (X.A.in1.in1.deeper (geOf X scope s4.heap.objs.size code)) s4 H2 (geOf X scope s4.heap.objs.size code) fp [(a, go)]) pins σ H s → s.heap.IsGen a s4.gens.size := fun pins σ H s I => M.gen _ (I.pin (a, go) (List.mem_append_left _ (List.mem_singleton.mpr rfl))).1
  have nfp : ∀ b ∈ fp, H2 b = none := fun b hb => (f4 b hb).1.1
  have hS : ∀ b ∈ fp, s5.heap.objs.size ≠ b := fun b hb z => by
    have h1 : b < s4.heap.objs.size := (f4 b hb).2
    have h2 : a < s5.heap.objs.size := Heap.lt_size M.obj
    have h3 : s4.heap.objs.size < a := M.big
    have h4 : s5.heap.objs.size = b := z
    exact absurd (Nat.lt_trans (Nat.lt_trans h1 h3) h2) (by rw [h4]; exact Nat.lt_irrefl _)
  refine ⟨I5.nolimit, hgen _ _ _ _ I5, _, wipe σ (own.map (·.2)), hgen, hS, fun H' hn => I5.fpOk (Nat.le_refl _) hn, fun pn' H1 s1 I1 => I4.call' (ch := fp) I1.os I1.base I1.hok I1.bare fun b hb => ⟨(f4 b hb).1.2.2.2.1, (f4 b hb).1.2.1, (f4 b hb).1.2.2.2.2.1, (f4 b hb).1.2.2.2.2.2⟩, fun t cc tk h6 kp e6 => ?_⟩
  have I6 : Inv (gx X (X.A.in1.in1.deeper (geOf X scope s4.heap.objs.size code)) s4 H2 (geOf X scope s4.heap.objs.size code) fp [(a, go)]) [(s5.heap.objs.size, sOb 0 t cc)] (wipe σ (own.map (·.2))) H2 { s5 with heap := h6, toks := tk } := by
    have J := I5.turnedL (h' := h6) (t' := tk) (ch := []) (fun b o _ e => kp b o e) (fun b z => absurd z (by simp))
    have f := I5.fpOk (Nat.le_refl _) (I5.hok.fresh (Nat.le_refl _))
    refine J.pins_of fun p hp => ?_
    rw [List.mem_singleton.mp hp]
    exact ⟨e6, f.1, f.2.1, f.2.2.1, fun v q => by cases q⟩
  have I7 := I6.again (s2 := ({ s5 with heap := h6, toks := tk } : Shared).setGen s4.gens.size .running) rfl rfl (allBare_setGen I6.bare rfl)
  have st6 : tn 0 h6 := T.keep _ _ _ st fun b hb o e => kp b o e
  refine ⟨I6.nolimit, hgen _ _ _ _ I6, _, M.fresh, rfl, ?_⟩
  refine seg_gx0 (fun A' Q' E' hq => T.self A' 0 _ _ _ st6 hq) ?_
  exact seg_gs hcm T hco (fun q hq b hb z => by
    rw [List.mem_singleton.mp hq] at z
    have h1 := (f4 b hb).2
    rw [← show a = b from z] at h1
    exact Nat.lt_irrefl _ (Nat.lt_trans h1 M.big)) hS (hg _ _ _ _ _ _ _ rk) (ht _ _ _ _ _ _ _ rk) (he _ _ _ _ _ _ _ rk) turn m0 m0 0 _ _ _ _ _ H2 (Nat.le_refl _) e6 I7 st6 nfp w0
theorem pe_sumG (hr : Room (k + 1) X.A) (hcm : X.calm = true) (hN : X.N.Nodup) (hgl : Gl X "sum") (hm : X.mg "sum" = none) (hb : bootBuiltins "sum" = some (.builtin "sum")) (TB : GxR.TabB X.base X.mg c P) (hcode : X.env.code = .ref c) (hi : PI X tg iter wi) (ok : BlkOk X.N X.env.scope scope own)
    (hc : ∀ y ∈ scope.names, y.2 ≠ .cell) (hco : scope.isCoroutine = false) (h0 : scope.names.lookup (".0" : Str) = some NameKind.local)
    (hg : ∀ (A : Around) (s : Shared) (H : Hp) (C : Addr) (code : Value) (fp : List Addr) (pn : List (Addr × Obj)), Room k A → PG (gx X A s H (geOf X scope C code) fp pn) tg g)
    (ht : ∀ (A : Around) (s : Shared) (H : Hp) (C : Addr) (code : Value) (fp : List Addr) (pn : List (Addr × Obj)), Room k A → PTs (gx X A s H (geOf X scope C code) fp pn) ifs tt)
    (he : ∀ (A : Around) (s : Shared) (H : Hp) (C : Addr) (code : Value) (fp : List Addr) (pn : List (Addr × Obj)), Room k A → PE (gx X A s H (geOf X scope C code) fp pn) elt te)
    (hs : ∀ x, genFold iter X.env x = pure x := by intro _; rfl)
    (hst : starEach [gexp elt tg iter ifs scope gpos] X.env = (false, eval (gexp elt tg iter ifs scope gpos) X.env) :: starEach [] X.env := by rfl) :
    PE X (.Call (.Name "sum" p) [gexp elt tg iter ifs scope gpos] [] pos) (tSum P wi g tt te (own.map (·.2))) := by
  have hd : X.A.depth < recursionLimit := by have := hr.dp; omega
  refine ⟨fun pins s σ H Q I h => ?_⟩
  refine wpAny_Call_Name_kw (ld_blt I hgl hm hb ?_)
  refine PyProof.Rows.callWith_builtin1 ?_ hst (by rfl)
  rw [hst]
  show wpAny _ _ (spliced ((false, eval (gexp elt tg iter ifs scope gpos) X.env) :: backTo pos (starEach [] X.env))) _ _ s
  refine Calls.spliced_cons (gen_make TB hcode hi ok hc hco h0 hd hs I h fun J H2 it fp tn s4 s5 a code go I4 T st5 f4 hR M => ?_)
  refine Calls.spliced_nil ?_
  obtain ⟨W, ⟨m0, w0⟩, turn⟩ := hR
  obtain ⟨nl, isg, Xg, σw, gen, hS, hf, back, rdy⟩ := made_sum hr hcm hN hco ok hc hg ht he I4 T st5 f4 M w0 turn
  refine call_function_tree (id := "sum") F.kind_sum F.plain_sum F.entry_sum (F.args_sum1 _) ?_
  unfold Builtin.«sum»
  simp only [List.length_cons, List.length_nil]
  rw [if_neg (by decide)]
  refine wpAny_bind (wpAny_of_eq (show Builtin.Builtins.bindParams "sum" ["start"] 0 { } = pure [none] from rfl) ?_)
  refine wpAny_bind (wpAny_pyIter_gen isg ?_)
  refine wpAny_bind (wpAny_mkInt ?_)
  refine wpAny_bind (wpAny_pure ?_)
  simp only [List.forIn_cons, List.forIn_nil]
  refine wpAny_bind (wpAny_bind (wpAny_bind (wpAny_isInstance (T := "int") (b := false) (typeIs_int _ _ _) PySem.sub_int_str ?_)))
  simp only [Bool.false_eq_true, if_false]
  refine wpAny_pure (wpAny_bind (wpAny_bind (wpAny_isInstance (T := "int") (b := false) (typeIs_int _ _ _) PySem.sub_int_bytes ?_)))
  simp only [Bool.false_eq_true, if_false]
  refine wpAny_pure (wpAny_bind (wpAny_bind (wpAny_isInstance (T := "int") (b := false) (typeIs_int _ _ _) PySem.sub_int_bytearray ?_)))
  simp only [Bool.false_eq_true, if_false]
  refine wpAny_pure (wpAny_pure ?_)
  refine wpAny_bind (wpAny_newObj_type ?_)
  refine wpAny_pure ⟨plainId_quiet F.plain_sum_loop _, ?_⟩
  exact sum_gen hr.hd hd gen hS hf (fun acc t c H1 s1 I1 q => ⟨.int acc, H1, back _ H1 s1 I1, ⟨t, rfl⟩, q⟩) _ 0 s5.toks 0 0 _ (.inl rfl) (rdy _ _ _ _ (fun b o e => Heap.get?_push_of_some _ e) (Heap.get?_push_size _ rfl)) (Heap.get?_push_size _ rfl)
end
def SumK (g : PG') (pt : PT') (pe : PE') (vs : List Nat) (items : List T) (ρ1 : PS') (Φ : T → Bool → PS' → Prop) : Prop := (∀ i ∈ vs, ∀ l, ρ1[i]? ≠ some (Sl.own l)) ∧ ∃ Inv : Nat → Int → PS' → Prop, Inv 0 0 (wipeP ρ1 vs) ∧
  (∀ i acc t ρ2, items[i]? = some t → Inv i acc ρ2 → g t false ρ2 fun ρ3 => pt ρ3 fun b ρ4 => if b = true then pe ρ4 fun y _ ρ5 => ∃ v : Int, y = .int v ∧ Inv (i + 1) (acc + v) (wipeP ρ5 vs) else Inv (i + 1) acc (wipeP ρ4 vs)) ∧
  ∀ acc ρ2, Inv items.length acc ρ2 → Φ (.int acc) false (restore ρ1 ρ2 vs)
def pSum (pi : PI') (g : PG') (pt : PT') (pe : PE') (vs : List Nat) : PE' := fun ρ Φ => pi ρ fun items ρ1 => SumK g pt pe vs items ρ1 Φ
section
variable {X : Cx} {W : Wld} {P : Addr} {sl : List Nat} {pi : PI'} {g : PG'} {pt : PT'} {pe : PE'}
theorem sm_sum {wi : TI} {vs : List Nat} (w : TabW W P) (hsl : ∀ i ∈ sl, i ∈ vs) (hi : ∀ (B F0 : Hp) (ρ : PS') (σ : L2.St) (F H : Hp) (Φ : List T → PS' → Prop) (R : It → Hp → Prop), Rep X.K W B F0 ρ σ F H → pi ρ Φ →
    (∀ items ρ' F' H' J, Rep X.K W B F0 ρ' σ F' H' → Le F F' → ItOk X.K J F' items → Φ items ρ' → R J H') → wi σ H R) :
    SmE X.K W (tSum P wi (tGc X.K W sl g) (tT X.K W pt) (tE X.K W pe) vs) (pSum pi g pt pe vs) := fun B F0 ρ σ F H Φ Q R hp k => by
  refine hi B F0 ρ σ F H _ _ R hp fun items ρ1 F1 H1 J R1 le1 it q1 => ⟨w.has _ R1.ok, fun H2 tb => ?_⟩
  obtain ⟨now, Inv, h0, hstep, hend⟩ := q1
  have R2 := R1.tab w tb
  let Pv : Nat → Int → Hp → Prop := fun i acc H' => ∃ ρ2 F2, Inv i acc ρ2 ∧ Rep X.K W B F0 ρ2 (wipe σ vs) F2 H' ∧ Le F1 F2
  refine ⟨fun i m acc H' => m = items.length - i ∧ i ≤ items.length ∧ Pv i acc H', ⟨_, rfl, Nat.zero_le _, wipeP ρ1 vs, F1, h0, R2.wipe vs, Le.refl _⟩, ?_⟩
  rintro i m acc H3 ⟨rfl, hi2, ρ2, F2, inv, R3, le2⟩
  by_cases hlt : i < items.length
  · refine .inr ⟨it.go i H3 (le2.trans R3.fh) hlt, Pv (i + 1), fun a' H' p' => ⟨items.length - (i + 1), by omega, rfl, hlt, p'⟩, fun x H4 y => ?_⟩
    obtain ⟨t, et, hx⟩ := it.yld i H3 x H4 (le2.trans R3.fh) hlt y
    obtain ⟨F4, R4, le4, tvx⟩ : ∃ F4, Rep X.K W B F0 ρ2 (wipe σ vs) F4 H4 ∧ Le F2 F4 ∧ Tv X.K F4 t x := by
      rcases hx with ⟨rfl, tvx⟩ | ⟨p, ys, l, rfl, rfl, tvl, np, rfl⟩
      · exact ⟨F2, R3, Le.refl _, Tv.le le2 _ _ tvx⟩
      · exact R3.newW np (TvL.le le2 _ _ tvl)
    refine sm_tG B F0 ρ2 (wipe σ vs) F4 H4 t false x _ _ R4 (VR.fz tvx) (hstep i acc t ρ2 et inv) fun ρ3 σ3 F5 H5 R5 le5 out len q5 => ?_
    have we : wipe σ3 vs = wipe σ vs := wipe_eq (fun j hj => out j (fun z => hj (hsl j z))) (len.trans (wipe_length ..))
    refine ⟨we, ?_⟩
    refine sm_tT B F0 ρ3 σ3 F5 H5 _ _ R5 q5 fun b ρ4 F6 H6 R6 le6 q6 => ?_
    have le16 : Le F1 F6 := le2.trans (le4.trans (le5.trans le6))
    cases b with
    | false =>
      rw [if_neg Bool.false_ne_true] at q6 ⊢
      exact ⟨_, F6, q6, we ▸ R6.wipe vs, le16⟩
    | true =>
      rw [if_pos rfl] at q6 ⊢
      refine sm_tE.fz R6 q6 fun y ρ5 v F7 H7 R7 le7 tvy q7 => ?_
      obtain ⟨n, rfl, q7⟩ := q7
      exact ⟨n, tvy, _, F7, q7, we ▸ R7.wipe vs, le16.trans le7⟩
  · have e : i = items.length := by omega
    subst e
    exact .inl ⟨it.stop _ H3 (le2.trans R3.fh) (Nat.le_refl _), k _ false _ _ F2 H3 (R3.unwipe R1 le2 now) (le1.trans le2) VR.int (hend acc ρ2 inv)⟩
variable {elt tg iter : Expr} {ifs : List Expr} {scope : Scope} {own : List (Str × Nat)} {gpos pos p : Pos} {c : Addr} {k : Nat}
theorem qe_sumG (hr : Room (k + 1) X.A) (hcm : X.calm = true) (w : TabW W P) (TB : GxR.TabB X.base X.mg c P) (hcode : X.env.code = .ref c) (hN : X.N.Nodup) (hsl : ∀ i ∈ sl, i ∈ own.map (·.2)) (hgl : Gl X "sum") (hm : X.mg "sum" = none) (hb : bootBuiltins "sum" = some (.builtin "sum"))
    (hi : QI X W tg iter pi) (ok : BlkOk X.N X.env.scope scope own) (hc : ∀ y ∈ scope.names, y.2 ≠ .cell) (hco : scope.isCoroutine = false) (h0 : scope.names.lookup (".0" : Str) = some NameKind.local)
    (hg : ∀ (A : Around) (s : Shared) (H : Hp) (C : Addr) (code : Value) (fp : List Addr) (pn : List (Addr × Obj)), Room k A → QG (gx X A s H (geOf X scope C code) fp pn) W tg sl g)
    (ht : ∀ (A : Around) (s : Shared) (H : Hp) (C : Addr) (code : Value) (fp : List Addr) (pn : List (Addr × Obj)), Room k A → QTs (gx X A s H (geOf X scope C code) fp pn) W ifs pt)
    (he : ∀ (A : Around) (s : Shared) (H : Hp) (C : Addr) (code : Value) (fp : List Addr) (pn : List (Addr × Obj)), Room k A → QE (gx X A s H (geOf X scope C code) fp pn) W elt pe)
    (hs : ∀ x, genFold iter X.env x = pure x := by intro _; rfl)
    (hst : starEach [gexp elt tg iter ifs scope gpos] X.env = (false, eval (gexp elt tg iter ifs scope gpos) X.env) :: starEach [] X.env := by rfl) :
    QE X W (.Call (.Name "sum" p) [gexp elt tg iter ifs scope gpos] [] pos) (pSum pi g pt pe (own.map (·.2))) := by
  obtain ⟨wi, h1, h2⟩ := hi.ex
  exact ⟨_, pe_sumG hr hcm hN hgl hm hb TB hcode h1 ok hc hco h0 (fun A s H C co fp pn r => (hg A s H C co fp pn r).can) (fun A s H C co fp pn r => (ht A s H C co fp pn r).ex) (fun A s H C co fp pn r => (he A s H C co fp pn r).can) hs hst, sm_sum w hsl h2⟩
end
end Y

namespace Y
open PySem PySem.Spec PyProof.Rows L2 RT RZ
/-! ### a written dict of the top, text keys -/
structure KTab (K : PySem.W.Frag) (w : World) (d : Addr) (kvs : List (Str × T)) : Prop where
  dict : ∃ es n, KDict K w d es n
  hit : ∀ z t, (z, t) ∈ kvs → ∃ u v, PySem.W.nsIn K d z = some (some u) ∧ RelV v u ∧ ∀ F, Tv K F t v
  miss : ∀ z, z ∉ kvs.map (·.1) → PySem.W.nsIn K d z = some none
theorem KTab.has {K : PySem.W.Frag} {w : World} {d : Addr} {kvs : List (Str × T)} (D : KTab K w d kvs) (z : Str) : ∃ r, PySem.W.nsIn K d z = some r ∧ r.isSome = decide (z ∈ kvs.map (·.1)) := by
  by_cases h : z ∈ kvs.map (·.1)
  · obtain ⟨p, hp, e⟩ := List.mem_map.mp h
    obtain ⟨u, v, h1, _⟩ := D.hit z p.2 (by rw [← e]; exact hp)
    exact ⟨some u, h1, by rw [decide_eq_true h] <;> rfl⟩
  · exact ⟨none, D.miss z h, by rw [decide_eq_false h] <;> rfl⟩
def PInT (d : Addr) (kvs : List (Str × T)) (neg : Bool) (x y : T) (Φ : T → Bool → Prop) : Prop := ∃ z, x = .str z ∧ y = .adr d ∧ Φ (.bl (if neg then !(decide (z ∈ kvs.map (·.1))) else decide (z ∈ kvs.map (·.1)))) false
section
variable {X : Cx} {W : Wld} {d : Addr} {kvs : List (Str × T)} {a b : Expr} {pos : Pos}
theorem oq_inT (D : KTab X.K X.w d kvs) : OpQ X W (compareOp .In) (PInT d kvs false) := by
  intro B F0 ρ σ F H x y v u Φ Q R hx hy hp k
  obtain ⟨z, rfl, rfl, hp⟩ := hp
  obtain ⟨es, n, kd⟩ := D.dict
  obtain ⟨r, e1, e2⟩ := D.has z
  refine rS2.of (op_in_kd kd) ⟨z, r, hx, hy, e1, ?_⟩
  rw [e2]
  exact k _ false _ F H R (Le.refl _) VR.bl hp
theorem oq_notinT (D : KTab X.K X.w d kvs) : OpQ X W (compareOp .NotIn) (PInT d kvs true) := by
  intro B F0 ρ σ F H x y v u Φ Q R hx hy hp k
  obtain ⟨z, rfl, rfl, hp⟩ := hp
  obtain ⟨es, n, kd⟩ := D.dict
  obtain ⟨r, e1, e2⟩ := D.has z
  refine rS2.of (op_notIn_kd kd) ⟨z, r, hx, hy, e1, ?_⟩
  rw [e2]
  exact k _ false _ F H R (Le.refl _) VR.bl hp
/-- d[word] -/
def pDIx (d : Addr) (kvs : List (Str × T)) (pa pb : PE') : PE' := fun ρ Φ => pa ρ fun t _ ρ1 => pb ρ1 fun y _ ρ2 => t = .adr d ∧ ∃ z, y = .str z ∧ ∃ τ, (z, τ) ∈ kvs ∧ Φ τ false ρ2
theorem qe_ixT {pa pb : PE'} (D : KTab X.K X.w d kvs) (ha : QE X W a pa) (hb : QE X W b pb) (hs : PlainIx b) : QE X W (.Subscript a b pos) (pDIx d kvs pa pb) := by
  obtain ⟨t, h1, h2⟩ := ha.ex
  obtain ⟨u, h3, h4⟩ := hb.ex
  refine ⟨_, pe_ix ix_kdict h1 h3 hs, fun B F0 ρ σ F H Φ Q R hp k => ?_⟩
  refine h2.fz R hp fun τ ρ1 v F1 H1 R1 le1 tv q1 => ?_
  refine h4.fz R1 q1 fun υ ρ2 w F2 H2 R2 le2 tw q2 => ?_
  obtain ⟨rfl, z, rfl, τ, hm, q2⟩ := q2
  obtain ⟨es, n, kd⟩ := D.dict
  obtain ⟨u0, v0, e1, e2, e3⟩ := D.hit z τ hm
  exact ⟨d, z, v0, show v = .ref d from tv, show w = .str z from tw, ⟨es, n, u0, kd.at_, kd.lit, e1, e2⟩, k τ false ρ2 _ F2 H2 R2 (le1.trans le2) (VR.fz (e3 _)) q2⟩
end
/-! ### f(e, ..), f a local name that holds one of several defs -/
def DispQ (P : Program) (w : World) (K : PySem.W.Frag) (mg : Str → Option Value) (base : Heap) (W : Wld) (k : Nat) (L : List (Addr × PSp)) : Prop :=
  ∀ p ∈ L, PySem.W.keepIn K (.ref p.1) = true ∧ FnR P w K mg base CX0 k p.1 (spQ K W p.2)
section
variable {P : Program} {w : World} {K : PySem.W.Frag} {mg : Str → Option Value} {base : Heap} {W : Wld} {x : Str} {j k : Nat} {ps : List Str} {pf : PSp} {L : List (Addr × PSp)} {f : Addr}
theorem DispQ.nil : DispQ P w K mg base W k [] := fun p hp => by cases hp
theorem DispQ.cons (C : CalQ P w K mg base W x k ps pf) (hm : mg x = some (.ref f)) (D : DispQ P w K mg base W k L) : DispQ P w K mg base W k ((f, pf) :: L) := fun p hp => by
  rcases List.mem_cons.mp hp with rfl | hp
  · obtain ⟨f', fd, h1, h2, h3, h4⟩ := C
    rw [hm] at h1
    cases h1
    refine ⟨h2, (h4.raw h3 .nil).imp fun vs H Q E q => ?_⟩
    rw [List.append_nil]
    exact q
  · exact D p hp
theorem DispQ.mono (D : DispQ P w K mg base W j L) (l : j ≤ k) : DispQ P w K mg base W k L := fun p hp => ⟨(D p hp).1, (D p hp).2.mono l⟩
end
def tCallW (i : Nat) (L : List (Addr × Sp)) (t : TA) : TE := fun σ H Q => ∃ a, (∃ sp, (a, sp) ∈ L) ∧ σ[i]? = some (some (.ref a)) ∧ t σ H fun vs H1 => ∃ sp, (a, sp) ∈ L ∧ sp vs H1 Q E0
def pCallV (i : Nat) (L : List (Addr × PSp)) (q : PA') : PE' := fun ρ Φ => ∃ a, (∃ pf, (a, pf) ∈ L) ∧ ρ[i]? = some (Sl.fz (.adr a)) ∧ q ρ fun l ρ' => ∃ pf, (a, pf) ∈ L ∧ pf l fun τ f => Φ τ f ρ'
section
variable {X : Cx} {W : Wld} {k i : Nat} {x : Str} {e : Expr} {es : List Expr} {t : TA} {q : PA'} {p pos : Pos}
theorem pe_callW {L : List (Addr × Sp)} (F : ∀ p ∈ L, PySem.W.keepIn X.K (.ref p.1) = true ∧ FnR X.prog X.w X.K X.mg X.base CX0 k p.1 p.2) (hr : Room k X.A) (hN : X.N[i]? = some x) (hv : Vis X.env.scope x) (ha : PA X (e :: es) t)
    (hd : (x == ("__debug__" : Str)) = false := by decide) (hcd : (x == ("__classdict__" : Str)) = false := by decide)
    (he : starEach (e :: es) X.env = (false, eval e X.env) :: starEach es X.env := by rfl) (hpl : (backTo pos (starEach es X.env)).any (·.1) = false := by rfl) : PE X (.Call (.Name x p) (e :: es) [] pos) (tCallW i L t) := by
  refine ⟨fun pins s σ H Q I h => ?_⟩
  obtain ⟨f, ⟨sp0, hf⟩, hs, h⟩ := h
  refine wpAny_Call_Name_kw (thn ((pe_var (pos := p) (i := i) hN hv hd hcd).run pins s σ H (fun v H1 => v = .ref f ∧ H1 = H) I ⟨.ref f, hs, rfl, rfl⟩) fun u s1 ⟨v, H1, I1, r1, ev, eH⟩ => ?_)
  subst ev
  rw [eH] at I1
  cases r1
  refine PySem.W.callWith_K (h₀ := X.base) I.ok.mod.kin (F _ hf).1 (thn (ha.run pos pins s1 σ H _ I1 h) fun us s2 ⟨vs, H2, I2, r, sp, hsp, q⟩ => ⟨I2.kIn, ?_⟩) he hpl
  exact wpAny_call (run_fnR (F _ hsp).2 hr pass0 I2 r q)
theorem qe_callV {L : List (Addr × PSp)} (D : DispQ X.prog X.w X.K X.mg X.base W k L) (hr : Room k X.A) (hN : X.N[i]? = some x) (hv : Vis X.env.scope x) (ha : QA X W (e :: es) q)
    (hd : (x == ("__debug__" : Str)) = false := by decide) (hcd : (x == ("__classdict__" : Str)) = false := by decide)
    (he : starEach (e :: es) X.env = (false, eval e X.env) :: starEach es X.env := by rfl) (hpl : (backTo pos (starEach es X.env)).any (·.1) = false := by rfl) : QE X W (.Call (.Name x p) (e :: es) [] pos) (pCallV i L q) := by
  obtain ⟨t, h1, h2⟩ := ha.ex
  refine ⟨_, pe_callW (L := L.map fun p => (p.1, spQ X.K W p.2)) (fun p hp => ?_) hr hN hv h1 hd hcd he hpl, fun B F0 ρ σ F H Φ Q R hp kk => ?_⟩
  · obtain ⟨p', h3, rfl⟩ := List.mem_map.mp hp
    exact D p' h3
  · obtain ⟨a, ⟨pf0, ha0⟩, hs, hp⟩ := hp
    obtain ⟨v, e1, e2⟩ := R.fz i _ hs
    refine ⟨a, ⟨_, List.mem_map.mpr ⟨_, ha0, rfl⟩⟩, by rw [e1, show v = .ref a from e2], ?_⟩
    refine h2 B F0 ρ σ F H _ _ R hp fun l ρ1 vs F1 H1 R1 le1 tv q1 => ?_
    obtain ⟨pf, hpf, q1⟩ := q1
    refine ⟨_, List.mem_map.mpr ⟨_, hpf, rfl⟩, l, F1, _, R1.fh, R1.ok, R1.wf, tv, q1, fun τ f v F' H' hΨ A vx => ?_⟩
    exact kk τ f ρ1 v F' H' (R1.after A) (le1.trans A.le) (R1.vx vx) hΨ
/-! ### t.index(x) of a tuple of texts -/
theorem me_tindex : MetQ X W "tuple.index" (fun t l Φ => ∃ (ys : List Str) (z : Str) (j : Nat), t = .tup (ys.map T.str) ∧ l = [.str z] ∧ ys[j]? = some z ∧ (∀ m, m < j → ys[m]? ≠ some z) ∧ Φ (.int (j : Nat)) false) := by
  intro B F0 ρ σ F H t x l vs Φ Q R rx tv hp k
  obtain ⟨ys, z, j, rfl, rfl, h1, h2, hp⟩ := hp
  obtain ⟨v, rfl, h3⟩ := tvl1 tv
  obtain ⟨a, xs, rfl, h5, h6⟩ := rx
  rw [TvL.strs ys rfl h6] at h5
  exact rSM.of mt_tup_index ⟨a, ys, z, j, rfl, by rw [show v = .str z from h3], sqt_le R.fh h5, h1, h2, k _ false _ F H R (Le.refl _) VR.int hp⟩
end
end Y

namespace Y
open PySem PySem.Spec PyProof.Rows L2 RT RZ
theorem keys_miss {P : Params} {z : Str} : ∀ {l : List DictEntry} {ks : List Str}, l.map He.keyOf = He.keysIn P ks → z ∉ ks → l.find? (·.key.isStr z) = none ∧ l.any (·.refKey) = false
  | [], _, _, _ => ⟨rfl, rfl⟩
  | e :: r, [], h, _ => by cases h
  | e :: r, k :: ks, h, hz => by
    have h1 : He.keyOf e :: r.map He.keyOf = some (k, PyData.keyHash P k) :: He.keysIn P ks := h
    injection h1 with h2 h3
    obtain ⟨h4, h5⟩ := keys_miss h3 (fun y => hz (List.mem_cons_of_mem _ y))
    unfold He.keyOf at h2
    split at h2
    · rename_i x t q
      obtain ⟨h6, h7⟩ := Prod.mk.inj (Option.some.inj h2)
      subst h6
      have hk : e.key.isStr z = false := by
        rw [q]
        show (x == z) = false
        exact beq_eq_false_iff_ne.mpr fun y => hz (by rw [y]; exact List.mem_cons_self)
      refine ⟨?_, ?_⟩
      · rw [List.find?_cons_of_neg (by rw [hk]; exact Bool.false_ne_true)]
        exact h4
      · rw [List.any_cons, h5]
        unfold DictEntry.refKey
        rw [q]
        rfl
    · cases h2
theorem dic_miss {K : PySem.W.Frag} {P : Params} {a : Addr} {ks : List Str} {z : Str} (h : He.dicW K a = some (He.keysIn P ks)) (hz : z ∉ ks) : PySem.W.nsIn K a z = some none := by
  unfold He.dicW at h
  unfold PySem.W.nsIn
  split at h
  · rename_i oc c es n sl e
    split at h
    · obtain ⟨h1, h2⟩ := keys_miss (Option.some.inj h) hz
      rw [e]
      simp only [h1, h2]
      rfl
    · cases h
  · cases h
/-- a table of defs, told by the head -/
def defsB (K : PySem.W.Frag) (x : Str) (kvs : List (Str × Str)) : Bool := kvs.all fun q => He.eqO (PySem.W.nsIn K (He.ga K x) q.1) (some (some (.ref (He.ga K q.2))))
theorem ktab_defs {K : PySem.W.Frag} {w : World} {x : Str} {kvs : List (Str × Str)} (h : He.dicW K (He.ga K x) = some (He.keysIn w.params (kvs.map (·.1)))) (hv : defsB K x kvs = true) :
    KTab K w (He.ga K x) (kvs.map fun q => (q.1, T.adr (He.ga K q.2))) where
  dict := He.dicW_ok h
  hit z t hm := by
    obtain ⟨q, hq, e⟩ := List.mem_map.mp hm
    cases e
    have h1 := He.eqO_ok (List.all_eq_true.mp hv q hq)
    exact ⟨_, .ref (He.ga K q.2), h1, rfl, fun F => rfl⟩
  miss z hz := dic_miss h fun y => hz (by
    rw [List.map_map]
    exact y)
end Y

namespace Y
open PySem PySem.Spec PyProof.Rows L2 RT RZ
/-! ### len(set(xs)) of texts, however many -/
/-- how many differ among the first i -/
def dif (xs : List Str) : Nat → Nat
  | 0 => 0
  | i + 1 => dif xs i + if xs.getD i Str.empty ∈ xs.take i then 0 else 1
theorem mem_take_s {xs : List Str} {i : Nat} (hi : i < xs.length) {y : Str} : y ∈ xs.take (i + 1) ↔ y ∈ xs.take i ∨ y = xs[i] := by
  rw [List.take_succ, List.getElem?_eq_getElem hi, Option.toList_some, List.mem_append, List.mem_singleton]
theorem dif_le (xs : List Str) : ∀ i, dif xs i ≤ i
  | 0 => Nat.le_refl _
  | i + 1 => by
    have := dif_le xs i
    unfold dif
    split <;> omega
section
variable {P : Program} {w : World} {A : Around} {R : Result → Shared → Prop} {it S : Addr} {fp wr : List Addr} {G : Array GenState → Array GenState → Prop} {n : Nat} {V' : Nat → Value → Prop} {St : Nat → Shared → Prop}
theorem set_loop (Wk : WalksS P w A.in1 it fp wr G n V' St) (nf : S ∉ fp) (xs : List Str) (hl : xs.length = n) (hb : n + 1 < scanBound) (hv : ∀ i v, V' i v → ∃ t, v = .str (xs.getD i Str.empty) t) :
    ∀ (k i : Nat) (s : Shared), n - i = k → i ≤ n → St i s → s.heap.SetOf (strKind P w) S (fun y => decide (y ∈ xs.take i)) (dif xs i) →
      (∀ s', Moved (S :: wr) G s s' → s'.heap.SetOf (strKind P w) S (fun y => decide (y ∈ xs)) (dif xs n) → R (.ok (.ret .none)) s') → codeAny (model P w) A (.builtin "set.update.loop" ⟨[.ref S, .ref it], []⟩) R s := by
  have nw : S ∉ wr := fun z => nf (Wk.sub _ z)
  have at' : ∀ {s s' : Shared} {f : Str → Bool} {m : Nat}, Moved wr G s s' → s.heap.SetOf (strKind P w) S f m → s'.heap.SetOf (strKind P w) S f m := fun hm ⟨o, es, ep, tb, ho, rest⟩ => ⟨o, es, ep, tb, hm.heap S _ nw ho, rest⟩
  intro k
  induction k with
  | zero =>
    intro i s e1 e2 st hS fin
    obtain rfl : i = n := by omega
    refine codeAny_builtin PyProof.Rows.F.entry_set_update_loop ?_; rw [Around.under_plainId (PyProof.Rows.F.plain_set_update_loop) _]
    show wpAny _ A.in1 (pyNext (.ref it) >>= _) _ _ s
    refine wpAny_bind (Wk.done s _ _ st fun s' hm => wpAny_pure (fin s' (hm.mono fun b z => List.mem_cons_of_mem _ z) ?_))
    have := at' hm hS
    rw [List.take_of_length_le (Nat.le_of_eq hl)] at this
    exact this
  | succ k ih =>
    intro i s e1 e2 st hS fin
    refine codeAny_builtin PyProof.Rows.F.entry_set_update_loop ?_; rw [Around.under_plainId (PyProof.Rows.F.plain_set_update_loop) _]
    show wpAny _ A.in1 (pyNext (.ref it) >>= _) _ _ s
    refine wpAny_bind (Wk.item i s _ _ (by omega) st fun v s' hp st' hm => ?_)
    obtain ⟨t, rfl⟩ := hv i v hp
    have hS' := at' hm hS
    refine wpAny_bind (m := holding [Value.str (xs.getD i Str.empty) t] (setAdd S (.str (xs.getD i Str.empty) t))) (wpAny_holding ?_)
    unfold setAdd
    refine wpAny_holding (wpAny_bind ((strKind P w).pyHash (k := xs.getD i Str.empty) (strKind_is _ _ _ _) ?_))
    have dl := dif_le xs i
    refine wpAny_setAddHashed_of (knd := strKind P w) (s := { s' with toks := s'.toks + 1 }) (strKind_is _ _ _ _) rfl hS' (by omega) fun h' sb hS2 => ?_
    have hi : i < xs.length := by omega
    have eg : xs.getD i Str.empty = xs[i] := by simp [List.getD_eq_getElem?_getD, List.getElem?_eq_getElem hi]
    have hS3 : h'.SetOf (strKind P w) S (fun y => decide (y ∈ xs.take (i + 1))) (dif xs (i + 1)) := by
      refine SetOf_congr hS2 (fun y => ?_) ?_
      · rw [eg, ← Bool.decide_or]
        exact decide_eq_decide.mpr (mem_take_s hi).symm
      · show (if decide (xs.getD i Str.empty ∈ xs.take i) = true then dif xs i else dif xs i + 1) = dif xs i + if xs.getD i Str.empty ∈ xs.take i then 0 else 1
        by_cases z : xs.getD i Str.empty ∈ xs.take i <;> simp only [z, decide_true, decide_false, if_true, if_false, Bool.false_eq_true, Nat.add_zero]
    refine wpAny_pure ⟨plainId_quiet PyProof.Rows.F.plain_set_update_loop _, ih (i + 1) _ (by omega) (by omega) (Wk.frame _ s' _ _ st' (Nat.le_succ _) fun b z o e => ?_) hS3 fun s2 m2 hS4 => fin s2 (Moved.trans Wk.gtrans ((hm.mono fun b z => List.mem_cons_of_mem _ z).then_heap (Nat.le_succ _) fun b o z e => ?_) m2) hS4⟩
    · rw [sb.2 b (fun y : b = S => nf (y ▸ z))]
      exact e
    · rw [sb.2 b (fun y : b = S => z (by rw [y]; exact List.mem_cons_self))]
      exact e
end
section
variable {P : Program} {w : World} {A : Around} {E : Value → Shared → Prop} {R' : Result → Shared → Prop} {s : Shared} {l : Addr} {items : Array Value} {xs : List Str} {Q : Value → Shared → Prop}
/-- the set as it is laid -/
abbrev set0 (led : Bool) : Obj := { cls := .type "set", dict := none, data := .set #[] 0 (.fresh 0 0 led) }
theorem set_fill {c : Addr} {led : Bool} {W3 : Around} (hh : W3.handled = none) (hl : s.heap.IsList l items) (hi : StrsAre items.toList xs) (hb : xs.length + 1 < scanBound) (hS : s.heap.get? c = some (set0 led)) (hc : c < s.heap.objs.size) (hne : l ≠ c)
    (fin : ∀ (h' : Heap) (tk : Nat), h'.SetOf (strKind P w) c (fun y => decide (y ∈ xs)) (dif xs xs.length) → (∀ b o, b ≠ c → s.heap.get? b = some o → h'.get? b = some o) → R' (.ok (.ret .none)) { s with heap := h', toks := tk }) :
    codeAny (model P w) W3 (.builtin "set.update.loop" ⟨[.ref c, .ref s.heap.objs.size], []⟩) R' { s with heap := s.heap.push { cls := .type "list_iterator", data := .fields #[.ref l, .int 0 0] } } := by
  have ll : l < s.heap.objs.size := by obtain ⟨o, ho, _⟩ := hl; exact Heap.lt_size ho
  have hz : xs.length = items.size := by rw [← StrsAre.len_eq hi, Array.length_toList]
  refine set_loop ((Walks.list (by simp [hh]) _ l (Nat.ne_of_lt ll) items).toS) (fun z => ?_) xs hz (by rw [← hz]; exact hb) (fun i v e => SS.strs_at hi i v (by rw [Array.getElem?_toList]; exact e)) _ 0 _ rfl (Nat.zero_le _) ⟨⟨_, Heap.get?_push_size _ rfl, rfl, rfl⟩, hl.push _⟩ ?_ fun s' m hS2 => ?_
  · rcases List.mem_cons.mp z with y | y
    · exact absurd hc (by rw [y]; exact Nat.lt_irrefl _)
    · exact hne (List.mem_singleton.mp y).symm
  · exact PyProof.Rows.SetOf_congr ((PyProof.Rows.setObjOf_fresh (knd := strKind P w) led).setOf (Heap.get?_push_of_some _ hS) (by unfold scanBound; omega)) (fun y => by simp) rfl
  · obtain ⟨h', g', d', tk', os'⟩ := s'
    obtain rfl : g' = s.gens := m.gens
    obtain rfl : d' = s.drawn := m.drawn
    obtain rfl : os' = s.os := m.os
    rw [← hz] at hS2
    refine fin h' tk' hS2 fun b o hb e => m.heap b o (fun z => ?_) (Heap.get?_push_of_some _ e)
    rcases List.mem_cons.mp z with y | y
    · exact hb y
    · exact absurd (Heap.lt_size e) (by rw [List.mem_singleton.mp y]; exact Nat.lt_irrefl _)
end
end Y

namespace Y
open PySem PySem.Spec PyProof.Rows
section
variable {prog : Program} {w : World} {A : Around} {E : Value → Shared → Prop} {s : Shared} {l : Addr} {items : Array Value} {xs : List Str} {Q : Value → Shared → Prop}
theorem call_setL (hh : A.handled = none) (hl : s.heap.IsList l items) (hi : StrsAre items.toList xs) (hb : xs.length + 1 < scanBound)
    (fin : ∀ (h' : Heap) (tk : Nat), h'.SetOf (PySem.strKind prog w) s.heap.objs.size (fun y => decide (y ∈ xs)) (dif xs xs.length) → (∀ b o, s.heap.get? b = some o → h'.get? b = some o) → Q (.ref s.heap.objs.size) { s with heap := h', toks := tk }) :
    wpAny (model prog w) A (call (.type "set") [.ref l]) Q E s := by
  obtain ⟨mc, mt, mm⟩ := PySem.F.called_set.mro
  have k1 := PySem.F.called_set.made; have k2 := PySem.F.called_set.sub; have k3 := PySem.F.called_set.notType; have k4 := PySem.F.called_set.canCreate; have k5 := PySem.F.typeCall_set_1 (.ref l)
  refine wpAny_call (codeAny_of_tree ?_); show wpAny _ _ (callAny (.type "set") _) _ _ _
  refine wpAny_pure ⟨Code.quiet_builtin _ (by decide +kernel), codeAny_builtin PySem.F.entry_type_call ?_⟩; rw [Around.under_plain (weight_type_call_type "set" [.ref l] []) rfl]
  repeat (any_goals (first | assumption | wp_step))
  refine codeAny_mono (code_set_new_1 (.ref l) (E := E) (Q₁ := fun obj s₁ => ∃ led : Bool, obj = .ref s.heap.objs.size ∧ s₁ = { s with heap := s.heap.push (set0 led) }) fun led => ⟨led, rfl, rfl⟩) fun r s₁ hr => ?_
  match r, hr with
  | .error e, hr => exact hr
  | .ok .next, hr => exact hr.elim
  | .ok .brk, hr => exact hr.elim
  | .ok .cont, hr => exact hr.elim
  | .ok (.ret obj), hr =>
    obtain ⟨led, rfl, rfl⟩ := hr
    have hS : (s.heap.push (set0 led)).get? s.heap.objs.size = some (set0 led) := Heap.get?_push_size _ rfl
    have hT : Shared.TypeIs { s with heap := s.heap.push (set0 led) } (.ref s.heap.objs.size) "set" := ⟨_, hS, rfl⟩
    have k6 := PySem.F.called_set.init.lookup; have k7 := PySem.F.called_set.init.bind (.ref s.heap.objs.size)
    repeat (any_goals (first | assumption | wp_step))
    refine codeAny_mono (codeAny_call_builtin (R := wants (fun r s₂ => r = .none ∧ ∃ h' tk, s₂ = { s with heap := h', toks := tk } ∧ h'.SetOf (PySem.strKind prog w) s.heap.objs.size (fun y => decide (y ∈ xs)) (dif xs xs.length) ∧ (∀ b o, s.heap.get? b = some o → h'.get? b = some o)) E)
      PySem.F.called_set.init.plain PySem.F.entry_set_init (check_set_init_1 hT ?_)) fun r₂ s₂ hr₂ => ?_
    · have ll : l < s.heap.objs.size := by obtain ⟨o, ho, _⟩ := hl; exact Heap.lt_size ho
      obtain ⟨⟨oc, od, odt, osl⟩, ho, hc, nl, hd⟩ := hl
      simp only at hc hd; subst hc; subst hd
      have ho' : (s.heap.push (set0 led)).get? l = some { cls := .type "list", dict := od, data := .seq items nl, slots := osl } := Heap.get?_push_of_some _ ho
      have k8 := PySem.F.sub_list_set; have k9 := PySem.F.sub_list_frozenset; have k10 : (Value.type "list" == Value.type "dict") = false := by decide
      have hl1 : (s.heap.push (set0 led)).IsList l items := ⟨_, ho', rfl, nl, rfl⟩
      unfold Builtin.«set.__init__» noKeywords Builtin.Frozenset.updateFrom; generalize hPI : pyIter = PI
      wp_walk
      subst hPI
      refine wpAny_pyIter_list hl1 ?_; refine wpAny_bind (wpAny_runValue ?_)
      refine set_fill (s := { s with heap := s.heap.push (set0 led) }) (by simp [hh]) hl1 hi hb hS (by rw [Heap.size_push]; exact Nat.lt_succ_self _) (Nat.ne_of_lt ll) fun h' tk hS2 k => ?_
      show wpAny _ _ _ _ _ _; refine wpAny_pure ?_
      show wpAny _ _ (ret Value.none) _ _ _
      exact wpAny_pure ⟨rfl, h', tk, rfl, hS2, fun b o e => k b o (Nat.ne_of_lt (Heap.lt_size e)) (Heap.get?_push_of_some _ e)⟩
    · match r₂, hr₂ with
      | .error e, hr₂ => exact hr₂
      | .ok .next, hr₂ => exact hr₂.elim
      | .ok .brk, hr₂ => exact hr₂.elim
      | .ok .cont, hr₂ => exact hr₂.elim
      | .ok (.ret r), hr₂ =>
        obtain ⟨rfl, h', tk, rfl, hS2, k⟩ := hr₂
        repeat (any_goals (first | assumption | wp_step))
        exact fin _ _ hS2 k
end
end Y

namespace Y
open PySem PySem.Spec PyProof.Rows L2 RT RZ
section
variable {X : Cx} {W : Wld} {a : Expr} {ta : TE} {pa : PE'} {p p2 q pos : Pos}
def tLenSt (K : PySem.W.Frag) (ta : TE) : TE := fun σ H Q => ta σ H fun x H1 => ∃ l, ∃ xs : List Str, x = .ref l ∧ SqL K H1 l (xs.map V.str) ∧ xs.length + 1 < scanBound ∧ Q (.int (dif xs xs.length : Nat)) H1
theorem pe_lenSt (hc : X.calm = true) (hg : Gl X "len") (hm : X.mg "len" = none) (hg2 : Gl X "set") (hm2 : X.mg "set" = none) (ha : PE X a ta)
    (na : starEach [a] X.env = (false, eval a X.env) :: starEach [] X.env := by rfl) : PE X (.Call (.Name "len" p) [.Call (.Name "set" p2) [a] [] q] [] pos) (tLenSt X.K ta) := by
  refine ⟨fun pins s σ H Q I h => Call_ (ld_blt I hg hm boot_len (PyProof.Rows.callWith_builtin1 (PyProof.Rows.args_cons (Call_ (ld_blt I hg2 hm2 boot_set ?_)) rfl) rfl rfl))⟩
  refine PyProof.Rows.callWith_type1 (PyProof.Rows.args_cons (thn (ha.run pins s σ H _ I h) fun v s1 ⟨x, H1, I1, r1, q1⟩ => PyProof.Rows.args_nil ?_) na) na rfl
  obtain ⟨l, xs, rfl, hq, hb, q1⟩ := q1
  obtain rfl : v = Value.ref l := r1
  obtain ⟨its, r, pl, hz⟩ := I1.list hq
  refine call_setL (I1.ok.hd hc) pl.isList (by simpa using strsAre_of r) hb fun h' tk hS hk => PyProof.Rows.args_nil ?_
  obtain ⟨o, es, ep, t, ho, hex, hd, _, _, _, hf, hn⟩ := hS
  have I2 : Inv X pins σ H1 { s1 with heap := h', toks := tk } := I1.kept hk
  have dl := dif_le xs xs.length
  have sb : scanBound < 2 ^ 62 := by unfold scanBound; omega
  exact call_len_set ho hex hd hf (by rw [hn]; omega) ⟨.int (dif xs xs.length : Nat), H1, I2.tok _, ⟨_, by rw [hn]⟩, q1⟩
def pLenSt (pa : PE') : PE' := fun ρ Φ => pa ρ fun t _ ρ' => ∃ xs : List Str, t = .lst (xs.map T.str) ∧ xs.length + 1 < scanBound ∧ Φ (.int (dif xs xs.length : Nat)) false ρ'
theorem qe_lenSt (hc : X.calm = true) (hg : Gl X "len") (hm : X.mg "len" = none) (hg2 : Gl X "set") (hm2 : X.mg "set" = none) (ha : QE X W a pa)
    (na : starEach [a] X.env = (false, eval a X.env) :: starEach [] X.env := by rfl) : QE X W (.Call (.Name "len" p) [.Call (.Name "set" p2) [a] [] q] [] pos) (pLenSt pa) := by
  obtain ⟨t, h1, h2⟩ := ha.ex
  refine ⟨_, pe_lenSt hc hg hm hg2 hm2 h1 na, fun B F0 ρ σ F H Φ Q R hp k => ?_⟩
  refine h2.fz R hp fun τ ρ1 v F1 H1 R1 le1 tv q1 => ?_
  obtain ⟨xs, rfl, hb, q1⟩ := q1
  obtain ⟨a, ys, rfl, h5, h6⟩ := tv
  rw [TvL.strs xs rfl h6] at h5
  exact ⟨a, xs, rfl, .of (R1.fh _ _ h5), hb, k _ false ρ1 _ F1 H1 R1 le1 VR.int q1⟩
end
/-! ### what the number tells -/
theorem dif_nodup (xs : List Str) : ∀ i, i ≤ xs.length → (dif xs i = i ↔ (xs.take i).Nodup)
  | 0, _ => by simp [dif]
  | i + 1, h => by
    have hi : i < xs.length := h
    have eg : xs.getD i Str.empty = xs[i] := by simp [List.getD_eq_getElem?_getD, List.getElem?_eq_getElem hi]
    have ih := dif_nodup xs i (Nat.le_of_lt hi)
    have dl := dif_le xs i
    rw [List.take_succ, List.getElem?_eq_getElem hi, Option.toList_some]
    unfold dif
    rw [eg, List.nodup_append]
    by_cases z : xs[i] ∈ xs.take i
    · rw [if_pos z]
      refine ⟨fun e => by omega, fun ⟨_, _, y⟩ => absurd rfl (y _ z _ (List.mem_singleton.mpr rfl))⟩
    · rw [if_neg z]
      refine ⟨fun e => ⟨ih.mp (by omega), by simp, fun a ha b hb e2 => ?_⟩, fun ⟨y, _, _⟩ => by rw [ih.mpr y]⟩
      rw [List.mem_singleton.mp hb] at e2
      exact z (e2 ▸ ha)
theorem dif_all {xs : List Str} : dif xs xs.length = xs.length ↔ xs.Nodup := by
  rw [dif_nodup xs xs.length (Nat.le_refl _), List.take_length]
end Y

namespace Y
open PySem PySem.Spec PyProof.Rows L2 RT RZ
/-! ### a def of two parameters that changes the list it is given as the second -/
abbrev MSp := T → List T → (T → List T → Prop) → Prop
def spM (K : PySem.W.Frag) (W : Wld) (pf : MSp) : Sp := fun vs H Q _ => ∃ v a xs t m F Ψ, vs = [v, .ref a] ∧ Le F H ∧ W.ok H ∧ (∀ b, W.D b → F b = none) ∧ Tv K F t v ∧ H a = some (.lst xs) ∧ TvL K F m xs ∧ F a = none ∧ ¬ W.A a ∧ pf t m Ψ ∧
  ∀ τ m' v' xs' F' H', Ψ τ m' → Le F F' → Le F' H' → (∀ b, F' b ≠ none → F b ≠ none ∨ (H b = none ∨ b = a)) → (∀ b o, H b = some o → ¬ W.D b → b ≠ a → H' b = some o) → W.ok H' → F' a = none → Tv K F' τ v' → H' a = some (.lst xs') → TvL K F' m' xs' → Q v' H'
def CalM (P : Program) (w : World) (K : PySem.W.Frag) (mg : Str → Option Value) (base : Heap) (W : Wld) (x : Str) (k : Nat) (ps : List Str) (pf : MSp) : Prop :=
  ∃ f fd, mg x = some (.ref f) ∧ PySem.W.keepIn K (.ref f) = true ∧ Binds K fd ps [] ∧ FnOk P w K mg base CX0 k f fd ps (spM K W pf)
open Classical in
theorem CalM.mk {P : Program} {w : World} {K : PySem.W.Frag} {mg : Str → Option Value} {base : Heap} {W : Wld} {x : Str} {st : Stmt} {p1 p2 : Str} {k : Nat} {pf : MSp} {e : Expr} {pos : Pos} (D : Df K mg x st) (S : FnScope [p1, p2] [p1, p2] (defScope st))
    (hb : ∀ (kV doc pm : Value) (an : Option Addr) (cdv ct : Value) (us : List Value), us.length = [p1, p2].length → bindArgs (PySem.W.fnOf x x (defArgs st) (defBody st) (defScope st) .none kV doc pm an cdv ct) ⟨us, []⟩ = pure ([p1, p2].zip us))
    (hret : defBody st = [.Return (some e) pos])
    (hbody : ∀ (f : Addr) (cdv : Value) (A : Around) (outer : List Env) (s : Shared) (H : Hp) (E : XK), Room k (A.deeper (envOfC x (defScope st) s.heap.objs.size f cdv)) →
      ∃ p, QE (cxOf CX0 P w K mg base [p1, p2] x (defScope st) f cdv A outer s H E) W e p ∧ ∀ t m Ψ, pf t m Ψ → p [.fz t, .ow m] fun τ f ρ' => f = false ∧ ∃ m', ρ'[1]? = some (.ow m') ∧ Ψ τ m') :
    CalM P w K mg base W x (k + 1) [p1, p2] pf := by
  obtain ⟨f, fd, F, g⟩ := D
  refine ⟨f, fd, g, F.kp, F.bindsN hb, F.ok S (fun vs H Q E h => ?_) (fun cdv A outer s H vs Q E hr h => ?_)⟩
  · obtain ⟨v, a, xs, t, m, F, Ψ, rfl, _⟩ := h
    rfl
  · obtain ⟨p, hQ, hp⟩ := hbody f cdv A outer s H E hr
    obtain ⟨te, h1, h2⟩ := hQ.ex
    rw [hret]
    refine ⟨_, pss_one (ps_ret h1), ?_⟩
    obtain ⟨v, a, xs, t, m, F, Ψ, rfl, q1, q2, q3, q4, q5, q6, q7, q8, q9, q10⟩ := h
    have R : Rep K W (fun b => if W.D b ∨ b = a then none else H b) F [.fz t, .ow m] (L2.start [p1, p2] [v, .ref a]) F H := by
      refine ⟨q1, Le.refl _, fun b z => .inl z, fun b o z => ?_, q2, q3, fun b z => if_pos (.inl z), rfl, fun i u z => ?_, fun i l z => ?_, fun i j l l' z z' _ => ?_⟩
      · have z : (if W.D b ∨ b = a then none else H b) = some o := z
        split at z
        · cases z
        · exact z
      · match i, z with
        | 0, z => cases z; exact ⟨v, rfl, q4⟩
        | 1, z => cases z
        | i + 2, z => cases z
      · match i, z with
        | 0, z => cases z
        | 1, z => cases z; exact ⟨a, _, rfl, q5, ⟨xs, rfl, q6⟩, q7, if_pos (.inr rfl), q8⟩
        | i + 2, z => cases z
      · match i, j, z, z' with
        | 0, _, z, _ => cases z
        | i + 2, _, z, _ => cases z
        | 1, 0, _, z' => cases z'
        | 1, 1, _, _ => rfl
        | 1, j + 2, _, z' => cases z'
    refine h2 _ F _ _ F H _ _ R (hp t m Ψ q9) fun τ fl ρ' v' F' H' R' le vr hq => ?_
    obtain ⟨rfl, m', e1, hq⟩ := hq
    obtain ⟨a', xs', e2, e3, e4, e5, e6, e7⟩ := R'.ow 1 m' e1
    obtain rfl : a = a' := by
      have e2 : some (some (V.ref a)) = some (some (V.ref a')) := e2
      cases e2
      rfl
    refine q10 τ m' v' xs' F' H' hq R'.f0 R'.fh (fun b z => ?_) (fun b o z hd hne => R'.bh b o (by show (if W.D b ∨ b = a then none else H b) = some o; rw [if_neg (fun y => y.elim hd hne)]; exact z)) R'.ok e5 vr e3 e4
    rcases R'.fd b z with y | y
    · exact .inl y
    · have y : (if W.D b ∨ b = a then none else H b) = none := y
      split at y
      · rename_i c
        rcases c with c | c
        · exact absurd (R'.wf b c) z
        · exact .inr (.inr c)
      · exact .inr (.inl y)
def pCallM (i : Nat) (pf : MSp) (pa : PE') : PE' := fun ρ Φ => pa ρ fun t _ ρ1 => ∃ m, ρ1[i]? = some (.ow m) ∧ pf t m fun τ m' => Φ τ false (ρ1.set i (.ow m'))
section
variable {K : PySem.W.Frag} {W : Wld} {B F0 F H F' H' : Hp} {ρ : PS'} {σ : L2.St} {i : Nat} {a : Addr} {m m' : List T} {xs' : List V}
theorem Rep.turned (R : Rep K W B F0 ρ σ F H) (e1 : ρ[i]? = some (.ow m)) (e2 : σ[i]? = some (some (V.ref a))) (le : Le F F') (fh : Le F' H') (fd : ∀ b, F' b ≠ none → F b ≠ none ∨ (H b = none ∨ b = a)) (kp : ∀ b o, H b = some o → ¬ W.D b → b ≠ a → H' b = some o)
    (ok : W.ok H') (fa : F' a = none) (h : H' a = some (.lst xs')) (tv : TvL K F' m' xs') : Rep K W B F0 (ρ.set i (.ow m')) σ F' H' := by
  obtain ⟨a0, xs, z1, z2, z3, z4, z5, z6⟩ := R.ow i m e1
  obtain rfl : a = a0 := by rw [e2] at z1; cases z1; rfl
  have hi : i < ρ.length := (List.getElem?_eq_some_iff.mp e1).1
  have off : ∀ b, F' b ≠ none → F b ≠ none ∨ H b = none ∨ b = a := fd
  have owas : ∀ {j : Nat} {l : T}, (ρ.set i (.ow m'))[j]? = some (Sl.own l) → ∃ l0, ρ[j]? = some (Sl.own l0) := fun {j l} z => by
    by_cases hj : i = j
    · subst hj
      exact ⟨.lst m, e1⟩
    · rw [List.getElem?_set_ne hj] at z
      exact ⟨l, z⟩
  refine ⟨fh, R.f0.trans le, fun b z => ?_, fun b o z => kp b o (R.bh _ _ z) (fun y => by rw [R.wb b y] at z; cases z) (fun y => by rw [y, z5] at z; cases z), ok, fun b z => ?_, R.wb, by rw [List.length_set]; exact R.ln, fun j t z => ?_, fun j l z => ?_, fun j j2 l l2 x1 x2 x3 => ?_⟩
  · rcases off b z with y | y | y
    · exact R.fd b y
    · exact .inr (none_of_le R.bh y)
    · exact .inr (by rw [y]; exact z5)
  · cases y : F' b with
    | none => rfl
    | some o =>
      rcases off b (some_ne y) with x | x | x
      · exact absurd (R.wf b z) x
      · exact absurd x (W.al H b R.ok (W.sub _ z))
      · exact absurd (x ▸ W.sub _ z) z6
  · by_cases hj : i = j
    · subst hj
      rw [List.getElem?_set_self hi] at z
      cases z
    · rw [List.getElem?_set_ne hj] at z
      obtain ⟨v, y1, y2⟩ := R.fz j t z
      exact ⟨v, y1, Tv.le le _ _ y2⟩
  · by_cases hj : i = j
    · subst hj
      rw [List.getElem?_set_self hi] at z
      cases z
      exact ⟨a, _, e2, h, ⟨xs', rfl, tv⟩, fa, z5, z6⟩
    · rw [List.getElem?_set_ne hj] at z
      obtain ⟨b, ys, y1, y2, y3, y4, y5, y6⟩ := R.own j l z
      have nb : b ≠ a := fun x => hj (R.ds i j _ l e1 z (by rw [e2, y1, x]))
      refine ⟨b, ys, y1, kp b _ y2 (fun x => y6 (W.sub _ x)) nb, y3.le le, ?_, y5, y6⟩
      cases x : F' b with
      | none => rfl
      | some o =>
        rcases off b (some_ne x) with w | w | w
        · exact absurd y4 w
        · rw [w] at y2
          cases y2
        · exact absurd w nb
  · obtain ⟨l0, x1⟩ := owas x1
    obtain ⟨l0', x2⟩ := owas x2
    exact R.ds j j2 l0 l0' x1 x2 x3
end
section
variable {X : Cx} {W : Wld} {e : Expr} {x y : Str} {p p2 pos : Pos} {k i : Nat} {ps : List Str} {pf : MSp} {pa : PE'}
theorem qe_callM (C : CalM X.prog X.w X.K X.mg X.base W x k ps pf) (hr : Room k X.A) (hg : Gl X x) (ha : QE X W e pa) (ho : PE X (.Name y p2) (tVar i)) (hdb : (x == ("__debug__" : Str)) = false := by decide)
    (he : starEach [e, .Name y p2] X.env = (false, eval e X.env) :: starEach [.Name y p2] X.env := by rfl) (he2 : starEach [.Name y p2] X.env = (false, eval (.Name y p2) X.env) :: starEach [] X.env := by rfl) (hpl : (backTo pos (starEach [.Name y p2] X.env)).any (·.1) = false := by rfl) :
    QE X W (.Call (.Name x p) [e, .Name y p2] [] pos) (pCallM i pf pa) := by
  obtain ⟨f, fd, hm, hk, hb, F⟩ := C
  obtain ⟨t, h1, h2⟩ := ha.ex
  refine ⟨_, pe_call F hr hg hm hk hb .nil pass0 (pa_cons h1 (pa_cons ho pa_nil he2) he) hdb he hpl, fun B F0 ρ σ F H Φ Q R hp kk => ?_⟩
  refine h2.fz R hp fun τ ρ1 v F1 H1 R1 le1 tv q1 => ?_
  obtain ⟨m, e1, q1⟩ := q1
  obtain ⟨a, xs, e2, e3, e4, e5, e6, e7⟩ := R1.ow i m e1
  refine ⟨.ref a, e2, v, a, xs, τ, m, F1, _, rfl, R1.fh, R1.ok, R1.wf, tv, e3, e4, e5, e7, q1, fun τ' m' v' xs' F' H' hΨ le fh fd kp ok fa vr ha' tv' => ?_⟩
  exact kk τ' false _ v' F' H' (R1.turned e1 e2 le fh fd kp ok fa ha' tv') (le1.trans le) (VR.fz vr) hΨ
end
end Y

namespace Y
open PySem PySem.Spec PyProof.Rows L2 RT RZ
/-! ### generator expressions without an if whose elements leave the slots as they were -/
section
variable {g : PG'} {pe : PE'} {vs : List Nat} {items : List T} {ρ1 : PS'} {Φ : T → Bool → PS' → Prop}
theorem genk_all (q : Nat → Bool) (now : ∀ i ∈ vs, ∀ l, ρ1[i]? ≠ some (Sl.own l))
    (step : ∀ i t (C : T → PS' → Prop) (D : PS' → Prop), items[i]? = some t → (∀ ρ5, wipeP ρ5 vs = wipeP ρ1 vs → C (.bl (q i)) ρ5) → g t false (wipeP ρ1 vs) fun ρ3 => pYes ρ3 fun b ρ4 => if b = true then pe ρ4 fun y _ ρ5 => C y ρ5 else D ρ4)
    (fin : ∀ b, b = (List.range items.length).all q → Φ (.bl b) false (restore ρ1 (wipeP ρ1 vs) vs)) : GenK false g pYes pe vs items ρ1 Φ := by
  refine ⟨now, fun i ρ => ρ = wipeP ρ1 vs ∧ ∀ m, m < i → q m = true, ⟨rfl, fun m z => absurd z (Nat.not_lt_zero m)⟩, fun i t ρ2 hi ⟨e, h⟩ => ?_, fun ρ2 ⟨e, h⟩ => ?_⟩
  · subst e
    refine step i t _ _ hi fun ρ5 e5 => ⟨q i, rfl, ?_⟩
    cases hq : q i with
    | false =>
      rw [if_pos rfl, e5]
      refine fin false (Eq.symm (List.all_eq_false.mpr ⟨i, List.mem_range.mpr (List.getElem?_eq_some_iff.mp hi).1, by rw [hq]; exact Bool.false_ne_true⟩))
    | true =>
      rw [if_neg (by decide)]
      refine ⟨e5, fun m hm => ?_⟩
      by_cases z : m = i
      · rw [z]; exact hq
      · exact h m (by omega)
  · subst e
    exact fin true (Eq.symm (List.all_eq_true.mpr fun m hm => h m (List.mem_range.mp hm)))
theorem genk_any (q : Nat → Bool) (now : ∀ i ∈ vs, ∀ l, ρ1[i]? ≠ some (Sl.own l))
    (step : ∀ i t (C : T → PS' → Prop) (D : PS' → Prop), items[i]? = some t → (∀ ρ5, wipeP ρ5 vs = wipeP ρ1 vs → C (.bl (q i)) ρ5) → g t false (wipeP ρ1 vs) fun ρ3 => pYes ρ3 fun b ρ4 => if b = true then pe ρ4 fun y _ ρ5 => C y ρ5 else D ρ4)
    (fin : ∀ b, b = (List.range items.length).any q → Φ (.bl b) false (restore ρ1 (wipeP ρ1 vs) vs)) : GenK true g pYes pe vs items ρ1 Φ := by
  refine ⟨now, fun i ρ => ρ = wipeP ρ1 vs ∧ ∀ m, m < i → q m = false, ⟨rfl, fun m z => absurd z (Nat.not_lt_zero m)⟩, fun i t ρ2 hi ⟨e, h⟩ => ?_, fun ρ2 ⟨e, h⟩ => ?_⟩
  · subst e
    refine step i t _ _ hi fun ρ5 e5 => ⟨q i, rfl, ?_⟩
    cases hq : q i with
    | true =>
      rw [if_pos rfl, e5]
      exact fin true (Eq.symm (List.any_eq_true.mpr ⟨i, List.mem_range.mpr (List.getElem?_eq_some_iff.mp hi).1, hq⟩))
    | false =>
      rw [if_neg (by decide)]
      refine ⟨e5, fun m hm => ?_⟩
      by_cases z : m = i
      · rw [z]; exact hq
      · exact h m (by omega)
  · subst e
    exact fin false (Eq.symm (List.any_eq_false.mpr fun m hm => by rw [h m (List.mem_range.mp hm)]; exact Bool.false_ne_true))
theorem sumk_sum (q : Nat → Int) (now : ∀ i ∈ vs, ∀ l, ρ1[i]? ≠ some (Sl.own l))
    (step : ∀ i t (C : T → PS' → Prop) (D : PS' → Prop), items[i]? = some t → (∀ ρ5, wipeP ρ5 vs = wipeP ρ1 vs → C (.int (q i)) ρ5) → g t false (wipeP ρ1 vs) fun ρ3 => pYes ρ3 fun b ρ4 => if b = true then pe ρ4 fun y _ ρ5 => C y ρ5 else D ρ4)
    (fin : Φ (.int ((List.range items.length).map q).sum) false (restore ρ1 (wipeP ρ1 vs) vs)) : SumK g pYes pe vs items ρ1 Φ := by
  refine ⟨now, fun i acc ρ => ρ = wipeP ρ1 vs ∧ acc = ((List.range i).map q).sum, ⟨rfl, rfl⟩, fun i acc t ρ2 hi ⟨e, h⟩ => ?_, fun acc ρ2 ⟨e, h⟩ => ?_⟩
  · subst e
    refine step i t _ _ hi fun ρ5 e5 => ⟨q i, rfl, e5, ?_⟩
    rw [List.range_succ, List.map_append, List.sum_append, h]
    simp
  · subst e
    rw [h]
    exact fin
end
/-! ### < of ints and of texts -/
def PLtS (x y : T) (Φ : T → Bool → Prop) : Prop := match x, y with
  | .int i, .int j => Φ (.bl (decide (i < j))) false
  | .str i, .str j => Φ (.bl (decide (i.cps.toList < j.cps.toList))) false
  | _, _ => False
theorem ltS_i {i j : Int} {Φ : T → Bool → Prop} : PLtS (.int i) (.int j) Φ = Φ (.bl (decide (i < j))) false := rfl
theorem ltS_s {i j : Str} {Φ : T → Bool → Prop} : PLtS (.str i) (.str j) Φ = Φ (.bl (decide (i.cps.toList < j.cps.toList))) false := rfl
theorem oq_ltS {X : Cx} {W : Wld} : OpQ X W (compareOp .Lt) PLtS := by
  intro B F0 ρ σ F H x y v u Φ Q R hx hy hp k
  unfold PLtS at hp
  split at hp
  · exact rS2.of op_lt ⟨_, _, hx, hy, k _ false _ F H R (Le.refl _) VR.bl hp⟩
  · exact rS2.of op_lt_str ⟨_, _, hx, hy, k _ false _ F H R (Le.refl _) VR.bl hp⟩
  · exact hp.elim
end Y

namespace Y
open PySem PySem.Spec PySem.W PySem.Calls PyProof.Rows
/-! ### sorted of tuples among which empty ones are, and of tuples' items -/
section
variable {prog : Program} {w : World} {A : Around} {E : Value → Shared → Prop} {s : Shared}
theorem tlt_call {Q : Value → Shared → Prop} {p q : Addr} {us ws : Array Value} {eb lb : Nat → Bool} (h1 : s.heap.IsTuple p us) (h2 : s.heap.IsTuple q ws)
    (h3 : ∀ j (a : j < us.size) (b : j < ws.size), SeqAt.EqAt A.in1 s us[j] ws[j] (eb j))
    (h4 : ∀ j (a : j < us.size) (b : j < ws.size), eb j = false → SeqAt.RcLt A.in1 s us[j] ws[j] (lb j))
    (hq : Q (.bool (SeqAt.firstLt eb lb (decide (us.size < ws.size)) (List.range (min us.size ws.size)))) s) :
    wpAny (model prog w) A (call (.builtin "tuple.__lt__") [.ref p, .ref q]) Q E s := by
  obtain ⟨⟨c1, d1, t1, z1⟩, ho1, hc1, n1, hd1⟩ := id h1
  obtain ⟨⟨c2, d2, t2, z2⟩, ho2, hc2, n2, hd2⟩ := id h2
  simp only at hc1 hd1 hc2 hd2
  subst hc1 hd1 hc2 hd2
  exact call_meets F.slot_tuple_lt ⟨_, ho1, rfl⟩ F.entry_tuple_lt (F.args_tuple_lt_2 _ _) (SeqAt.tuple_ltAt p q us ws n1 n2 d1 d2 z1 z2 eb lb)
    ⟨ho1, ho2, h3, h4, hq⟩
/-- tuples of alike data, compared as keys of one type -/
theorem one_tups {xs ys : List PyData} {a b : Value} {as bs : List Addr} {Q : Bool → Shared → Prop} (ra : Reads s.heap a (.tuple xs) as) (rb : Reads s.heap b (.tuple ys) bs)
    (hal : alikeAll xs ys = true) (hu : A.units + min (PyData.tuple xs).depth (PyData.tuple ys).depth < cLine) (hq : Q (dataLt (.tuple xs) (.tuple ys)) s) :
    wpAny (model prog w) A (oneLt' true a b) Q E s := by
  cases ra with
  | @tuple l o vs n _ as₁ e1 e2 e3 e4 =>
    cases rb with
    | @tuple l' o' vs' n' _ bs₁ k1 k2 k3 k4 =>
      have m1 : vs.size = xs.length := by simpa using SeqAt.ReadsAll.length _ _ _ e4
      have m2 : vs'.size = ys.length := by simpa using SeqAt.ReadsAll.length _ _ _ k4
      rw [dataLt_tuple, ← firstLt_toks xs ys hal, ← m1, ← m2] at hq
      rw [oneLt'_eq]
      simp only [if_true]
      refine wpAny_bind (wpAny_cRoomFor (SeqAt.room_here hu) (wpAny_bind (wpAny_callSpecialIfBound?_slot (T := "tuple") ⟨_, e1, e2⟩ F.slot_tuple_lt ?_)))
      refine tlt_call (eb := SeqAt.pairEq xs ys) (lb := fun j => dataLt (xs.getD j .none) (ys.getD j .none)) ⟨_, e1, e2, _, e3⟩ ⟨_, k1, k2, _, k3⟩ (fun j j1 j2 => ?_) (fun j j1 j2 hj => ?_) ?_
      · have := eqAt_alikeAll xs ys A.in1 s vs.toList vs'.toList _ _ e4 k4 hal (SeqAt.room_in hu) j (by simpa using j1) (by simpa using j2)
        simpa using this
      · have := rcLt_alikeAll xs ys A.in1 s vs.toList vs'.toList _ _ e4 k4 hal (SeqAt.room_in hu) j (by simpa using j1) (by simpa using j2) hj
        simpa using this
      · exact wpAny_truthy_bool hq
theorem kind_tups {M : Model} {vs : List Value} {v₁ : Value} {r : List Value} {Q : SortKind → Shared → Prop} (e : vs = v₁ :: r) (h1 : wpAny M A (firstOfTuple' v₁) (fun o t => o = none ∧ t = s) (fun _ _ => False) s)
    (hf : ∀ v ∈ r, ∀ Q' : Option Value → Shared → Prop, (∀ o, Q' o s) → wpAny M A (firstOfTuple' v) Q' E s)
    (hT : ∀ v ∈ vs, Looks M s.heap (typeOf v) (.type "tuple")) (h : Q oneType' s) : wpAny M A (keyKind' vs.toArray) Q E s := by
  subst e
  rw [kat_kind_eq, List.mapM_toArray, map_eq_pure_bind]
  refine wpAny_bind (wpAny_bind ?_)
  have tail : ∀ (l : List Value), (∀ v ∈ l, ∀ Q' : Option Value → Shared → Prop, (∀ o, Q' o s) → wpAny M A (firstOfTuple' v) Q' E s) → ∀ R : List (Option Value) → Shared → Prop, (∀ os, R os s) → wpAny M A (l.mapM firstOfTuple') R E s := by
    intro l
    induction l with
    | nil => intro _ R hR; rw [List.mapM_nil]; exact wpAny_pure (hR _)
    | cons v l ih =>
      intro hl R hR
      rw [List.mapM_cons]
      exact wpAny_bind (hl v (.head _) _ fun o => wpAny_bind (ih (fun u hu => hl u (.tail _ hu)) _ fun os => wpAny_pure (hR _)))
  rw [List.mapM_cons]
  refine wpAny_bind (wpAny_mono h1 ?_ fun _ _ z => z.elim)
  rintro o t ⟨rfl, rfl⟩
  refine wpAny_bind (tail r hf _ fun os => wpAny_pure (wpAny_pure ?_))
  rw [if_neg (by simp)]
  rw [if_neg (by simp)]
  rw [oneTypeOnly'_eq, List.mapM_toArray, map_eq_pure_bind]
  refine wpAny_bind (wpAny_bind (wpAny_bind (kas_mapM (r := Value.type "tuple") _ (fun v hv Q' hq => (hT v hv).here hq) (wpAny_pure ?_))))
  have a1 : ((List.map (fun _ => Value.type "tuple") (v₁ :: r)).toArray.all fun x => x == Value.type "tuple") = true := by
    simp only [List.all_toArray, List.all_map, List.all_eq_true]
    intro _ _
    exact beq_self_eq_true _
  have a2 : (List.map (fun _ => Value.type "tuple") (v₁ :: r)).toArray[0]? = some (Value.type "tuple") := by simp
  rw [a2]
  simp only [a1, if_true]
  exact wpAny_pure (wpAny_pure h)
/-- tuples, an empty one ahead -/
theorem sortsEmp {vs : List Value} {ds : List PyData} (e : EachIs (fun v d => ∃ as, Reads s.heap v d as) vs (.tuple [] :: ds)) (hal : AllAlike (.tuple [] :: ds)) (ht : ∀ d ∈ ds, ∃ xs, d = .tuple xs)
    (hu : ∀ d, d ∈ (PyData.tuple [] :: ds) → A.units + d.depth < cLine) : SortsAt prog w A s (dataKind s.heap (.tuple [] :: ds)) vs := by
  have tup : ∀ d ∈ (PyData.tuple [] :: ds), ∃ xs, d = .tuple xs := fun d hd => by
    rcases List.mem_cons.mp hd with rfl | hd
    · exact ⟨_, rfl⟩
    · exact ht d hd
  refine ⟨fun v hv => ?_, oneType', ?_, fun _ E Q hq => ?_⟩
  · obtain ⟨d, hd, as, r⟩ := e.left v hv
    exact ⟨_, dataKind_some hal hd r⟩
  · intro E x y a b Q ha hb hq
    obtain ⟨d, as, hd, ra, rfl⟩ := dataKind_inv ha
    obtain ⟨d', as', hd', rb, rfl⟩ := dataKind_inv hb
    obtain ⟨xs, rfl⟩ := tup d hd
    obtain ⟨ys, rfl⟩ := tup d' hd'
    rw [keyLt'_oneType]
    exact one_tups ra rb (by have := hal _ hd _ hd'; simpa [alike] using this) (Nat.lt_of_le_of_lt (Nat.add_le_add_left (Nat.min_le_left _ _) _) (hu _ hd)) hq
  · have looks : ∀ v ∈ vs, Looks (model prog w) s.heap (typeOf v) (.type "tuple") := fun v hv => by
      obtain ⟨d, hd, as, r⟩ := e.left v hv
      obtain ⟨xs, rfl⟩ := tup d hd
      exact looks_reads r
    cases e with
    | @cons v₁ _ r _ h1 h2 =>
      obtain ⟨as, h1⟩ := h1
      refine kind_tups rfl ?_ (fun v hv Q' hQ' => ?_) looks hq
      · cases h1 with
        | @tuple a o xs n _ _ g1 g2 g3 g4 =>
          rw [kas_first_eq]
          refine wpAny_bind (Looks.here (show Looks _ s.heap (typeOf (.ref a)) o.cls from (Looks.ld g1).andThen .now) ?_)
          rw [g2, if_neg (by first | decide | simp)]
          refine wpAny_bind (listItems_at g1 g3 (wpAny_pure ⟨?_, rfl⟩))
          have z : xs.toList = [] := by
            cases q : xs.toList with
            | nil => rfl
            | cons f fr => rw [q] at g4; cases g4
          rw [← Array.getElem?_toList, z]
          rfl
      · obtain ⟨d, hd, as, r⟩ := h2.left v hv
        obtain ⟨zs, rfl⟩ := ht d hd
        cases r with
        | @tuple a o xs n _ _ g1 g2 g3 g4 =>
          rw [kas_first_eq]
          refine wpAny_bind (Looks.here (show Looks _ s.heap (typeOf (.ref a)) o.cls from (Looks.ld g1).andThen .now) ?_)
          rw [g2, if_neg (by first | decide | simp)]
          exact wpAny_bind (listItems_at g1 g3 (wpAny_pure (hQ' _)))
/-- the items of a tuple, taken as a list -/
theorem collect_tup {l : Addr} {vs : List Value} {Q : List Value → Shared → Prop} (hl : s.heap.IsTuple l vs.toArray)
    (h : Q vs { s with heap := (s.heap.push (seqObj "list" #[] 0)).update s.heap.objs.size (Obj.mapSeq (· ++ vs.toArray)) }) (hsz : vs.length ≤ sizeLine) :
    wpAny (model prog w) A (collect (.ref l)) Q E s := by
  obtain ⟨o, ho, hc, n, hd⟩ := id hl
  unfold collect
  refine wpAny_bind (wpAny_runValue (codeAny_builtin entry_proto_collect' ?_))
  show wpAny _ _ (do again (.builtin "list.__iadd__" ⟨[← newList [], .ref l], []⟩)) _ _ s
  refine wpAny_bind (wpAny_newList (wpAny_pure ⟨Code.quiet_builtin _ (by decide +kernel), codeAny_builtin entry_list_iadd' ?_⟩))
  show wpAny _ _ (Builtin.List.listExtendWith (.ref s.heap.objs.size) (.ref l) (.ref s.heap.objs.size)) _ _ { s with heap := s.heap.push (seqObj "list" #[] 0) }
  unfold Builtin.List.listExtendWith
  have g : (s.heap.push (seqObj "list" #[] 0)).get? l = some o := Heap.get?_push_of_some _ ho
  refine wpAny_bind (wpAny_typeOf (T := "tuple") ⟨o, g, hc⟩ ?_)
  have ht : (Value.type "tuple" == Value.type "tuple") = true := by rfl
  rw [if_pos (by rw [ht]; simp)]
  refine wpAny_bind (listItems_at g hd (wpAny_bind (listItems_at (xs := #[]) (n := 0) (Heap.get?_push_size _ rfl) rfl ?_)))
  rw [if_neg (by simp)]
  refine wpAny_bind (listUpdate_at (xs := #[]) (n := 0) (Heap.get?_push_size _ rfl) rfl ?_ (Nat.zero_le _) (by simp; omega))
  refine wpAny_pure ?_
  show wpAny (model prog w) A (do
      let o ← load s.heap.objs.size
      match o.data with
      | .seq xs _ => pure xs.toList
      | _ => unsupported "internal:collect") Q E _
  refine wpAny_bind (wpAny_load (get?_update_seq (Heap.get?_push_size _ rfl) _) ?_)
  show wpAny _ _ (pure ((#[] : Array Value) ++ vs.toArray).toList) Q E _
  rw [show ((#[] : Array Value) ++ vs.toArray).toList = vs by simp]
  exact wpAny_pure h
theorem sorted_tup {κ : PyProof.Rows.KeyKind} {l : Addr} {vs : List Value} {Q : Value → Shared → Prop} (hl : s.heap.IsTuple l vs.toArray) (S : SortsAt prog w A.in1.in1 { s with heap := sortingHeap (copyHeap s.heap vs) (s.heap.objs.size + 1) vs } κ vs) (hL : vs.length ≤ sizeLine)
    (h : Q (.ref (s.heap.objs.size + 1)) { s with heap := sortedAll s.heap vs (sortVals κ false vs vs).toArray }) : wpAny (model prog w) A (call (.builtin "sorted") [.ref l]) Q E s := by
  refine call_function_entry_kw kind_sorted plain_sorted entry_sorted (args_sorted1 _) ?_
  unfold Builtin.«sorted»
  refine wpAny_bind (m := checkCount "sorted" 1 1 _) (wpAny_pure (wpAny_bind (collect_tup hl (wpAny_bind (wpAny_newList ?_ hL)) hL)))
  have hsz : ((s.heap.push (seqObj "list" #[] 0)).update s.heap.objs.size (Obj.mapSeq (· ++ vs.toArray))).objs.size = s.heap.objs.size + 1 := by
    rw [Heap.size_update, size_push']
  show wpAny _ _ _ _ _ { s with heap := copyHeap s.heap vs }
  rw [hsz]
  refine wpAny_bind (wpAny_holding (wpAny_call_entry_kw slot_list_sort ⟨_, copyHeap_at s.heap vs, rfl⟩ entry_list_sort ?body (args_list_sort _)))
  case body =>
    refine wpAny_mono (list_sort_vals (P := fun f t => f = .done (.ret .none) ∧ Q (.ref (s.heap.objs.size + 1)) t) (s := { s with heap := copyHeap s.heap vs }) (copyHeap_at s.heap vs) S hL ⟨rfl, h⟩) (fun f t hf => ?_) fun _ _ z => z
    obtain ⟨rfl, hq⟩ := hf
    exact ⟨_, rfl, wpAny_pure ⟨_, rfl, hq⟩⟩
end
end Y

namespace Y
open PySem PySem.Spec PyProof.Rows L2 RT RZ
/-! ### sorted of data of any form, by values -/
def leT (x y : T) : Bool := PySem.W.dataLe false T.pd x y
theorem leT_eq (x y : T) : leT x y = !PySem.W.dataLt (T.pd y) (T.pd x) := rfl
structure SrtOk (xs : List T) : Prop where
  na : ∀ x ∈ xs, T.noA x = true
  dp : ∀ x ∈ xs, (T.pd x).depth ≤ 60
  al : PySem.W.AllAlike (xs.map T.pd)
  sk : PySem.W.Sortable (xs.map T.pd) ∨ ∃ r, xs = .tup [] :: r ∧ ∀ x ∈ r, ∃ l, x = .tup l
  ln : xs.length ≤ 16000000
theorem tvl_pairs {K : PySem.W.Frag} {F : Hp} : ∀ ps : List (V × T), (∀ p ∈ ps, Tv K F p.2 p.1) → TvL K F (ps.map (·.2)) (ps.map (·.1))
  | [], _ => rfl
  | p :: ps, h => ⟨p.1, ps.map (·.1), rfl, h p (.head _), tvl_pairs ps fun q hq => h q (.tail _ hq)⟩
theorem tvl_zip {K : PySem.W.Frag} {F : Hp} : ∀ {l : List T} {xs : List V}, TvL K F l xs → ∃ ps : List (V × T), ps.map (·.2) = l ∧ ps.map (·.1) = xs ∧ ∀ p ∈ ps, Tv K F p.2 p.1
  | [], xs, h => ⟨[], rfl, (show xs = [] from h).symm, fun _ z => (nomatch z)⟩
  | t :: l, _, h => by
    obtain ⟨x, r, rfl, h1, h2⟩ := h
    obtain ⟨ps, e1, e2, e3⟩ := tvl_zip h2
    refine ⟨(x, t) :: ps, by rw [List.map_cons, e1], by rw [List.map_cons, e2], fun p hp => ?_⟩
    rcases List.mem_cons.mp hp with rfl | hp
    · exact h1
    · exact e3 p hp
theorem each_vals : ∀ {ps : List (V × T)} {us : List Value}, Vals (ps.map (·.1)) us → PySem.W.EachIs (fun u (p : V × T) => RelV p.1 u) us ps
  | [], us, h => by
    rw [List.map_nil] at h
    cases h
    exact .nil
  | p :: ps, us, h => by
    rw [List.map_cons] at h
    cases h with
    | cons h1 h2 => exact .cons h1 (each_vals h2)
theorem vals_each : ∀ {ps : List (V × T)} {us : List Value}, PySem.W.EachIs (fun u (p : V × T) => RelV p.1 u) us ps → Vals (ps.map (·.1)) us
  | _, _, .nil => .nil
  | _, _, .cons h t => .cons h (vals_each t)
def PSortD : PSp := fun l Φ => ∃ xs, (l = [.lst xs] ∨ l = [.tup xs]) ∧ SrtOk xs ∧ Φ (.lst (xs.mergeSort leT)) true
section
variable {X : Cx} {W : Wld}
theorem each_reads {pins : List (Addr × Obj)} {σ : L2.St} {H : Hp} {s : Shared} (I : Inv X pins σ H s) {F : Hp} (le : Le F H) : ∀ {ps : List (V × T)} {us : List Value}, (∀ p ∈ ps, Tv X.K F p.2 p.1) → (∀ p ∈ ps, T.noA p.2 = true) → Vals (ps.map (·.1)) us →
    PySem.W.EachIs (fun u (p : V × T) => ∃ as, Reads s.heap u (T.pd p.2) as) us ps
  | [], us, _, _, h => by
    rw [List.map_nil] at h
    cases h
    exact .nil
  | p :: ps, us, h1, h2, h => by
    rw [List.map_cons] at h
    cases h with
    | cons r t => exact .cons (Dp.reads I _ _ _ (Tv.dp _ _ (h2 p (.head _)) (Tv.le le _ _ (h1 p (.head _)))) r) (each_reads I le (fun q hq => h1 q (.tail _ hq)) (fun q hq => h2 q (.tail _ hq)) t)
theorem cq_sortedD (hu : X.A.units + 65 < cLine) : CallQ X W (.builtin "sorted") PSortD := by
  intro B F0 ρ σ F H l vs Φ Q R tv hp k
  obtain ⟨xs, hl, ok, hp⟩ := hp
  -- what stands there
  have base : ∀ (a : Addr) (ys : List V), TvL X.K F xs ys → (SqL X.K H a ys ∨ SqT X.K H a ys) → vs = [.ref a] → rSC X (.builtin "sorted") vs H Q := by
    intro a ys ty sq ev
    subst ev
    obtain ⟨ps, e1, e2, e3⟩ := tvl_zip ty
    intro pins s σ' us I rs
    have hna : ∀ p ∈ ps, T.noA p.2 = true := fun p hp => ok.na p.2 (by rw [← e1]; exact List.mem_map.mpr ⟨p, hp, rfl⟩)
    have hal : PySem.W.AllAlike (ps.map fun p => T.pd p.2) := by
      have := ok.al
      rw [← e1, List.map_map] at this
      exact this
    have hlen : ps.length = xs.length := by rw [← e1, List.length_map]
    have hL : ps.length ≤ sizeLine := by rw [hlen, sizeLine_eq]; have := ok.ln; omega
    have fin : ∀ (its out : List Value), out.length = ps.length → PySem.W.EachIs (fun u (p : V × T) => RelV p.1 u) out (ps.mergeSort (PySem.W.dataLe false fun p => T.pd p.2)) →
        EP X pins σ' Q (.ref (s.heap.objs.size + 1)) { s with heap := PyProof.Rows.sortedAll s.heap its (List.toArray out) } := by
      intro its out ol oe
      obtain ⟨ep, he'⟩ := PyProof.Rows.sortedAll_at s.heap its (List.toArray out)
      have pm : (ps.mergeSort (PySem.W.dataLe false fun p => T.pd p.2)).Perm ps := List.mergeSort_perm _ _
      have hn := I.hok.fresh (Nat.le_succ s.heap.objs.size)
      have hv := vals_each oe
      have tl := tvl_pairs (K := X.K) (F := F) (ps.mergeSort (PySem.W.dataLe false fun p => T.pd p.2)) fun p hp => e3 p (pm.mem_iff.mp hp)
      have em : (ps.mergeSort (PySem.W.dataLe false fun p => T.pd p.2)).map (·.2) = xs.mergeSort leT := by
        rw [← e1]
        exact List.map_mergeSort fun a _ b _ => rfl
      rw [em] at tl
      obtain ⟨R2, vr⟩ := R.newL hn tl
      refine ⟨.ref _, upd H (s.heap.objs.size + 1) (.lst ((ps.mergeSort (PySem.W.dataLe false fun p => T.pd p.2)).map (·.1))), I.laid (t' := s.toks) (fun _ _ => PyProof.Rows.sortedAll_old) (Nat.le_succ _) ⟨?_, out, ep, hv, he'⟩, rfl, k _ true _ F _ R2 (Le.refl _) vr hp⟩
      rw [List.length_map, pm.length_eq]
      exact hL
    have sorts : ∀ (its : List Value), Vals ys its → PySem.W.SortsAt X.prog X.w X.A.in1.in1 { s with heap := PySem.W.sortingHeap (PySem.W.copyHeap s.heap its) (s.heap.objs.size + 1) its } (PySem.W.dataKind (PySem.W.sortingHeap (PySem.W.copyHeap s.heap its) (s.heap.objs.size + 1) its) (ps.map fun p => T.pd p.2)) its := by
      intro its rv
      have er := each_reads I R.fh e3 hna (by rw [e2]; exact rv)
      have er' : PySem.W.EachIs (fun v (p : V × T) => ∃ as, Reads (PySem.W.sortingHeap (PySem.W.copyHeap s.heap its) (s.heap.objs.size + 1) its) v (T.pd p.2) as) its ps := er.mono fun _ _ ⟨as, r⟩ => ⟨as, PyProof.Rows.Reads.keeps (fun _ _ => PySem.W.sorting_copy_old) r⟩
      have em := PySem.W.each_map (R := fun v d => ∃ as, Reads (PySem.W.sortingHeap (PySem.W.copyHeap s.heap its) (s.heap.objs.size + 1) its) v d as) (fun p : V × T => T.pd p.2) er'
      have un : ∀ d, d ∈ (ps.map fun p => T.pd p.2) → X.A.in1.in1.units + d.depth < cLine := by
        intro d hd
        obtain ⟨p, hp, rfl⟩ := List.mem_map.mp hd
        have q := ok.dp p.2 (by rw [← e1]; exact List.mem_map.mpr ⟨p, hp, rfl⟩)
        have q2 : X.A.in1.in1.units = X.A.units + 2 := rfl
        rw [q2]
        omega
      rcases ok.sk with sk | ⟨r, e0, tr⟩
      · have sk' : PySem.W.Sortable (ps.map fun p => T.pd p.2) := by
          rw [← e1, List.map_map] at sk
          exact sk
        exact PySem.W.SortsAt.data (s := { s with heap := PySem.W.sortingHeap (PySem.W.copyHeap s.heap its) (s.heap.objs.size + 1) its }) em hal sk' un
      · have eq : (ps.map fun p => T.pd p.2) = .tuple [] :: r.map T.pd := by
          have : (ps.map (·.2)).map T.pd = .tuple [] :: r.map T.pd := by rw [e1, e0]; rfl
          rw [List.map_map] at this
          exact this
        rw [eq] at em hal un ⊢
        refine sortsEmp (s := { s with heap := PySem.W.sortingHeap (PySem.W.copyHeap s.heap its) (s.heap.objs.size + 1) its }) em hal (fun d hd => ?_) un
        obtain ⟨t, ht, rfl⟩ := List.mem_map.mp hd
        obtain ⟨l, rfl⟩ := tr t ht
        exact ⟨_, rfl⟩
    have data : ∀ (its : List Value), Vals ys its → PySem.W.EachIs (fun u (p : V × T) => RelV p.1 u) (PySem.W.sortVals (PySem.W.dataKind (PySem.W.sortingHeap (PySem.W.copyHeap s.heap its) (s.heap.objs.size + 1) its) (ps.map fun p => T.pd p.2)) false its its) (ps.mergeSort (PySem.W.dataLe false fun p => T.pd p.2)) := by
      intro its rv
      have er := each_reads I R.fh e3 hna (by rw [e2]; exact rv)
      have er' : PySem.W.EachIs (fun v (p : V × T) => ∃ as, Reads (PySem.W.sortingHeap (PySem.W.copyHeap s.heap its) (s.heap.objs.size + 1) its) v (T.pd p.2) as) its ps := er.mono fun _ _ ⟨as, r⟩ => ⟨as, PyProof.Rows.Reads.keeps (fun _ _ => PySem.W.sorting_copy_old) r⟩
      exact PySem.W.sortVals_data false (each_vals (by rw [e2]; exact rv)) er' hal
    have len : ∀ (its : List Value), Vals ys its → its.length = ps.length := fun its rv => by
      rw [← rv.length, ← e2, List.length_map]
    rcases sq with sq | sq
    · obtain ⟨its, rv, hl, hz⟩ := I.list sq
      rw [Vals.ref1 rs]
      refine PySem.W.sorted_vals hl.isList (sorts its rv) (by rw [len its rv]; exact hL) (fin its _ ?_ (data its rv))
      rw [PySem.W.sortVals_length false rfl]
      exact len its rv
    · obtain ⟨its, rv, hl, hz⟩ := I.tuple sq
      rw [Vals.ref1 rs]
      refine sorted_tup hl (sorts its rv) (by rw [len its rv]; exact hL) (fin its _ ?_ (data its rv))
      rw [PySem.W.sortVals_length false rfl]
      exact len its rv
  rcases hl with rfl | rfl
  · obtain ⟨v, rfl, a, ys, rfl, h2, h3⟩ := tvl1 tv
    exact base a ys h3 (.inl (.of (R.fh _ _ h2))) rfl
  · obtain ⟨v, rfl, a, ys, rfl, h2, h3⟩ := tvl1 tv
    exact base a ys h3 (.inr (sqt_le R.fh h2)) rfl
end
end Y

/-! tuple(reversed(x)), x a tuple or a list, by values -/
namespace Y
open PySem PySem.Spec PyProof.Rows RT
theorem rt_nolen : typeLookup (.type "reversed") "__len__" = pure none := by rw [typeLookup_type, builtinLookup_eq_fast]; kernel_rfl
theorem rt_hint : typeLookup (.type "reversed") "__length_hint__" = pure (some (.builtin "reversed.__length_hint__")) := by rw [typeLookup_type, builtinLookup_eq_fast]; kernel_rfl
theorem rt_slot : Slot "reversed" "__length_hint__" "reversed.__length_hint__" :=
  .of (owner := "reversed") (n := "__length_hint__") rt_hint (by decide +kernel) (by decide +kernel) (by decide +kernel)
    (by first | exact .inl (by decide +kernel) | exact .inr (by decide +kernel)) (by rw [isSubtype_type]; kernel_rfl)
theorem rt_entry : entryFor table "reversed.__length_hint__" = some Builtin.«reversed.__length_hint__» := entryFor_of_tree (by kernel_rfl)
theorem rt_args (a : Value) : argsOk "reversed.__length_hint__" ⟨[a], []⟩ := by
  unfold argsOk; rw [signature?_of (id := "reversed.__length_hint__") (n := "__length_hint__".toList.reverse) (o := "reversed".toList.reverse) (by kernel_rfl) (by first | exact owner_rt | kernel_rfl)]; kernel_rfl
section
variable {prog : Program} {w : World} {A : Around} {E : Value → Shared → Prop} {s : Shared}
theorem rt_hints {it t : Addr} {items : Array Value} {Q : Value → Shared → Prop} (hit : IsRt s.heap it t ((items.size : Int) - 1)) (ht : IsTup s.heap t items)
    (hlen : ∀ (A : Around) (E : Value → Shared → Prop) (Q : Value → Shared → Prop), Q (.int items.size (s.toks + 1)) { s with toks := s.toks + 1 + 1 } → wpAny (model prog w) A (call (.builtin "len") [.ref t]) Q E s)
    (hq : ∀ tk k, Q (.int (items.size : Int) k) { s with toks := tk }) :
    wpAny (model prog w) A (call (.builtin "reversed.__length_hint__") [.ref it]) Q E s := by
  obtain ⟨o, ho, hc, hd⟩ := id hit
  refine wpAny_call_entry rt_slot hit.typeIs rt_entry ?_ (rt_args _)
  unfold Builtin.«reversed.__length_hint__»
  refine wpAny_bind (wpAny_of_eq (a := Value.ref it) rfl ?_)
  try dsimp only
  refine wpAny_bind (wpAny_field ho hd (x := .ref t) rfl ?_)
  try dsimp only
  rw [if_neg (by first | decide | simp)]
  refine wpAny_bind (hlen _ _ _ ?_)
  refine wpAny_bind (wpAny_of_eq (a := some ((items.size : Nat) : Int)) rfl ?_)
  try dsimp only
  refine wpAny_bind (wpAny_field (s := { s with toks := s.toks + 1 + 1 }) ho hd (x := rawInt ((items.size : Int) - 1)) rfl ?_)
  show wpAny _ _ (if ((items.size : Nat) : Int) < ((items.size : Int) - 1) + 1 then _ else _) _ _ _
  rw [if_neg (by omega)]
  have e9 : (items.size : Int) - 1 + 1 = items.size := by omega
  rw [e9]
  unfold retInt
  exact wpAny_bind (wpAny_mkInt (wpAny_pure ⟨_, rfl, hq _ _⟩))
theorem rt_room {it t : Addr} {items : Array Value} {Q : Bool → Shared → Prop} (hit : IsRt s.heap it t ((items.size : Int) - 1)) (ht : IsTup s.heap t items) (hn : items.size ≤ sizeLine)
    (hlen : ∀ (A : Around) (E : Value → Shared → Prop) (Q : Value → Shared → Prop), Q (.int items.size (s.toks + 1)) { s with toks := s.toks + 1 + 1 } → wpAny (model prog w) A (call (.builtin "len") [.ref t]) Q E s)
    (hq : ∀ tk b, Q b { s with toks := tk }) : wpAny (model prog w) A (Builtin.List.listLengthHint (.ref it)) Q E s := by
  have hT := hit.typeIs
  unfold Builtin.List.listLengthHint
  refine wpAny_bind (wpAny_specialOf hT rt_nolen ?_)
  show wpAny _ A (specialOf (Value.ref it) (Str.ofString "__length_hint__") >>= _) _ _ _
  refine wpAny_bind (wpAny_specialOf hT rt_hint ?_)
  generalize hid : ("reversed.__length_hint__" : String) = id0
  wp_delta
  rw [show splitId id0 = some ("reversed", "__length_hint__") from by subst hid; decide +kernel]
  subst hid
  refine wpAny_bind (wpAny_isInstance (b := true) hT (by rw [isSubtype_type]; kernel_rfl) ?_)
  try dsimp only
  rw [if_neg (by decide)]
  try dsimp only
  rw [if_neg (by decide +kernel)]
  refine wpAny_bind (wpAny_rule ?_)
  rw [rt_slot.bind]
  refine wpAny_bind (wpAny_pure ?_)
  try dsimp only
  refine wpAny_bind (wpAny_attempt (rt_hints hit ht hlen fun tk k => ?_))
  try dsimp only
  have ea : asInt? (Value.int (items.size : Int) k) = pure (some (items.size : Int)) := rfl
  rw [ea, pure_bind]
  try dsimp only
  rw [sizeLine_eq] at hn
  have f1 : Builtin.List.listFitsIndex ((items.size : Nat) : Int) = true := by
    unfold Builtin.List.listFitsIndex
    simp only [Bool.and_eq_true, decide_eq_true_eq]
    omega
  have f2 : Builtin.List.listTooLong ((items.size : Nat) : Int).toNat = false := by
    unfold Builtin.List.listTooLong
    rw [sizeLine_eq]
    exact decide_eq_false (by omega)
  rw [if_neg (by rw [f1]; decide), if_neg (by omega), if_neg (by rw [f2]; decide)]
  exact wpAny_pure (hq _ _)
end
section
variable {prog : Program} {w : World} {A : Around} {E : Value → Shared → Prop} {s : Shared}
theorem rt_walks (hh : A.handled = none) (I t : Addr) (hne : t ≠ I) (items : Array Value) (hsz : items.size ≤ sizeLine) :
    Walks prog w A I [I, t] [I] items.size (fun i v => items[items.size - 1 - i]? = some v) (fun i h => i ≤ items.size ∧ IsRt h I t ((items.size : Int) - 1 - (i : Int)) ∧ IsTup h t items) where
  sub := fun b hb => by simp at hb; simp [hb]
  frame := fun _ _ _ x hk => ⟨x.1, x.2.1.at fun o e => hk I (by simp) o e, by
    obtain ⟨o, ho, r⟩ := x.2.2
    exact ⟨o, hk t (by simp) o ho, r⟩⟩
  item := fun i s Q E hi x hQ => by
    have e : (items.size : Int) - 1 - (i : Int) = ((items.size - 1 - i : Nat) : Int) := by omega
    have hit := x.2.1
    rw [e] at hit
    have hx : items[items.size - 1 - i]? = some (items[items.size - 1 - i]'(by omega)) := Array.getElem?_eq_getElem (by omega)
    refine next_rt_item hit x.2.2 hx hsz fun h' hit' hs' => ?_
    have e2 : ((items.size - 1 - i : Nat) : Int) - 1 = (items.size : Int) - 1 - ((i + 1 : Nat) : Int) := by omega
    rw [e2] at hit'
    refine hQ _ h' _ hx ⟨hi, hit', ?_⟩ fun b o hb eo => hs'.extBut b o (fun h => hb (by simp [h])) eo
    obtain ⟨o, ho, r⟩ := x.2.2
    exact ⟨o, (hs'.2 t hne).trans ho, r⟩
  done := fun s Q E x hQ => by
    have e : (items.size : Int) - 1 - (items.size : Int) = -1 := by omega
    have hit := x.2.1
    rw [e] at hit
    exact next_rt_end hh hit fun h' he' => hQ h' s.toks fun b o hb eo => he' b o (fun h => hb (by simp [h])) eo
  self := fun _ _ _ _ x hQ => iter_rt x.2.1 hQ
theorem rt_collect {it t : Addr} {items : Array Value} {Q : List Value → Shared → Prop} (hh : A.handled = none) (hit : IsRt s.heap it t ((items.size : Int) - 1)) (ht : IsTup s.heap t items) (hne : t ≠ it) (hn : items.size ≤ sizeLine)
    (hQ : ∀ (h' : Heap) (tk : Nat) (acc : Array Value), (∀ b o, b ≠ it → s.heap.get? b = some o → h'.get? b = some o) → ItemsOf (fun i v => items[items.size - 1 - i]? = some v) acc items.size → Q acc.toList { s with heap := h', toks := tk }) :
    wpAny (model prog w) A (collect (.ref it)) Q E s := by
  have W := (rt_walks (prog := prog) (w := w) (A := A.in1) hh it t hne items hn).toS
  obtain ⟨oi, hoi, ri⟩ := id hit
  obtain ⟨ol, hol, rl⟩ := id ht
  have n1 : s.heap.objs.size ≠ it := Nat.ne_of_gt (Heap.lt_size hoi)
  have n2 : s.heap.objs.size ≠ t := Nat.ne_of_gt (Heap.lt_size hol)
  have nf : s.heap.objs.size ∉ [it, t] := by simp only [List.mem_cons, List.not_mem_nil, or_false, not_or]; exact ⟨n1, n2⟩
  unfold collect
  refine wpAny_bind (wpAny_runValue (codeAny_builtin F.entry_proto_collect ?_))
  rw [Around.under_plainId F.plain_proto_collect _]
  show wpAny _ A.in1 (newList [] >>= fun l' => again (.builtin "list.__iadd__" ⟨[l', .ref it], []⟩)) _ _ s
  refine wpAny_bind (wpAny_newObj_type (wpAny_pure ⟨plainId_quiet F.plain_list_iadd _, codeAny_builtin F.entry_list_iadd ?_⟩))
  rw [Around.under_plainId F.plain_list_iadd _]
  have g0 : (s.heap.push { cls := .type "list", data := .seq ([] : List Value).toArray }).get? s.heap.objs.size = some { cls := .type "list", data := .seq ([] : List Value).toArray } := Heap.get?_push_size _ rfl
  have g1 : IsRt (s.heap.push { cls := .type "list", data := .seq ([] : List Value).toArray }) it t ((items.size : Int) - 1) := hit.at fun o e => Heap.get?_push_of_some _ e
  have g2 : IsTup (s.heap.push { cls := .type "list", data := .seq ([] : List Value).toArray }) t items := ⟨ol, Heap.get?_push_of_some _ hol, rl⟩
  have hT : ({ s with heap := s.heap.push { cls := .type "list", data := .seq ([] : List Value).toArray } } : Shared).TypeIs (.ref it) "reversed" := IsRt.typeIs (s := { s with heap := s.heap.push { cls := .type "list", data := .seq ([] : List Value).toArray } }) g1
  have h1 : Builtin.List.listSameRef (.ref s.heap.objs.size) (.ref it) = false := by simp [Builtin.List.listSameRef, n1]
  show wpAny _ A.in1 (Builtin.List.listExtendWith (.ref s.heap.objs.size) (.ref it) (.ref s.heap.objs.size)) _ _ _
  unfold Builtin.List.listExtendWith
  refine wpAny_bind (wpAny_typeOf hT ?_)
  rw [if_neg (by rw [h1]; decide)]
  refine wpAny_bind (iter_rt (s := { s with heap := s.heap.push { cls := .type "list", data := .seq ([] : List Value).toArray } }) g1 (wpAny_bind (wpAny_holding ?_)))
  refine rt_room (s := { s with heap := s.heap.push { cls := .type "list", data := .seq ([] : List Value).toArray } }) g1 g2 hn (fun A E Q q => len_tuple g2 (by rw [sizeLine_eq] at hn; omega) q) fun tk b => ?_
  have e0 : ((items.size : Nat) : Int) - 1 - ((0 : Nat) : Int) = (items.size : Int) - 1 := by omega
  have fin : ∀ (b' : Addr) (o : Obj), b' ≠ it → s.heap.get? b' = some o → b' ∉ [s.heap.objs.size, it] := fun b' o hb e z => by
    rcases List.mem_cons.mp z with z | z
    · exact absurd (Heap.lt_size e) (by rw [z]; exact Nat.lt_irrefl _)
    · exact hb (List.mem_singleton.mp z)
  cases b with
  | false =>
    rw [if_neg (by decide)]
    refine wpAny_pure ⟨plainId_quiet F.plain_extend_loop _, codeAny_extend_loopS W hn _ nf _ items.size 0 _ _ _ rfl (Nat.zero_le _) ⟨Nat.zero_le _, by rw [e0]; exact g1, g2⟩ g0 (ItemsOf.nil _) fun s' acc' c' hm hS' hacc => ?_⟩
    show wpAny _ A (load s.heap.objs.size >>= _) _ _ s'
    refine wpAny_bind (wpAny_load hS' (wpAny_pure ?_))
    rw [Moved.eq_with hm]
    exact hQ s'.heap s'.toks acc' (fun b o hb e => hm.heap b o (fin b o hb e) (Heap.get?_push_of_some _ e)) hacc
  | true =>
    rw [if_pos (by simp)]
    refine wpAny_bind (wpAny_rule (wpAny_bind ?_))
    show wpAny _ A.in1 (updateSeq s.heap.objs.size (·.push .none) >>= fun _ => updateSeq s.heap.objs.size (·.pop)) _ _ _
    refine wpAny_bind (wpAny_updateSeq (s := { s with heap := s.heap.push { cls := .type "list", data := .seq ([] : List Value).toArray }, toks := tk }) g0 rfl ?_)
    have t2 := Heap.get?_update_self (Obj.mapSeq (·.push Value.none)) g0 rfl
    refine wpAny_updateSeq (s := { s with heap := (s.heap.push { cls := .type "list", data := .seq ([] : List Value).toArray }).update s.heap.objs.size (Obj.mapSeq (·.push Value.none)), toks := tk }) t2 rfl ?_
    have t3 := Heap.get?_update_self (Obj.mapSeq (·.pop)) t2 rfl
    have oth : ∀ b o, b ≠ s.heap.objs.size → (s.heap.push { cls := .type "list", data := .seq ([] : List Value).toArray }).get? b = some o →
        (((s.heap.push { cls := .type "list", data := .seq ([] : List Value).toArray }).update s.heap.objs.size (Obj.mapSeq (·.push Value.none))).update s.heap.objs.size (Obj.mapSeq (·.pop))).get? b = some o :=
      fun b o hb e => (Heap.get?_update_other _ _ (Ne.symm hb)).trans ((Heap.get?_update_other _ _ (Ne.symm hb)).trans e)
    refine wpAny_pure ⟨plainId_quiet F.plain_extend_loop _, codeAny_extend_loopS W hn _ nf _ items.size 0 _ _ _ rfl (Nat.zero_le _) ⟨Nat.zero_le _, by rw [e0]; exact g1.at fun o e => oth _ _ (Ne.symm n1) e, by
      obtain ⟨o, ho, r⟩ := g2
      exact ⟨o, oth _ _ (Ne.symm n2) ho, r⟩⟩ t3 (ItemsOf.nil _) fun s' acc' c' hm hS' hacc => ?_⟩
    show wpAny _ A (load s.heap.objs.size >>= _) _ _ s'
    refine wpAny_bind (wpAny_load hS' (wpAny_pure ?_))
    rw [Moved.eq_with hm]
    exact hQ s'.heap s'.toks acc' (fun b o hb e => hm.heap b o (fin b o hb e) (oth _ _ (fun z => fin b o hb e (by rw [z]; exact .head _)) (Heap.get?_push_of_some _ e))) hacc
theorem rt_new {it t : Addr} {items : Array Value} {Q₁ : Value → Shared → Prop} (hh : A.handled = none) (hit : IsRt s.heap it t ((items.size : Int) - 1)) (ht : IsTup s.heap t items) (hne : t ≠ it) (hn : items.size ≤ sizeLine)
    (h : ∀ (h' : Heap) (tk : Nat) (acc : Array Value), (∀ b o, b ≠ it → s.heap.get? b = some o → h'.get? b = some o) → ItemsOf (fun i v => items[items.size - 1 - i]? = some v) acc items.size →
      Q₁ (.ref h'.objs.size) { s with heap := h'.push { cls := .type "tuple", data := .seq acc }, toks := tk }) :
    codeAny (model prog w) A (.call (.builtin "tuple.__new__") ⟨[.type "tuple", .ref it], []⟩) (wants Q₁ E) s := by
  refine codeAny_of_tree ?_
  show wpAny _ A.in1 (do checkBuiltinCall "tuple.__new__" ⟨[.type "tuple", .ref it], []⟩; again (.builtin "tuple.__new__" ⟨[.type "tuple", .ref it], []⟩)) _ _ s
  refine wpAny_bind (wpAny_of_eq (F.newCall_tuple_1 _) (wpAny_pure ⟨plainId_quiet F.plain_tuple_new _, codeAny_builtin F.entry_tuple_new ?_⟩))
  rw [Around.under_plainId F.plain_tuple_new _]
  have hsub := sub_tuple_self
  have hinit := init_tuple_lookup
  have hmh := madeHere_tuple
  have hTI : s.TypeIs (.ref it) "reversed" := hit.typeIs
  have hh1 : A.in1.handled = none := hh
  wp_walk using wpAny_typeOf hTI, rt_collect (A := A.in1) hh1 hit ht hne hn
  intro h' tk acc hk hacc
  show wpAny _ _ (Builtin.Tuple.tupleExact acc.toList.toArray >>= fun v => ret v) _ _ _
  unfold Builtin.Tuple.tupleExact
  refine wpAny_bind (wpAny_newObj_type ?_ (by show acc.toList.toArray.size ≤ sizeLine; simp only [Array.toArray_toList]; rw [hacc.1]; exact hn))
  refine wpAny_pure ?_
  have e : acc.toList.toArray = acc := by simp
  rw [e]
  exact h h' tk acc hk hacc
theorem rt_call {it t : Addr} {items : Array Value} {Q : Value → Shared → Prop} (hh : A.handled = none) (hit : IsRt s.heap it t ((items.size : Int) - 1)) (ht : IsTup s.heap t items) (hne : t ≠ it) (hn : items.size ≤ sizeLine)
    (hQ : ∀ (h' : Heap) (tk : Nat) (acc : Array Value), (∀ b o, b ≠ it → s.heap.get? b = some o → h'.get? b = some o) → ItemsOf (fun i v => items[items.size - 1 - i]? = some v) acc items.size →
      Q (.ref h'.objs.size) { s with heap := h'.push { cls := .type "tuple", data := .seq acc }, toks := tk }) :
    wpAny (model prog w) A (call (.type "tuple") [.ref it]) Q E s := by
  refine callType_codes (Q₁ := fun obj s₁ => s₁.TypeIs obj "tuple" ∧ Q obj s₁) F.called_tuple (F.typeCall_tuple_1 _) F.entry_object_init
    (rt_new (A := A.in1) hh hit ht hne hn fun h' tk acc hk hacc => ⟨⟨_, Heap.get?_push_size _ rfl, rfl⟩, hQ h' tk acc hk hacc⟩) fun obj s₁ g => ?_
  exact ⟨g.1, F.args_object_init_2 obj _, object_init_meets F.called_tuple.init.lookup F.called_tuple.made (by decide) prog w A.in1 _ s₁ ⟨g.1, rfl, g.2⟩⟩
end
end Y
namespace Y
open PySem PySem.Spec PyProof.Rows L2 RT RZ
section
variable {X : Cx} {W : Wld} {e : Expr} {p2 p pos pos2 : Pos} {pa : PE'}
/-- .. of a tuple or of a list -/
def tTR (K : PySem.W.Frag) (te : TE) : TE := fun σ H Q => te σ H fun v H1 => ∃ (a : Addr) (xs : List V), v = .ref a ∧ (SqL K H1 a xs ∨ SqT K H1 a xs) ∧ ∀ q (o : Obj), H1 q = none → o.dict = none → Q (.ref q) (upd H1 q (.frz o (.tup xs.reverse)))
theorem pe_tupRevA {te : TE} (hc : X.calm = true) (hg : Gl X "tuple") (hm : X.mg "tuple" = none) (hg2 : Gl X "reversed") (hm2 : X.mg "reversed" = none) (he : PE X e te)
    (hs : starEach [e] X.env = (false, eval e X.env) :: starEach [] X.env := by rfl)
    (hs2 : starEach [.Call (.Name "reversed" p2) [e] [] pos2] X.env = (false, eval (.Call (.Name "reversed" p2) [e] [] pos2) X.env) :: starEach [] X.env := by rfl) :
    PE X (.Call (.Name "tuple" p) [.Call (.Name "reversed" p2) [e] [] pos2] [] pos) (tTR X.K te) := by
  refine ⟨fun pins s σ H Q I h => ?_⟩
  refine Call_ (ld_blt I hg hm boot_tuple (PyProof.Rows.callWith_type1 (args_cons (Call_ (ld_blt I hg2 hm2 PyProof.Rows.boot_reversed (PyProof.Rows.callWith_type1 (args_cons (thn (he.run pins s σ H _ I h) fun u s1 ⟨v, H1, I1, r1, q1⟩ => args_nil ?_) hs) hs rfl))) hs2) hs2 rfl))
  obtain ⟨a, xs, ev, hq, q⟩ := q1
  subst ev
  obtain rfl : u = Value.ref a := r1
  have hl6 := line63
  rcases hq with hq | hq
  · obtain ⟨its, rv, p', hz⟩ := I1.list hq
    refine call_reversed_list p'.isList (args_nil ?_)
    have k0 : ∀ b o, s1.heap.get? b = some o → (s1.heap.push (revObj a ((its.toArray.size : Int) - 1))).get? b = some o := fun b o e => Heap.get?_push_of_some _ e
    have I2 : Inv X pins σ H1 { s1 with heap := s1.heap.push (revObj a ((its.toArray.size : Int) - 1)) } := I1.kept (t' := s1.toks) k0
    obtain ⟨f0, f1, f2, f3, f4, f5⟩ := I1.fpOk (H' := H1) (b := s1.heap.objs.size) (Nat.le_refl _) (I1.hok.fresh (Nat.le_refl _))
    have hl := p'.isList
    obtain ⟨ol, hol, _⟩ := id hl
    have hne : a ≠ s1.heap.objs.size := Nat.ne_of_lt (Heap.lt_size hol)
    have hn : its.toArray.size ≤ sizeLine := by rw [List.size_toArray, ← rv.length]; exact hz
    refine call_tuple_rev (s := { s1 with heap := s1.heap.push (revObj a ((its.toArray.size : Int) - 1)) }) (I1.ok.hd hc) ⟨_, Heap.get?_push_size _ rfl, rfl, rfl⟩ (hl.push _) hne hn fun h' tk acc hk hi => ?_
    have I3 : Inv X pins σ H1 { s1 with heap := h', toks := tk } := I2.turned (t' := tk) (fun b o hb e => hk b o hb e) f0 f1 f3 f4 f5
    refine ⟨.ref h'.objs.size, upd H1 h'.objs.size (.frz _ (.tup xs.reverse)), I3.laid (t' := tk) (fun c o e => Heap.get?_push_of_some _ e) (Nat.le_refl _) (frz_newA (by rw [List.length_reverse]; exact hz) (vals_rev rv hi)), rfl, q _ _ (I3.hok.fresh (Nat.le_refl _)) rfl⟩
  · obtain ⟨its, rv, p', hz⟩ := I1.tuple hq
    have hl := rv.length
    refine call_reversed_tup p' (fun A E Q k => len_tuple p' (by simp only [List.size_toArray] <;> omega) k) (args_nil ?_)
    have k0 : ∀ b o, s1.heap.get? b = some o → (s1.heap.push (rtObj a ((its.toArray.size : Int) - 1))).get? b = some o := fun b o e => Heap.get?_push_of_some _ e
    have I2 : Inv X pins σ H1 { s1 with heap := s1.heap.push (rtObj a ((its.toArray.size : Int) - 1)), toks := s1.toks + 1 + 1 } := I1.kept (t' := s1.toks + 1 + 1) k0
    obtain ⟨f0, f1, f2, f3, f4, f5⟩ := I1.fpOk (H' := H1) (b := s1.heap.objs.size) (Nat.le_refl _) (I1.hok.fresh (Nat.le_refl _))
    obtain ⟨ol, hol, rl⟩ := id p'
    have hne : a ≠ s1.heap.objs.size := Nat.ne_of_lt (Heap.lt_size hol)
    have hn : its.toArray.size ≤ sizeLine := by rw [List.size_toArray, ← rv.length]; exact hz
    refine rt_call (s := { s1 with heap := s1.heap.push (rtObj a ((its.toArray.size : Int) - 1)), toks := s1.toks + 1 + 1 }) (I1.ok.hd hc) ⟨_, Heap.get?_push_size _ rfl, rfl, rfl⟩ ⟨ol, k0 _ _ hol, rl⟩ hne hn fun h' tk acc hk hi => ?_
    have I3 : Inv X pins σ H1 { s1 with heap := h', toks := tk } := I2.turned (t' := tk) (fun b o hb e => hk b o hb e) f0 f1 f3 f4 f5
    refine ⟨.ref h'.objs.size, upd H1 h'.objs.size (.frz _ (.tup xs.reverse)), I3.laid (t' := tk) (fun c o e => Heap.get?_push_of_some _ e) (Nat.le_refl _) (frz_newA (by rw [List.length_reverse]; exact hz) (vals_rev rv hi)), rfl, q _ _ (I3.hok.fresh (Nat.le_refl _)) rfl⟩
def KTR (t : T) (Φ : T → Prop) : Prop := ∃ m, t.items = some m ∧ Φ (.tup m.reverse)
def pTR (p : PE') : PE' := fun ρ Φ => p ρ fun t _ ρ1 => KTR t fun u => Φ u false ρ1
theorem qe_tupRev (hc : X.calm = true) (hg : Gl X "tuple") (hm : X.mg "tuple" = none) (hg2 : Gl X "reversed") (hm2 : X.mg "reversed" = none) (he : QE X W e pa)
    (hs : starEach [e] X.env = (false, eval e X.env) :: starEach [] X.env := by rfl)
    (hs2 : starEach [.Call (.Name "reversed" p2) [e] [] pos2] X.env = (false, eval (.Call (.Name "reversed" p2) [e] [] pos2) X.env) :: starEach [] X.env := by rfl) :
    QE X W (.Call (.Name "tuple" p) [.Call (.Name "reversed" p2) [e] [] pos2] [] pos) (pTR pa) := by
  obtain ⟨t, h1, h2⟩ := he.ex
  refine ⟨_, pe_tupRevA hc hg hm hg2 hm2 h1 hs hs2, fun B F0 ρ σ F H Φ Q R hp k => ?_⟩
  refine h2.fz R hp fun τ ρ1 v F1 H1 R1 le1 tv q => ?_
  obtain ⟨m, em, hq⟩ := q
  obtain ⟨a, xs, ev, hx, tm⟩ := items_sq R1.fh em tv
  refine ⟨a, xs, ev, hx.symm, fun z o nz d => ?_⟩
  obtain ⟨F2, R2, le2, tv2⟩ := R1.newT nz d tm.rev
  exact k _ false ρ1 _ F2 _ R2 (le1.trans le2) (VR.fz tv2) hq
theorem ktr_l {l : List T} {Φ : T → Prop} : KTR (.lst l) Φ = Φ (.tup l.reverse) := propext ⟨fun ⟨_, e, h⟩ => by cases e; exact h, fun h => ⟨l, rfl, h⟩⟩
theorem ktr_t {l : List T} {Φ : T → Prop} : KTR (.tup l) Φ = Φ (.tup l.reverse) := propext ⟨fun ⟨_, e, h⟩ => by cases e; exact h, fun h => ⟨l, rfl, h⟩⟩
end
end Y

namespace Y
open PySem PySem.Spec PyProof.Rows L2 RT RZ
/-! ### x in a tuple of data of any form -/
section
variable {X : Cx} {W : Wld}
def rInDT (K : PySem.W.Frag) (b : Bool) : V → V → Hp → VK → Prop := fun x y H Q => ∃ d ds, Dp K H x d ∧ Dp K H y (.tuple ds) ∧ SeqAt.shaped d = true ∧ SeqAt.shaped (.tuple ds) = true ∧ Q (.bl (if b then !(ds.any fun z => PyData.eqv z d) else ds.any fun z => PyData.eqv z d)) H
theorem room_dt {A : Around} {d : PyData} {ds : List PyData} (h : SeqAt.shaped d = true) (hu : A.units + 65 < cLine) : A.units + 1 + min (PyData.depthAll ds) d.depth < cLine := by
  have := SeqAt.depth_of_shaped h
  omega
theorem op_inDT (hu : X.A.units + 65 < cLine) : OpR X (compareOp .In) (rInDT X.K false) := by
  intro pins s σ H x y v u Q I rx ry h
  obtain ⟨d, ds, hd, he, sd, se, q⟩ := h
  obtain ⟨as, r1⟩ := Dp.reads I d x v hd rx
  obtain ⟨bs, r2⟩ := Dp.reads I (.tuple ds) y u he ry
  have c := SeqAt.canLay_of_shaped se
  exact SeqAt.in_tuple_reads r2 r1 (by simpa [PyData.canLay0] using c) (SeqAt.canLay_of_shaped sd) (room_dt sd hu) ⟨.bl _, H, I, rfl, q⟩
theorem op_notInDT (hu : X.A.units + 65 < cLine) : OpR X (compareOp .NotIn) (rInDT X.K true) := by
  intro pins s σ H x y v u Q I rx ry h
  obtain ⟨d, ds, hd, he, sd, se, q⟩ := h
  obtain ⟨as, r1⟩ := Dp.reads I d x v hd rx
  obtain ⟨bs, r2⟩ := Dp.reads I (.tuple ds) y u he ry
  have c := SeqAt.canLay_of_shaped se
  exact SeqAt.notIn_tuple_reads r2 r1 (by simpa [PyData.canLay0] using c) (SeqAt.canLay_of_shaped sd) (room_dt sd hu) ⟨.bl _, H, I, rfl, q⟩
def PInA (neg : Bool) (x y : T) (Φ : T → Bool → Prop) : Prop := match y with
  | .tup l => x.cmp = true ∧ T.cmp (.tup l) = true ∧ Φ (.bl (if neg then !(l.any fun z => T.eqv z x) else l.any fun z => T.eqv z x)) false
  | y => PIn neg x y Φ
theorem inA_t {neg : Bool} {t : T} {l : List T} {Ψ : T → Bool → Prop} : PInA neg t (.tup l) Ψ = (t.cmp = true ∧ T.cmp (.tup l) = true ∧ Ψ (.bl (if neg then !(l.any fun z => T.eqv z t) else l.any fun z => T.eqv z t)) false) := rfl
theorem inA_l {neg : Bool} {t : T} {l : List T} {Ψ : T → Bool → Prop} : PInA neg t (.lst l) Ψ = PIn neg t (.lst l) Ψ := rfl
theorem inA_s {neg : Bool} {t : T} {l : Str} {Ψ : T → Bool → Prop} : PInA neg t (.str l) Ψ = PIn neg t (.str l) Ψ := rfl
theorem oq_inA (hu : X.A.units + 65 < cLine) : OpQ X W (compareOp .In) (PInA false) := by
  intro B F0 ρ σ F H x y v u Φ Q R hx hy hp k
  cases y with
  | tup l =>
    obtain ⟨c1, c2, hp⟩ := hp
    obtain ⟨n1, s1⟩ := cmp_parts c1
    obtain ⟨n2, s2⟩ := cmp_parts c2
    refine rS2.of (op_inDT hu) ⟨_, _, Tv.dp x v n1 (Tv.le R.fh _ _ hx), Tv.dp _ u n2 (Tv.le R.fh _ _ hy), s1, s2, ?_⟩
    rw [T.pdL_any]
    exact k _ false _ F H R (Le.refl _) VR.bl hp
  | _ => exact oq_in hu B F0 ρ σ F H x _ v u Φ Q R hx hy hp k
theorem oq_notinA (hu : X.A.units + 65 < cLine) : OpQ X W (compareOp .NotIn) (PInA true) := by
  intro B F0 ρ σ F H x y v u Φ Q R hx hy hp k
  cases y with
  | tup l =>
    obtain ⟨c1, c2, hp⟩ := hp
    obtain ⟨n1, s1⟩ := cmp_parts c1
    obtain ⟨n2, s2⟩ := cmp_parts c2
    refine rS2.of (op_notInDT hu) ⟨_, _, Tv.dp x v n1 (Tv.le R.fh _ _ hx), Tv.dp _ u n2 (Tv.le R.fh _ _ hy), s1, s2, ?_⟩
    rw [T.pdL_any]
    exact k _ false _ F H R (Le.refl _) VR.bl hp
  | _ => exact oq_notin hu B F0 ρ σ F H x _ v u Φ Q R hx hy hp k
end
/-! ### names sorted -/
def leS (a b : Str) : Bool := decide (a.cps.toList ≤ b.cps.toList)
theorem leT_str (a b : Str) : leT (.str a) (.str b) = leS a b := by
  have := congrFun (congrFun (PySem.W.dataLe_str (β := Str) id) a) b
  exact this
theorem srtOk_strs {ns : List Str} (h : ns.length ≤ 16000000) : SrtOk (ns.map T.str) where
  na := fun x hx => by
    obtain ⟨a, _, rfl⟩ := List.mem_map.mp hx
    rfl
  dp := fun x hx => by
    obtain ⟨a, _, rfl⟩ := List.mem_map.mp hx
    simp [T.pd, PyData.depth]
  al := by
    rw [List.map_map]
    exact PySem.W.AllAlike.of fun a b => by simp [T.pd, PySem.W.alike]
  sk := .inl (by
    rw [List.map_map]
    exact PySem.W.Sortable.others fun a => ⟨fun z => (nomatch z), fun xs z => (nomatch z)⟩)
  ln := by rw [List.length_map]; exact h
theorem sort_strs (ns : List Str) : (ns.map T.str).mergeSort leT = (ns.mergeSort leS).map T.str :=
  (List.map_mergeSort (r := leS) (s := leT) (f := T.str) fun a _ b _ => (leT_str a b).symm).symm
/-- sorted(names), names in a list or in a tuple -/
theorem psort_strs {ns : List Str} {l : List T} {Φ : T → Bool → Prop} (hl : l = [.lst (ns.map T.str)] ∨ l = [.tup (ns.map T.str)]) (h : ns.length ≤ 16000000) (q : Φ (.lst ((ns.mergeSort leS).map T.str)) true) : PSortD l Φ :=
  ⟨_, hl, srtOk_strs h, by rw [sort_strs]; exact q⟩
theorem leS_trans (a b c : Str) (h1 : leS a b = true) (h2 : leS b c = true) : leS a c = true := by
  unfold leS at *
  exact decide_eq_true (List.le_trans (of_decide_eq_true h1) (of_decide_eq_true h2))
theorem leS_total (a b : Str) : (leS a b || leS b a) = true := by
  unfold leS
  rcases List.le_total (α := Nat) a.cps.toList b.cps.toList with h | h
  · rw [decide_eq_true h]; rfl
  · rw [decide_eq_true h, Bool.or_true]
end Y

namespace Y
open PySem PySem.Spec PyProof.Rows L2 RT RZ
/-! ### walks that leave the slots as they were, by a function of the item -/
section
variable {g : PG'} {pe : PE'} {vs : List Nat} {items : List T} {ρ1 : PS'} {Φ : T → Bool → PS' → Prop}
theorem genkT_all (q : T → Bool) (now : ∀ i ∈ vs, ∀ l, ρ1[i]? ≠ some (Sl.own l))
    (step : ∀ t (C : T → PS' → Prop) (D : PS' → Prop), t ∈ items → (∀ ρ5, wipeP ρ5 vs = wipeP ρ1 vs → C (.bl (q t)) ρ5) → g t false (wipeP ρ1 vs) fun ρ3 => pYes ρ3 fun b ρ4 => if b = true then pe ρ4 fun y _ ρ5 => C y ρ5 else D ρ4)
    (fin : Φ (.bl (items.all q)) false (restore ρ1 (wipeP ρ1 vs) vs)) : GenK false g pYes pe vs items ρ1 Φ := by
  refine genk_all (fun i => q (items.getD i .non)) now (fun i t C D hi hC => ?_) fun b hb => ?_
  · have e : items.getD i .non = t := by rw [List.getD_eq_getElem?_getD, hi]; rfl
    exact step t C D (List.mem_of_getElem? hi) fun ρ5 e5 => by
      have := hC ρ5 e5
      rw [e] at this
      exact this
  · have e : (List.range items.length).all (fun i => q (items.getD i .non)) = items.all q := by
      rw [Bool.eq_iff_iff, List.all_eq_true, List.all_eq_true]
      refine ⟨fun h x hx => ?_, fun h i hi => ?_⟩
      · obtain ⟨i, hi, rfl⟩ := List.mem_iff_getElem.mp hx
        have := h i (List.mem_range.mpr hi)
        rw [List.getD_eq_getElem?_getD, List.getElem?_eq_getElem hi] at this
        exact this
      · have hi := List.mem_range.mp hi
        rw [List.getD_eq_getElem?_getD, List.getElem?_eq_getElem hi]
        exact h _ (List.getElem_mem hi)
    rw [hb, e]
    exact fin
theorem genkT_any (q : T → Bool) (now : ∀ i ∈ vs, ∀ l, ρ1[i]? ≠ some (Sl.own l))
    (step : ∀ t (C : T → PS' → Prop) (D : PS' → Prop), t ∈ items → (∀ ρ5, wipeP ρ5 vs = wipeP ρ1 vs → C (.bl (q t)) ρ5) → g t false (wipeP ρ1 vs) fun ρ3 => pYes ρ3 fun b ρ4 => if b = true then pe ρ4 fun y _ ρ5 => C y ρ5 else D ρ4)
    (fin : Φ (.bl (items.any q)) false (restore ρ1 (wipeP ρ1 vs) vs)) : GenK true g pYes pe vs items ρ1 Φ := by
  refine genk_any (fun i => q (items.getD i .non)) now (fun i t C D hi hC => ?_) fun b hb => ?_
  · have e : items.getD i .non = t := by rw [List.getD_eq_getElem?_getD, hi]; rfl
    exact step t C D (List.mem_of_getElem? hi) fun ρ5 e5 => by
      have := hC ρ5 e5
      rw [e] at this
      exact this
  · have e : (List.range items.length).any (fun i => q (items.getD i .non)) = items.any q := by
      rw [Bool.eq_iff_iff, List.any_eq_true, List.any_eq_true]
      refine ⟨fun ⟨i, hi, h⟩ => ?_, fun ⟨x, hx, h⟩ => ?_⟩
      · have hi := List.mem_range.mp hi
        rw [List.getD_eq_getElem?_getD, List.getElem?_eq_getElem hi] at h
        exact ⟨_, List.getElem_mem hi, h⟩
      · obtain ⟨i, hi, rfl⟩ := List.mem_iff_getElem.mp hx
        refine ⟨i, List.mem_range.mpr hi, ?_⟩
        rw [List.getD_eq_getElem?_getD, List.getElem?_eq_getElem hi]
        exact h
    rw [hb, e]
    exact fin
theorem sumkT (q : T → Int) (now : ∀ i ∈ vs, ∀ l, ρ1[i]? ≠ some (Sl.own l))
    (step : ∀ t (C : T → PS' → Prop) (D : PS' → Prop), t ∈ items → (∀ ρ5, wipeP ρ5 vs = wipeP ρ1 vs → C (.int (q t)) ρ5) → g t false (wipeP ρ1 vs) fun ρ3 => pYes ρ3 fun b ρ4 => if b = true then pe ρ4 fun y _ ρ5 => C y ρ5 else D ρ4)
    (fin : Φ (.int (items.map q).sum) false (restore ρ1 (wipeP ρ1 vs) vs)) : SumK g pYes pe vs items ρ1 Φ := by
  refine sumk_sum (fun i => q (items.getD i .non)) now (fun i t C D hi hC => ?_) ?_
  · have e : items.getD i .non = t := by rw [List.getD_eq_getElem?_getD, hi]; rfl
    exact step t C D (List.mem_of_getElem? hi) fun ρ5 e5 => by
      have := hC ρ5 e5
      rw [e] at this
      exact this
  · have e : (List.range items.length).map (fun i => q (items.getD i .non)) = items.map q := by
      refine List.ext_getElem (by simp) fun i h1 h2 => ?_
      rw [List.length_map] at h2
      rw [List.getElem_map, List.getElem_map, List.getElem_range, List.getD_eq_getElem?_getD, List.getElem?_eq_getElem h2]
      rfl
    rw [e]
    exact fin
/-- a list comprehension whose items are told by a relation (draws) -/
theorem lckT_rel (R : T → T → Prop) (hl : items.length ≤ 16000000) (now : ∀ i ∈ vs, ∀ l, ρ1[i]? ≠ some (Sl.own l))
    (step : ∀ t (C : T → PS' → Prop) (D : PS' → Prop), t ∈ items → (∀ y ρ5, R t y → wipeP ρ5 vs = wipeP ρ1 vs → C y ρ5) → g t false (wipeP ρ1 vs) fun ρ3 => pYes ρ3 fun b ρ4 => if b = true then pe ρ4 fun y _ ρ5 => C y ρ5 else D ρ4)
    (fin : ∀ ys, ys.length = items.length → (∀ (i : Nat) (t y : T), items[i]? = some t → ys[i]? = some y → R t y) → Φ (.lst ys) true (restore ρ1 (wipeP ρ1 vs) vs)) : LcK g pYes pe vs items ρ1 Φ := by
  refine ⟨hl, now, fun i acc ρ => ρ = wipeP ρ1 vs ∧ acc.length = i ∧ ∀ (j : Nat) (t y : T), items[j]? = some t → acc[j]? = some y → R t y, ⟨rfl, rfl, fun _ _ _ _ z => (by simp at z)⟩, fun i t acc ρ2 hi _ ⟨e, e2, h⟩ => ?_, fun acc ρ2 _ ⟨e, e2, h⟩ => ?_⟩
  · subst e e2
    refine step t (fun y ρ5 => wipeP ρ5 vs = wipeP ρ1 vs ∧ (acc ++ [y]).length = acc.length + 1 ∧ ∀ (j : Nat) (t y' : T), items[j]? = some t → (acc ++ [y])[j]? = some y' → R t y') _ (List.mem_of_getElem? hi) fun y ρ5 hR e5 => ⟨e5, by simp, fun j t' y' h1 h2 => ?_⟩
    rw [List.getElem?_append] at h2
    split at h2
    · exact h j t' y' h1 h2
    · rename_i z
      have hj : j = acc.length := by
        rcases Nat.lt_or_ge (j - acc.length) 1 with q | q
        · omega
        · rw [List.getElem?_eq_none (by simpa using q)] at h2
          cases h2
      subst hj
      rw [Nat.sub_self] at h2
      cases h2
      rw [hi] at h1
      cases h1
      exact hR
  · subst e
    exact fin acc e2 h
theorem lckT_map (f : T → T) (hl : items.length ≤ 16000000) (now : ∀ i ∈ vs, ∀ l, ρ1[i]? ≠ some (Sl.own l))
    (step : ∀ t (C : T → PS' → Prop) (D : PS' → Prop), t ∈ items → (∀ ρ5, wipeP ρ5 vs = wipeP ρ1 vs → C (f t) ρ5) → g t false (wipeP ρ1 vs) fun ρ3 => pYes ρ3 fun b ρ4 => if b = true then pe ρ4 fun y _ ρ5 => C y ρ5 else D ρ4)
    (fin : Φ (.lst (items.map f)) true (restore ρ1 (wipeP ρ1 vs) vs)) : LcK g pYes pe vs items ρ1 Φ := by
  refine lckT_rel (fun t y => y = f t) hl now (fun t C D ht hC => step t C D ht fun ρ5 e5 => hC _ ρ5 rfl e5) fun ys e h => ?_
  have : ys = items.map f := by
    refine List.ext_getElem (by rw [List.length_map]; exact e) fun i h1 h2 => ?_
    rw [List.length_map] at h2
    rw [List.getElem_map]
    exact h i _ _ (List.getElem?_eq_getElem h2) (List.getElem?_eq_getElem h1)
  rw [this]
  exact fin
end
/-- a slot that is not a list of its own -/
theorem now1 {ρ : PS'} {n : Nat} (h : ρ[n]? = some Sl.no) : ∀ i ∈ [n], ∀ l, ρ[i]? ≠ some (Sl.own l) := fun i hi l => by
  rw [List.mem_singleton.mp hi, h]
  exact fun z => (nomatch z)
theorem now2 {ρ : PS'} {n m : Nat} (h : ρ[n]? = some Sl.no) (h2 : ρ[m]? = some Sl.no) : ∀ i ∈ [n, m], ∀ l, ρ[i]? ≠ some (Sl.own l) := fun i hi l => by
  rcases List.mem_cons.mp hi with e | e
  · rw [e, h]; exact fun z => (nomatch z)
  · rw [List.mem_singleton.mp e, h2]; exact fun z => (nomatch z)
end Y

/-! zip(x, y), each a list or a tuple -/
namespace Y
open PySem PySem.Spec PyProof.Rows L2 RT RZ
def isIt (b : Bool) (h : Heap) (it l : Addr) (i : Nat) : Prop := match b with
  | true => h.IsTupleIter it l i
  | false => h.IsListIter it l i
def isSq (b : Bool) (h : Heap) (l : Addr) (items : Array Value) : Prop := match b with
  | true => h.IsTuple l items
  | false => h.IsList l items
def SqB (b : Bool) (K : PySem.W.Frag) (H : Hp) (a : Addr) (xs : List V) : Prop := match b with
  | true => SqT K H a xs
  | false => H a = some (.lst xs)
theorem drawsB {prog : Program} {w : World} {A : Around} (b : Bool) (hh : A.handled = none) (it l : Addr) (hne : l ≠ it) (items : Array Value) :
    Draws prog w A it [it, l] items.size (fun i v => items[i]? = some v) (fun i h => isIt b h it l i ∧ isSq b h l items) := by
  cases b with
  | true => exact Draws.tuple hh it l hne items
  | false => exact Draws.list hh it l hne items
def itO (b : Bool) (l : Addr) : Obj := match b with
  | true => { cls := .type "tuple_iterator", data := .fields #[.ref l, .int 0 0] }
  | false => { cls := .type "list_iterator", data := .fields #[.ref l, .int 0 0] }
theorem beginsB (b : Bool) (l : Addr) (items : Array Value) : Begins (.ref l) (itO b l) fun h => isSq b h l items := by
  cases b with
  | true => exact begins_tuple l items
  | false => exact begins_list l items
theorem isIt_obj {b : Bool} {h : Heap} {it l : Addr} {i : Nat} (x : isIt b h it l i) : ∃ o, h.get? it = some o ∧ o.data = .fields #[.ref l, rawInt (i : Int)] := by
  cases b with
  | true => obtain ⟨o, e, _, d⟩ := x; exact ⟨o, e, d⟩
  | false => obtain ⟨o, e, _, d⟩ := x; exact ⟨o, e, d⟩
theorem isIt_at {b : Bool} {h h' : Heap} {it l : Addr} {i : Nat} (x : isIt b h it l i) (k : ∀ o, h.get? it = some o → h'.get? it = some o) : isIt b h' it l i := by
  cases b with
  | true => exact Heap.IsTupleIter.at x k
  | false => exact Heap.IsListIter.at x k
theorem isIt_new {b : Bool} {h : Heap} {it l : Addr} (e : h.get? it = some (itO b l)) : isIt b h it l 0 := by
  cases b with
  | true => exact ⟨_, e, rfl, rfl⟩
  | false => exact ⟨_, e, rfl, rfl⟩
theorem inv_sq {X : Cx} {pins : List (Addr × Obj)} {σ : L2.St} {H : Hp} {s : Shared} (I : Inv X pins σ H s) {b : Bool} {a : Addr} {xs : List V} (h : SqB b X.K H a xs) :
    ∃ its, Vals xs its ∧ isSq b s.heap a its.toArray ∧ a < s.heap.objs.size := by
  cases b with
  | true =>
    obtain ⟨its, r, p, _⟩ := I.tuple h
    obtain ⟨o, ho, _⟩ := id p
    exact ⟨its, r, p, Heap.lt_size ho⟩
  | false =>
    obtain ⟨its, r, p, _⟩ := I.list (.of h)
    exact ⟨its, r, p.isList, p.lt⟩
def ItzB (b1 b2 : Bool) (K : PySem.W.Frag) (a b : Addr) (xs ys : List V) : It :=
  ⟨fun i H => SqB b1 K H a xs ∧ SqB b2 K H b ys ∧ i < xs.length ∧ i < ys.length,
    fun i H v H' => ∃ T x y, v = .ref T ∧ H T = none ∧ H' = upd H T (.tup [x, y]) ∧ xs[i]? = some x ∧ ys[i]? = some y,
    fun i H => SqB b1 K H a xs ∧ SqB b2 K H b ys ∧ (xs.length ≤ i ∨ ys.length ≤ i)⟩
theorem turnB {P : Program} {w : World} {K : PySem.W.Frag} {elts : List Expr} {kk : Nat} {tpos : Pos} {b1 b2 : Bool} {a b z TI TO i1 i2 : Addr} {xs ys : List V} (S : ZipSep2 z TI TO i1 i2 [i1, a] [i2, b]) (na : a ≠ i1) (nb : b ≠ i2) :
    Turn P w K (.Tuple elts kk tpos) (ItzB b1 b2 K a b xs ys) [z, TI, TO, i1, i2] z (fun i h => i ≤ xs.length ∧ i ≤ ys.length ∧ IsZip h z TI TO .none ∧ IsTupOf2 h TI (.ref i1) (.ref i2) ∧ (∃ x y, IsTupOf2 h TO x y) ∧ isIt b1 h i1 a i ∧ isIt b2 h i2 b i) where
  mem := by simp
  obj := fun i h st c hc => by
    obtain ⟨_, _, hz, h1, ⟨x, y, h2⟩, h3, h4⟩ := st
    obtain ⟨o1, e1, d1⟩ := isIt_obj h3
    obtain ⟨o2, e2, d2⟩ := isIt_obj h4
    have e' : c = z ∨ c = TI ∨ c = TO ∨ c = i1 ∨ c = i2 := by simpa using hc
    rcases e' with q | q | q | q | q
    · rw [q]; exact ⟨_, hz, fun v q => nomatch q⟩
    · rw [q]; exact ⟨_, h1, fun v q => nomatch q⟩
    · rw [q]; exact ⟨_, h2, fun v q => nomatch q⟩
    · rw [q]; exact ⟨o1, e1, fun v q => by rw [d1] at q; cases q⟩
    · rw [q]; exact ⟨o2, e2, fun v q => by rw [d2] at q; cases q⟩
  keep := fun i h h' st k => by
    obtain ⟨l1, l2, hz, h1, ⟨x, y, h2⟩, h3, h4⟩ := st
    exact ⟨l1, l2, k z (by simp) _ hz, k TI (by simp) _ h1, ⟨x, y, k TO (by simp) _ h2⟩, isIt_at h3 fun o q => k i1 (by simp) o q, isIt_at h4 fun o q => k i2 (by simp) o q⟩
  item := by
    intro X hP hw hK hc i pins s σ H E I hf st hg
    subst hP hw hK
    obtain ⟨l1, l2, hz, h1, h2, h3, h4⟩ := st
    obtain ⟨hqx, hqy, hx, hy⟩ := hg
    obtain ⟨its, rv, p, _⟩ := inv_sq I hqx
    obtain ⟨its2, rv2, p2, _⟩ := inv_sq I hqy
    have n1 := rv.length
    have n2 := rv2.length
    have G := GoesN.zip2 (prog := X.prog) (w := X.w) (A := X.A) (elts := elts) (x1 := kk) (pos := tpos) S (drawsB b1 (A := X.A.in1) (I.ok.hd hc) i1 a na its.toArray) (drawsB b2 (A := X.A.in1) (I.ok.hd hc) i2 b nb its2.toArray)
    refine wpAny_mono (G.goes i s (fun u s2 => ∃ x H', Inv X pins σ H' s2 ∧ RelV x u ∧ (ItzB b1 b2 X.K a b xs ys).yld i H x H' ∧ (i + 1 ≤ xs.length ∧ i + 1 ≤ ys.length ∧ IsZip s2.heap z TI TO .none ∧ IsTupOf2 s2.heap TI (.ref i1) (.ref i2) ∧ (∃ x y, IsTupOf2 s2.heap TO x y) ∧ isIt b1 s2.heap i1 a (i + 1) ∧ isIt b2 s2.heap i2 b (i + 1)) ∧ ∀ c ∈ [z, TI, TO, i1, i2], H' c = none) E (by simp only [List.size_toArray]; omega) ⟨hz, h1, h2, ⟨h3, p⟩, h4, p2⟩ fun v h' tk hY st' hk _ => ?_) (fun r s1 h => h) fun _ _ h => h
    obtain ⟨T, u, u2, rfl, hT, hu, hu2, hTt⟩ := hY
    have hx' : xs[i]? = some xs[i] := List.getElem?_eq_getElem hx
    have hy' : ys[i]? = some ys[i] := List.getElem?_eq_getElem hy
    obtain ⟨u', eu, ru⟩ := rv.get hx'
    obtain ⟨u2', eu2, ru2⟩ := rv2.get hy'
    obtain rfl : u' = u := by rw [List.getElem?_toArray, eu] at hu; exact Option.some.inj hu
    obtain rfl : u2' = u2 := by rw [List.getElem?_toArray, eu2] at hu2; exact Option.some.inj hu2
    generalize xs[i] = x at hx' ru
    generalize ys[i] = y at hy' ru2
    have new : ObjOk X.prog X.w (upd H T (.tup [x, y])) h' T (.tup [x, y]) := ⟨by show 2 ≤ sizeLine; decide, [u', u2'], .cons ru (.cons ru2 .nil), hTt⟩
    have I1 : Inv X pins σ (upd H T (.tup [x, y])) { s with heap := h', toks := tk } :=
      I.turnedNew (t' := tk) (ch := [z, TI, TO, i1, i2]) (fun c o hb q => hk c o (fun m => hb (by simp only [List.mem_cons, List.not_mem_nil, or_false] at m ⊢; rcases m with m | m | m | m <;> simp [m])) q) hf hT new
    obtain ⟨g1, g2, g3, g4, g5⟩ := st'
    refine ⟨.ref T, _, I1, rfl, ⟨T, x, y, rfl, I.hok.fresh hT, rfl, hx', hy'⟩, ⟨by omega, by omega, g1, g2, g3, g4.1, g5.1⟩, fun c hcm => ?_⟩
    have hlt : c < s.heap.objs.size := by
      obtain ⟨o1, e1, _⟩ := isIt_obj h3
      obtain ⟨o2, e2, _⟩ := isIt_obj h4
      obtain ⟨x0, y0, h2⟩ := h2
      have e' : c = z ∨ c = TI ∨ c = TO ∨ c = i1 ∨ c = i2 := by simpa using hcm
      rcases e' with q | q | q | q | q
      · rw [q]; exact Heap.lt_size hz
      · rw [q]; exact Heap.lt_size h1
      · rw [q]; exact Heap.lt_size h2
      · rw [q]; exact Heap.lt_size e1
      · rw [q]; exact Heap.lt_size e2
    rw [upd_ne (Nat.ne_of_lt (Nat.lt_of_lt_of_le hlt hT))]
    exact (hf c hcm).1
  done := by
    intro X hP hw hK hc i pins s σ H E I hf st hg
    subst hP hw hK
    obtain ⟨l1, l2, hz, h1, h2, h3, h4⟩ := st
    obtain ⟨hqx, hqy, hend⟩ := hg
    obtain ⟨its, rv, p, _⟩ := inv_sq I hqx
    obtain ⟨its2, rv2, p2, _⟩ := inv_sq I hqy
    have n1 := rv.length
    have n2 := rv2.length
    have G := GoesN.zip2 (prog := X.prog) (w := X.w) (A := X.A) (elts := elts) (x1 := kk) (pos := tpos) S (drawsB b1 (A := X.A.in1) (I.ok.hd hc) i1 a na its.toArray) (drawsB b2 (A := X.A.in1) (I.ok.hd hc) i2 b nb its2.toArray)
    have ei : min its.toArray.size its2.toArray.size = i := by simp only [List.size_toArray]; omega
    refine G.stops s (fun s1 => Inv X pins σ H s1) E (by rw [ei]; exact ⟨hz, h1, h2, ⟨h3, p⟩, h4, p2⟩) fun h' tk hk _ => ?_
    exact I.turnedL (t' := tk) (ch := [z, TI, TO, i1, i2]) (fun c o hb q => hk c o (fun m => hb (by simp only [List.mem_cons, List.not_mem_nil, or_false] at m ⊢; rcases m with m | m | m | m <;> simp [m])) q) hf
  self := fun A i s Q E st h => wpAny_pyIter_zip st.2.2.1 h
def iZipB (K : PySem.W.Frag) (ta : TA) : TI := fun σ H R => ta σ H fun vs H1 => ∃ a b b1 b2 xs ys, vs = [.ref a, .ref b] ∧ SqB b1 K H1 a xs ∧ SqB b2 K H1 b ys ∧ R (ItzB b1 b2 K a b xs ys) H1
theorem pi_zipB {X : Cx} {e e2 : Expr} {ta : TA} {p pos tpos : Pos} {elts : List Expr} {kk : Nat} (hg : Gl X "zip") (hm : X.mg "zip" = none) (ha : PA X [e, e2] ta)
    (hs : starEach [e, e2] X.env = (false, eval e X.env) :: starEach [e2] X.env := by rfl) (hpl : (backTo pos (starEach [e2] X.env)).any (·.1) = false := by rfl) :
    PI X (.Tuple elts kk tpos) (.Call (.Name "zip" p) [e, e2] [] pos) (iZipB X.K ta) := by
  refine ⟨fun pins s σ H R I h => ?_⟩
  refine Call_ (ld_blt I hg hm PyProof.Rows.boot_zip (PyProof.Rows.callWith_type1 (thn (ha.run pos pins s σ H _ I h) fun us s1 ⟨vs, H1, I1, r1, q1⟩ => ?_) hs hpl))
  obtain ⟨a, b, b1, b2, xs, ys, ex, hqx, hqy, q⟩ := q1
  subst ex
  cases r1 with
  | cons r rr =>
    cases rr with
    | cons r' rr =>
      cases rr
      cases r
      cases r'
      have fresh5 : ∀ c, c ∈ [s1.heap.objs.size + 4, s1.heap.objs.size + 2, s1.heap.objs.size + 3, s1.heap.objs.size, s1.heap.objs.size + 1] → FpOk X pins H1 c := fun c hcm => by
        have hle : s1.heap.objs.size ≤ c := by
          have e' : c = s1.heap.objs.size + 4 ∨ c = s1.heap.objs.size + 2 ∨ c = s1.heap.objs.size + 3 ∨ c = s1.heap.objs.size ∨ c = s1.heap.objs.size + 1 := by simpa using hcm
          rcases e' with z | z | z | z | z
          · rw [z]; exact Nat.le_add_right _ _
          · rw [z]; exact Nat.le_add_right _ _
          · rw [z]; exact Nat.le_add_right _ _
          · rw [z]; exact Nat.le_refl _
          · rw [z]; exact Nat.le_add_right _ _
        exact I1.fpOk hle (I1.hok.fresh hle)
      obtain ⟨its, rv, p1, la⟩ := inv_sq I1 hqx
      obtain ⟨its2, rv2, p2, lb⟩ := inv_sq I1 hqy
      refine zip_begins2 (beginsB b1 a its.toArray) (beginsB b2 b its2.toArray) p1 p2 fun h' hz hTI hTO h1 h2 hsz hk => wpAny_pyIter_zip hz ?_
      have I2 : Inv X pins σ H1 { s1 with heap := h' } := I1.kept (t' := s1.toks) hk
      have S := zip_sep2 (N := s1.heap.objs.size) (fp1 := [a]) (fp2 := [b]) (fun c hc => by rw [List.mem_singleton.mp hc]; exact la) (fun c hc => by rw [List.mem_singleton.mp hc]; exact lb)
      exact ⟨s1.heap.objs.size + 4, [s1.heap.objs.size + 4, s1.heap.objs.size + 2, s1.heap.objs.size + 3, s1.heap.objs.size, s1.heap.objs.size + 1], _, _, H1, rfl, I2, turnB S (Nat.ne_of_lt la) (Nat.ne_of_lt (Nat.lt_succ_of_lt lb)), ⟨Nat.zero_le _, Nat.zero_le _, hz, hTI, ⟨_, _, hTO⟩, isIt_new h1, isIt_new h2⟩, fresh5, q⟩
theorem itz_ok {K : PySem.W.Frag} {F : Hp} {b1 b2 : Bool} {a b : Addr} {xs ys : List V} {l m : List T} (h1 : SqB b1 K F a xs) (h2 : SqB b2 K F b ys) (t1 : TvL K F l xs) (t2 : TvL K F m ys) :
    ItOk K (ItzB b1 b2 K a b xs ys) F (List.zipWith (fun x y => T.wtp [x, y]) l m) := by
  have le1 : ∀ (b' : Bool) (c : Addr) (zs : List V) (H : Hp), Le F H → SqB b' K F c zs → SqB b' K H c zs := fun b' c zs H le h => by
    cases b' with
    | true => exact sqw_le le h
    | false => exact le _ _ h
  have e1 := t1.length
  have e2 := t2.length
  refine ⟨fun i H le hi => ?_, fun i H le hi => ?_, fun i H x H' le hi y => ?_⟩
  · rw [List.length_zipWith] at hi
    exact ⟨le1 _ _ _ _ le h1, le1 _ _ _ _ le h2, by omega, by omega⟩
  · rw [List.length_zipWith] at hi
    exact ⟨le1 _ _ _ _ le h1, le1 _ _ _ _ le h2, by omega⟩
  · obtain ⟨p, x1, y1, rfl, np, e, hx, hy⟩ := y
    obtain ⟨t, q1, q2⟩ := t1.get' hx
    obtain ⟨u, q3, q4⟩ := t2.get' hy
    exact ⟨.wtp [t, u], zip_get q1 q3, .inr ⟨p, _, _, rfl, rfl, ⟨_, _, rfl, q2, _, _, rfl, q4, rfl⟩, np, e⟩⟩
def KZipA (t u : T) (Φ : List T → Prop) : Prop := ∃ l m, t.items = some l ∧ u.items = some m ∧ Φ (List.zipWith (fun x y => T.wtp [x, y]) l m)
def pZipA (pa pb : PE') : PI' := fun ρ Φ => pa ρ fun t _ ρ1 => pb ρ1 fun u _ ρ2 => KZipA t u fun l => Φ l ρ2
theorem items_b {K : PySem.W.Frag} {F : Hp} {t : T} {v : V} {m : List T} (e : t.items = some m) (h : Tv K F t v) : ∃ b a xs, v = .ref a ∧ SqB b K F a xs ∧ TvL K F m xs := by
  cases t <;> first | cases e | skip
  · obtain ⟨a, xs, e1, e2, e3⟩ := h
    exact ⟨true, a, xs, e1, e2.t, e3⟩
  · obtain ⟨a, xs, e1, e2, e3⟩ := h
    exact ⟨false, a, xs, e1, e2, e3⟩
theorem qi_zipA {X : Cx} {W : Wld} {e e2 : Expr} {pa pb : PE'} {p pos : Pos} {elts : List Expr} {kk : Nat} {tpos : Pos} (hg : Gl X "zip") (hm : X.mg "zip" = none) (h : QE X W e pa) (h' : QE X W e2 pb) (hs : starEach [e, e2] X.env = (false, eval e X.env) :: starEach [e2] X.env := by rfl) (hs2 : starEach [e2] X.env = (false, eval e2 X.env) :: starEach [] X.env := by rfl)
    (hpl : (backTo pos (starEach [e2] X.env)).any (·.1) = false := by rfl) : QI X W (.Tuple elts kk tpos) (.Call (.Name "zip" p) [e, e2] [] pos) (pZipA pa pb) := by
  obtain ⟨t, h1, h2⟩ := h.ex
  obtain ⟨u, h3, h4⟩ := h'.ex
  refine ⟨_, pi_zipB hg hm (pa_cons h1 (pa_cons h3 pa_nil hs2) hs) hs hpl, fun B F0 ρ σ F H Φ R R0 hp k => ?_⟩
  refine h2.fz R0 hp fun τ ρ1 v F1 H1 R1 le1 tv q1 => ?_
  refine h4.fz R1 q1 fun τ2 ρ2 w F2 H2 R2 le2 tv2 q2 => ?_
  obtain ⟨l, m, i1, i2, q2⟩ := q2
  obtain ⟨b1, a, xs, rfl, s1, t1⟩ := items_b i1 (Tv.le le2 _ _ tv)
  obtain ⟨b2, b, ys, rfl, s2, t2⟩ := items_b i2 tv2
  have up : ∀ (b' : Bool) (c : Addr) (zs : List V), SqB b' X.K F2 c zs → SqB b' X.K H2 c zs := fun b' c zs h => by
    cases b' with
    | true => exact sqw_le R2.fh h
    | false => exact R2.fh _ _ h
  exact ⟨a, b, b1, b2, xs, ys, rfl, up _ _ _ s1, up _ _ _ s2, k _ ρ2 F2 H2 _ R2 (le1.trans le2) (itz_ok s1 s2 t1 t2) q2⟩
theorem kza {t u : T} {l m : List T} {Φ : List T → Prop} (h1 : t.items = some l) (h2 : u.items = some m) : KZipA t u Φ = Φ (List.zipWith (fun x y => T.wtp [x, y]) l m) :=
  propext ⟨fun ⟨l', m', e1, e2, h⟩ => by rw [h1] at e1; rw [h2] at e2; cases e1; cases e2; exact h, fun h => ⟨l, m, h1, h2, h⟩⟩
theorem kza_ll {l m : List T} {Φ : List T → Prop} : KZipA (.lst l) (.lst m) Φ = Φ (List.zipWith (fun x y => T.wtp [x, y]) l m) := kza rfl rfl
theorem kza_lt {l m : List T} {Φ : List T → Prop} : KZipA (.lst l) (.tup m) Φ = Φ (List.zipWith (fun x y => T.wtp [x, y]) l m) := kza rfl rfl
theorem kza_tl {l m : List T} {Φ : List T → Prop} : KZipA (.tup l) (.lst m) Φ = Φ (List.zipWith (fun x y => T.wtp [x, y]) l m) := kza rfl rfl
theorem kza_tt {l m : List T} {Φ : List T → Prop} : KZipA (.tup l) (.tup m) Φ = Φ (List.zipWith (fun x y => T.wtp [x, y]) l m) := kza rfl rfl
end Y

namespace Y
open PySem PySem.Spec PyProof.Rows L2 RT RZ
/-! a <= b <= c <= d -/
section
variable {X : Cx} {W : Wld} {a b c d : Expr} {pos : Pos} {ta tb tc td : TE} {pa pb pc pd : PE'}
def tChain3 (r r' r'' : R2) (ta tb tc td : TE) : TE := fun σ H Q => ta σ H fun x H1 => tb σ H1 fun y H2 => r x y H2 fun z H3 => ∃ k, z = .bl k ∧
  if k = true then (tc σ H3 fun z' H4 => r' y z' H4 fun w H5 => ∃ j, w = .bl j ∧ if j = true then (td σ H5 fun w' H6 => r'' z' w' H6 Q) else Q (.bl false) H5) else Q (.bl false) H3
theorem pe_chain3 {op op' op'' : CmpOp} {r r' r'' : R2} (ho : OpR X (compareOp op) r) (ho' : OpR X (compareOp op') r') (ho'' : OpR X (compareOp op'') r'') (ha : PE X a ta) (hb : PE X b tb) (hc : PE X c tc) (hd : PE X d td)
    (hm : lastMarks [op, op', op''] [b, c, d] = false := by with_unfolding_all rfl) : PE X (.Compare a [op, op', op''] [b, c, d] pos) (tChain3 r r' r'' ta tb tc td) := by
  refine ⟨fun pins s σ H Q I h => ?_⟩
  refine Compare_chain (thn (ha.run pins s σ H _ I h) fun v s1 ⟨x, H1, I1, r1, q1⟩ => chain_link (thn (hb.run pins s1 σ H1 _ I1 q1) fun u s2 ⟨y, H2, I2, r2, q2⟩ =>
    thn (ho pins s2 σ H2 x y v u _ I2 r1 r2 q2) fun e s3 ⟨z, H3, I3, r3, k, ek, q3⟩ => ?_)) hm
  subst ek
  cases r3
  refine wpAny_truthy_bool ?_
  cases k with
  | false => exact ite_ff ⟨.bl false, H3, I3, rfl, q3⟩
  | true =>
    refine ite_tt (chain_link (thn (hc.run pins s3 σ H3 _ I3 q3) fun u' s4 ⟨z', H4, I4, r4, q4⟩ => thn (ho' pins s4 σ H4 y z' u u' _ I4 r2 r4 q4) fun e' s5 ⟨w, H5, I5, r5, j, ej, q5⟩ => ?_))
    subst ej
    cases r5
    refine wpAny_truthy_bool ?_
    cases j with
    | false => exact ite_ff ⟨.bl false, H5, I5, rfl, q5⟩
    | true => exact ite_tt (chain_last (thn (hd.run pins s5 σ H5 _ I5 q5) fun w' s6 ⟨w2, H6, I6, r6, q6⟩ => ho'' pins s6 σ H6 z' w2 u' w' Q I6 r4 r6 q6))
def pChain3 (P P' P'' : T → T → (T → Bool → Prop) → Prop) (pa pb pc pd : PE') : PE' := fun ρ Φ => pa ρ fun x _ ρ1 => pb ρ1 fun y _ ρ2 => P x y fun z _ => ∃ k, z = .bl k ∧ if k = true then (pc ρ2 fun z' _ ρ3 => P' y z' fun w _ => ∃ j, w = .bl j ∧ if j = true then (pd ρ3 fun w' _ ρ4 => P'' z' w' fun τ f => Φ τ f ρ4) else Φ (.bl false) false ρ3) else Φ (.bl false) false ρ2
theorem qe_chain3 {op op' op'' : CmpOp} {P P' P''} (ho : OpQ X W (compareOp op) P) (ho' : OpQ X W (compareOp op') P') (ho'' : OpQ X W (compareOp op'') P'') (ha : QE X W a pa) (hb : QE X W b pb) (hc : QE X W c pc) (hd : QE X W d pd)
    (hm : lastMarks [op, op', op''] [b, c, d] = false := by with_unfolding_all rfl) : QE X W (.Compare a [op, op', op''] [b, c, d] pos) (pChain3 P P' P'' pa pb pc pd) := by
  obtain ⟨t, h1, h2⟩ := ha.ex
  obtain ⟨u, h3, h4⟩ := hb.ex
  obtain ⟨w, h5, h6⟩ := hc.ex
  obtain ⟨w4, h7, h8⟩ := hd.ex
  refine ⟨_, pe_chain3 (opS X _) (opS X _) (opS X _) h1 h3 h5 h7 hm, fun B F0 ρ σ F H Φ Q R hp k => ?_⟩
  refine h2.fz R hp fun x ρ1 v F1 H1 R1 le1 tv1 q1 => ?_
  refine h4.fz R1 q1 fun y ρ2 u F2 H2 R2 le2 tv2 q2 => ?_
  refine ho B F0 ρ2 σ F2 H2 x y v u _ _ R2 (Tv.le le2 _ _ tv1) tv2 q2 fun τ f w F' H' R' le vr q => ?_
  obtain ⟨kk, rfl, q⟩ := q
  have ew : w = .bl kk := by
    cases f with
    | false => exact vr
    | true => obtain ⟨_, _, _, z, _⟩ := vr; cases z
  refine ⟨kk, ew, ?_⟩
  cases kk with
  | false =>
    rw [if_neg Bool.false_ne_true] at q ⊢
    exact k _ false ρ2 _ F' H' R' (le1.trans (le2.trans le)) VR.bl q
  | true =>
    rw [if_pos rfl] at q ⊢
    refine h6.fz R' q fun z ρ3 u3 F3 H3 R3 le3 tv3 q3 => ?_
    refine ho' B F0 ρ3 σ F3 H3 y z u u3 _ _ R3 (Tv.le (le.trans le3) _ _ tv2) tv3 q3 fun τ f w2 F4 H4 R4 le4 vr q => ?_
    obtain ⟨jj, rfl, q⟩ := q
    have ew : w2 = .bl jj := by
      cases f with
      | false => exact vr
      | true => obtain ⟨_, _, _, z, _⟩ := vr; cases z
    refine ⟨jj, ew, ?_⟩
    cases jj with
    | false =>
      rw [if_neg Bool.false_ne_true] at q ⊢
      exact k _ false ρ3 _ F4 H4 R4 (le1.trans (le2.trans (le.trans (le3.trans le4)))) VR.bl q
    | true =>
      rw [if_pos rfl] at q ⊢
      refine h8.fz R4 q fun z5 ρ5 u5 F5 H5 R5 le5 tv5 q5 => ?_
      exact ho'' B F0 ρ5 σ F5 H5 z z5 u3 u5 _ Q R5 (Tv.le (le4.trans le5) _ _ tv3) tv5 q5 fun τ f w F' H' R' le' vr q => k τ f ρ5 w F' H' R' (le1.trans (le2.trans (le.trans (le3.trans (le4.trans (le5.trans le')))))) vr q
end
end Y

namespace Y
open PySem PySem.Spec PyProof.Rows L2 RT RZ
/-! ### repr of data of any form, where no repr runs already -/
def PRepr : PSp := fun l Φ => ∃ t, l = [t] ∧ T.noA t = true ∧ (T.pd t).showable = true ∧ (T.pd t).hasDict = false ∧ (T.pd t).depth ≤ 60 ∧ (T.pd t).shown.length ≤ sizeLine ∧ Φ (.str (T.pd t).shown) false
section
variable {X : Cx} {W : Wld}
theorem cq_repr (hu : X.A.units + 65 < cLine) (hg : X.A.guards = some []) : CallQ X W (.builtin "repr") PRepr := by
  intro B F0 ρ σ F H l vs Φ Q R tv hp k
  obtain ⟨t, rfl, na, sh, nd, dp, sz, hp⟩ := hp
  obtain ⟨v, vs', rfl, tv, tv'⟩ := tv
  obtain rfl : vs' = [] := tv'
  intro pins s σ' us I rs
  obtain ⟨u, rfl, r⟩ := vals1 rs
  obtain ⟨as, rd⟩ := Dp.reads I _ _ _ (Tv.dp _ _ na (Tv.le R.fh _ _ tv)) r
  have fin : ∀ h' w tk, (∀ b o, s.heap.get? b = some o → h'.get? b = some o) → EP X pins σ' Q (.str (T.pd t).shown w) { s with heap := h', toks := tk } := fun h' w tk kp =>
    ⟨.str _, H, I.kept kp, ⟨_, rfl⟩, k (.str (T.pd t).shown) false (.str (T.pd t).shown) F H R (Le.refl _) rfl hp⟩
  cases t with
  | non =>
    obtain rfl : v = .non := tv
    obtain rfl : u = .none := r
    exact PySem.P.repr_of_none (fin s.heap _ _ fun _ _ e => e)
  | bl b =>
    obtain rfl : v = .bl b := tv
    obtain rfl : u = .bool b := r
    exact PySem.P.repr_of_bool (fin s.heap _ _ fun _ _ e => e)
  | int i =>
    obtain rfl : v = .int i := tv
    obtain ⟨tk, rfl⟩ := (show ∃ tk, u = Value.int i tk from r)
    exact PySem.P.repr_of_int (of_decide_eq_true sh) (fin s.heap _ _ fun _ _ e => e)
  | str a =>
    obtain rfl : v = .str a := tv
    obtain ⟨tk, rfl⟩ := (show ∃ tk, u = Value.str a tk from r)
    exact PySem.P.repr_of_str (fin s.heap _ _ fun _ _ e => e) sz
  | tup l =>
    obtain ⟨a, xs, rfl, _⟩ := tv
    obtain rfl : u = .ref a := r
    exact repr_of_reads' rd sh (fun z => by rw [nd] at z; cases z) hg (by omega) (fun _ _ e => e) fin sz
  | lst l =>
    obtain ⟨a, xs, rfl, _⟩ := tv
    obtain rfl : u = .ref a := r
    exact repr_of_reads' rd sh (fun z => by rw [nd] at z; cases z) hg (by omega) (fun _ _ e => e) fin sz
  | adr a => cases na
  | wtp a => cases na
  | dct ks a => cases na
end
end Y

namespace Y
open PySem PySem.Spec PyProof.Rows L2 RT RZ
/-! ### defs that are called where no repr runs: what is promised of them, how they are called -/
/-- no list, tuple or dict is being shown -/
abbrev NoRep (A : Around) : Prop := A.guards = some []
structure FnG (P : Program) (w : World) (K : PySem.W.Frag) (mg : Str → Option Value) (base : Heap) (k : Nat) (f : Addr) (fd : FuncData) (ps : List Str) (sp : Sp) : Prop where
  len : ∀ vs H Q E, sp vs H Q E → vs.length = ps.length
  run : ∀ (A : Around), NoRep A → Room k A → ∀ (outer : List Env) (s : Shared) (H : Hp) (args : Args) (us : List Value) (vs : List V) (Q : VK) (E : XK), Env0 P w K mg base A outer s H → BindsTo s fd args (ps.zip us) → Vals vs us → sp vs H Q E →
    codeAny (model P w) A (.call (.ref f) args) (CR CX0 outer P w H s Q E) s
section
variable {P : Program} {w : World} {K : PySem.W.Frag} {mg : Str → Option Value} {base : Heap} {j k : Nat} {f : Addr} {fd : FuncData} {ps : List Str} {sp sp' : Sp}
theorem FnG.of (F : FnOk P w K mg base CX0 k f fd ps sp) : FnG P w K mg base k f fd ps sp := ⟨F.len, fun A _ hr outer s H args us vs Q E => F.run A outer s H args us vs Q E hr⟩
theorem FnG.mono (F : FnG P w K mg base j f fd ps sp) (h : j ≤ k) : FnG P w K mg base k f fd ps sp := ⟨F.len, fun A g hr => F.run A g (hr.mono h)⟩
theorem FnG.imp (F : FnG P w K mg base k f fd ps sp) (h : ∀ vs H Q E, sp' vs H Q E → sp vs H Q E) : FnG P w K mg base k f fd ps sp' :=
  ⟨fun vs H Q E q => F.len _ _ _ _ (h _ _ _ _ q), fun A g hr outer s H args us vs Q E e b v q => F.run A g hr outer s H args us vs Q E e b v (h _ _ _ _ q)⟩
/-- a def by its body -/
theorem FunD.okG {x qual : Str} {params : Arguments} {body : List Stmt} {scope : Scope} {dvs : List V} {kws : List (Str × V)} {N : List Str} (F : FunD K x qual params body scope dvs kws f fd) (S : FnScope N ps scope) (len : ∀ vs H Q E, sp vs H Q E → vs.length = ps.length)
    (hbody : ∀ (cdv : Value) (A : Around) (outer : List Env) (s : Shared) (H : Hp) (vs : List V) (Q : VK) (E : XK), NoRep A → Room k (A.deeper (envOfC qual scope s.heap.objs.size f cdv)) → sp vs H Q E →
      ∃ t, PSs (cxOf CX0 P w K mg base N qual scope f cdv A outer s H E) body t ∧ t { nx := fun _ H' => Q .non H', rt := Q } (L2.start N vs) H) : FnG P w K mg base (k + 1) f fd ps sp := by
  obtain ⟨oc, od, dV, kV, doc, pm, an, cdv, ct, osl, rfl, lk, hcd, _, _⟩ := F.ex
  refine ⟨len, fun A g hr outer s H args us vs Q E e0 hb r hsp => ?_⟩
  obtain ⟨t, ht, hq⟩ := hbody cdv A outer s H vs Q E g (hr.deeper _) hsp
  have old : ∀ b o, base.get? b = some o → s.heap.get? b = some o := fun b o e => (e0.bs b o e).1
  have KX : K.In s.heap := e0.mod.kin.keeps old
  refine codeAny_call_function hr.depth (KX _ _ lk) rfl S.co S.gen rfl (PySem.W.codeRec_of KX hcd) (hb _ _ _ _ (wpAny_newFunctionEnv_cells S.kind (fun y hy => ?_) fun env he s1 x => ?_))
  · rcases S.par y.1 (List.of_mem_zip (show (y.1, y.2) ∈ ps.zip us from hy)).1 with q | q
    · exact .inl q
    · exact .inr ⟨q, PySem.W.cellsFrom_some _ _ _ (.inl q)⟩
  · subst he
    have I := inv_start (CX := CX0) (E := E) (N := N) S hr.hd e0 (len _ _ _ _ hsp) r x
    refine ⟨(e0.mod.nolimit.keeps old).keeps x.toInCall.keep, codeAny_func (wpAny_mono (ht.run [] s1 (L2.start N vs) H _ I hq) (fun fl s' hs => ?_) fun e s' hs => hs)⟩
    cases fl with
    | ret u => exact (let ⟨v, σ', H', J, rv, q⟩ := hs; ⟨v, H', J.os, J.bare, J.base, J.hok, rv, q⟩)
    | next => exact (let ⟨σ', H', J, q⟩ := hs; ⟨V.non, H', J.os, J.bare, J.base, J.hok, rfl, q⟩)
    | brk => exact (let ⟨_, _, _, q⟩ := hs; q.elim)
    | cont => exact (let ⟨_, _, _, q⟩ := hs; q.elim)
end
section
variable {X : Cx} {k : Nat} {f : Addr} {fd : FuncData} {ps : List Str} {sp : Sp} {x : Str} {p pos : Pos} {e : Expr} {es : List Expr} {t : TA}
theorem pe_callG (F : FnG X.prog X.w X.K X.mg X.base k f fd ps sp) (g : NoRep X.A) (hr : Room k X.A) (hg : Gl X x) (hm : X.mg x = some (.ref f)) (hk : PySem.W.keepIn X.K (.ref f) = true) (hb : Binds X.K fd ps [])
    (ha : PA X (e :: es) t) (hdb : (x == ("__debug__" : Str)) = false := by decide) (he : starEach (e :: es) X.env = (false, eval e X.env) :: starEach es X.env := by rfl) (hpl : (backTo pos (starEach es X.env)).any (·.1) = false := by rfl) :
    PE X (.Call (.Name x p) (e :: es) [] pos) (tCall sp [] E0 t) := by
  refine ⟨fun pins s σ H Q I h => wpAny_Call_Name_kw (ld_glob I hg hm ?_ hdb)⟩
  refine PySem.W.callWith_K (h₀ := X.base) I.ok.mod.kin hk (thn (ha.run pos pins s σ H _ I h) fun us s1 ⟨vs, H1, I1, r, q⟩ => ⟨I1.kIn, ?_⟩) he hpl
  have q : sp (vs ++ []) H1 Q E0 := q
  rw [List.append_nil] at q
  have hb2 := hb s1 us I1.kIn (by rw [List.append_nil, ← r.length]; exact F.len _ _ _ _ q)
  rw [List.append_nil] at hb2
  refine wpAny_call (codeAny_mono (F.run X.A g hr X.stack s1 H1 ⟨us, []⟩ us vs Q E0 I1.env0 hb2 r q) fun r' s' hq => ?_)
  cases r' with
  | error e' => exact pass0 pins σ H1 s1 e' s' I1 hq
  | ok fl =>
    cases fl with
    | ret u => exact I1.after hq
    | next => exact hq.elim
    | brk => exact hq.elim
    | cont => exact hq.elim
end
/-! ### by values -/
def CalG (P : Program) (w : World) (K : PySem.W.Frag) (mg : Str → Option Value) (base : Heap) (W : Wld) (x : Str) (k : Nat) (ps : List Str) (pf : PSp) : Prop :=
  ∃ f fd, mg x = some (.ref f) ∧ PySem.W.keepIn K (.ref f) = true ∧ Binds K fd ps [] ∧ FnG P w K mg base k f fd ps (spQ K W pf)
theorem CalG.of {P : Program} {w : World} {K : PySem.W.Frag} {mg : Str → Option Value} {base : Heap} {W : Wld} {x : Str} {k : Nat} {ps : List Str} {pf : PSp} (C : CalQ P w K mg base W x k ps pf) : CalG P w K mg base W x k ps pf :=
  let ⟨f, fd, h1, h2, h3, h4⟩ := C; ⟨f, fd, h1, h2, h3, .of h4⟩
theorem CalG.mono {P : Program} {w : World} {K : PySem.W.Frag} {mg : Str → Option Value} {base : Heap} {W : Wld} {x : Str} {j k : Nat} {ps : List Str} {pf : PSp} (C : CalG P w K mg base W x j ps pf) (l : j ≤ k) : CalG P w K mg base W x k ps pf :=
  let ⟨f, fd, h1, h2, h3, h4⟩ := C; ⟨f, fd, h1, h2, h3, h4.mono l⟩
theorem qe_callG {X : Cx} {W : Wld} {e : Expr} {es : List Expr} {x : Str} {p pos : Pos} {k : Nat} {ps : List Str} {pf : PSp} {q : PA'} (C : CalG X.prog X.w X.K X.mg X.base W x k ps pf) (g : NoRep X.A) (hr : Room k X.A) (hg : Gl X x) (ha : QA X W (e :: es) q) (hdb : (x == ("__debug__" : Str)) = false := by decide) (he : starEach (e :: es) X.env = (false, eval e X.env) :: starEach es X.env := by rfl) (hpl : (backTo pos (starEach es X.env)).any (·.1) = false := by rfl) :
    QE X W (.Call (.Name x p) (e :: es) [] pos) (pCall pf q) := by
  obtain ⟨f, fd, hm, hk, hb, F⟩ := C
  obtain ⟨t, h1, h2⟩ := ha.ex
  exact ⟨_, pe_callG F g hr hg hm hk hb h1 hdb he hpl, sm_call h2⟩
open Classical in
/-- what a body asks at its start and owes at its end, by values: CalQ.mk's own middle -/
theorem body_q {P : Program} {w : World} {K : PySem.W.Frag} {mg : Str → Option Value} {base : Heap} {W : Wld} {x : Str} {st : Stmt} {N : List Str} {pf : PSp} {f : Addr} {cdv : Value} {A : Around} {outer : List Env} {s : Shared} {H : Hp} {E : XK} {vs : List V} {Q : VK} {p : PSt}
    (hQ : QSs (cxOf CX0 P w K mg base N x (defScope st) f cdv A outer s H E) W (defBody st) p) (hp : ∀ ts Φ, pf ts Φ → p { nx := fun _ => Φ .non false, rt := Φ } (startP N ts)) (h : spQ K W pf vs H Q E) :
    ∃ t, PSs (cxOf CX0 P w K mg base N x (defScope st) f cdv A outer s H E) (defBody st) t ∧ t { nx := fun _ H' => Q .non H', rt := Q } (L2.start N vs) H := by
  obtain ⟨t, h1, h2⟩ := hQ.ex
  refine ⟨t, h1, ?_⟩
  obtain ⟨ts, F, Ψ, q2, q3, q4, q5, q6, q7⟩ := h
  have lv := q5.length
  have R : Rep K W (fun a => if W.D a then none else H a) F (startP N ts) (L2.start N vs) F H := by
    refine ⟨q2, Le.refl _, fun a e => .inl e, fun a o e => ?_, q3, q4, fun a e => if_pos e, ?_, fun i t e => ?_, fun i l e => ?_, fun i j l m e => ?_⟩
    · have e : (if W.D a then none else H a) = some o := e
      split at e
      · cases e
      · exact e
    · unfold startP L2.start
      rw [List.length_append, List.length_append, List.length_map, List.length_map, List.length_replicate, List.length_replicate, lv]
    · unfold startP at e
      unfold L2.start
      by_cases hi : i < ts.length
      · rw [List.getElem?_append_left (by simpa using hi), List.getElem?_map, List.getElem?_eq_getElem hi] at e
        have e2 : ts[i] = t := Sl.fz.inj (Option.some.inj e)
        obtain ⟨v, e3, e4⟩ := q5.get (List.getElem?_eq_getElem hi)
        refine ⟨v, ?_, e2 ▸ e4⟩
        rw [List.getElem?_append_left (by rw [List.length_map]; omega), List.getElem?_map, e3]
        rfl
      · rw [List.getElem?_append_right (by simpa using hi), List.getElem?_replicate] at e
        split at e <;> cases e
    · unfold startP at e
      by_cases hi : i < ts.length
      · rw [List.getElem?_append_left (by simpa using hi), List.getElem?_map, List.getElem?_eq_getElem hi] at e
        cases e
      · rw [List.getElem?_append_right (by simpa using hi), List.getElem?_replicate] at e
        split at e <;> cases e
    · unfold startP at e
      by_cases hi : i < ts.length
      · rw [List.getElem?_append_left (by simpa using hi), List.getElem?_map, List.getElem?_eq_getElem hi] at e
        cases e
      · rw [List.getElem?_append_right (by simpa using hi), List.getElem?_replicate] at e
        split at e <;> cases e
  have fin : ∀ {τ : T} {f : Bool} {v : V} {ρ : PS'} {σ : L2.St} {F' H' : Hp}, Rep K W (fun a => if W.D a then none else H a) F ρ σ F' H' → VR K W (fun a => if W.D a then none else H a) ρ σ F' H' τ f v → Ψ τ f → Q v H' := fun {τ f v ρ σ F' H'} R' vr hΨ => by
    have bn : ∀ a, ¬ W.D a → (if W.D a then none else H a) = none → H a = none := fun a hd e => by rwa [if_neg hd] at e
    refine q7 τ f v F' H' hΨ ⟨R'.f0, R'.fh, fun a e => ?_, fun a o e hd => R'.bh a o (by show (if W.D a then none else H a) = some o; rw [if_neg hd]; exact e), R'.ok⟩ ?_
    · rcases R'.fd a e with z | z
      · exact .inl z
      · exact .inr (bn a (fun hd => e (R'.wf a hd)) z)
    · cases f with
      | false => exact vr
      | true =>
        obtain ⟨a, o, e1, e2, e3, e5, e6, e7, _⟩ := vr
        exact ⟨a, o, e1, e2, e3, e5, bn a (fun hd => e7 (W.sub _ hd)) e6⟩
  exact h2 _ F (startP N ts) (start N vs) F H _ _ R (hp ts Ψ q6) ⟨fun ρ σ F' H' R' _ hΨ => fin R' VR.non hΨ, fun τ f v ρ σ F' H' R' _ vr hΨ => fin R' vr hΨ, fun _ _ _ _ _ _ h => h.elim, fun _ _ _ _ _ _ h => h.elim⟩
theorem spQ_len {K : PySem.W.Frag} {W : Wld} {pf : PSp} {ps : List Str} (hl : ∀ ts Φ, pf ts Φ → ts.length = ps.length) (vs : List V) (H : Hp) (Q : VK) (E : XK) (h : spQ K W pf vs H Q E) : vs.length = ps.length := by
  obtain ⟨ts, F, Ψ, _, _, _, h2, h3, _⟩ := h
  rw [h2.length]
  exact hl _ _ h3
theorem CalG.mk {P : Program} {w : World} {K : PySem.W.Frag} {mg : Str → Option Value} {base : Heap} {W : Wld} {x : Str} {st : Stmt} {N ps : List Str} {k : Nat} {pf : PSp} (D : Df K mg x st) (S : FnScope N ps (defScope st))
    (hb : ∀ (kV doc pm : Value) (an : Option Addr) (cdv ct : Value) (us : List Value), us.length = ps.length → bindArgs (PySem.W.fnOf x x (defArgs st) (defBody st) (defScope st) .none kV doc pm an cdv ct) ⟨us, []⟩ = pure (ps.zip us))
    (hl : ∀ ts Φ, pf ts Φ → ts.length = ps.length)
    (hbody : ∀ (f : Addr) (cdv : Value) (A : Around) (outer : List Env) (s : Shared) (H : Hp) (E : XK), NoRep (A.deeper (envOfC x (defScope st) s.heap.objs.size f cdv)) → Room k (A.deeper (envOfC x (defScope st) s.heap.objs.size f cdv)) →
      ∃ p, QSs (cxOf CX0 P w K mg base N x (defScope st) f cdv A outer s H E) W (defBody st) p ∧ ∀ ts Φ, pf ts Φ → p { nx := fun _ => Φ .non false, rt := Φ } (startP N ts)) :
    CalG P w K mg base W x (k + 1) ps pf := by
  obtain ⟨f, fd, F, g⟩ := D
  refine ⟨f, fd, g, F.kp, F.bindsN hb, FunD.okG F S (spQ_len hl) fun cdv A outer s H vs Q E gd hr h => ?_⟩
  obtain ⟨p, hQ, hp⟩ := hbody f cdv A outer s H E gd hr
  exact body_q hQ hp h
end Y

namespace Y
open PySem PySem.Spec PyProof.Rows L2 RT RZ LamX
/-! ### the end of a law whose def is told by FnG -/
open Classical in
/-- what is tracked at a law's start: the script's list, if it is none of K's, and the tables -/
noncomputable def H0 (K : PySem.W.Frag) (cs : List (Addr × Addr)) (a : Addr) (vs : List Value) (xs : List V) : Hp := fun b =>
  if b ∈ cs.map (·.2) then some (.tbl #[]) else if b = a ∧ K.lookup a = none then some (.frz { cls := .type "list", data := .seq vs.toArray } (.lst xs)) else none
theorem H0_cases {K : PySem.W.Frag} {cs : List (Addr × Addr)} {a : Addr} {vs : List Value} {xs : List V} {b : Addr} {u : HO} (h : H0 K cs a vs xs b = some u) :
    (b ∈ cs.map (·.2) ∧ u = .tbl #[]) ∨ (b ∉ cs.map (·.2) ∧ b = a ∧ K.lookup a = none ∧ u = .frz { cls := .type "list", data := .seq vs.toArray } (.lst xs)) := by
  unfold H0 at h
  split at h
  · rename_i z
    exact .inl ⟨z, (Option.some.inj h).symm⟩
  · rename_i z
    split at h
    · rename_i y
      exact .inr ⟨z, y.1, y.2, (Option.some.inj h).symm⟩
    · cases h
theorem law_callG {P : Program} {w : World} {K : PySem.W.Frag} {mg mb : Str → Option Value} {k : Nat} {fa a : Addr} {cs : List (Addr × Addr)} {fd : FuncData} {x : Str} {sp : Sp} {s₁ : Shared} {vs : List Value} {ns : List Int}
    (KX : K.In s₁.heap) (hns : s₁.heap.Ns mainGlobals mg) (hb : s₁.heap.Ns builtinsNs mb) (hbb : ∀ x : Str, x ≠ "__name__" → mb x = bootBuiltins x) (hlim : s₁.heap.NoLimit) (hg : s₁.gens = #[])
    (hT : ∀ p ∈ cs, s₁.heap.get? p.2 = some { cls := .none, data := .fields #[] }) (nT : ∀ p ∈ cs, K.lookup p.2 = none) (C : ∀ p ∈ cs, PySem.W.CodeHd s₁.heap p.1 p.2)
    (hbm : ∃ (bm : Addr) (ob : Obj), mg "__builtins__" = some (.ref bm) ∧ bm ≠ builtinsNs ∧ s₁.heap.get? bm = some ob ∧ ob.cls = .type "module" ∧ ob.dict = some builtinsNs ∧ ob.data = .plain)
    (ha : s₁.heap.get? a = some { cls := .type "list", data := .seq vs.toArray }) (hi : IntsAre vs ns) (hl : ns.length ≤ sizeLine) (hr : Room k callerA)
    (F : ∀ base : Heap, K.In base → base.Ns mainGlobals mg → (∀ p ∈ cs, TabB base mg p.1 p.2) → FnG P w K mg base k fa fd [x] sp) (hbind : ∀ (s : Shared) (u : Value), BindsTo s fd ⟨[u], []⟩ [(x, u)])
    (hsp : ∀ H : Hp, (∀ p ∈ cs, H p.2 = some (.tbl #[])) → SqL K H a (ns.map V.int) → sp [.ref a] H (fun v _ => v = .bl true) fun _ _ _ => False) :
    codeAny (model P w) callerA (.call (.ref fa) ⟨[.ref a], []⟩) (fun r s' => r = .ok (.ret (.bool true)) ∧ OldK s₁.heap s'.heap ∧ s'.os = s₁.os ∧ AllBare s'.gens) s₁ := by
  have rv := vals_ints hi
  generalize eH : H0 K cs a vs (ns.map V.int) = H
  have cas : ∀ {b : Addr} {u : HO}, H b = some u → (b ∈ cs.map (·.2) ∧ u = .tbl #[]) ∨ (b ∉ cs.map (·.2) ∧ b = a ∧ K.lookup a = none ∧ u = .frz { cls := .type "list", data := .seq vs.toArray } (.lst (ns.map V.int))) := fun {b u} h => H0_cases (by rw [eH]; exact h)
  have tab : ∀ {b : Addr}, b ∈ cs.map (·.2) → H b = some (.tbl #[]) ∧ s₁.heap.get? b = some { cls := .none, data := .fields #[] } ∧ K.lookup b = none := fun {b} hb => by
    obtain ⟨p, hp, rfl⟩ := List.mem_map.mp hb
    exact ⟨by rw [← eH]; exact if_pos hb, hT p hp, nT p hp⟩
  have memT : ∀ {p : Addr × Addr}, p ∈ cs → p.2 ∈ cs.map (·.2) := fun hp => List.mem_map.mpr ⟨_, hp, rfl⟩
  have aT : a ∉ cs.map (·.2) := fun z => by
    have q := (tab z).2.1
    rw [ha] at q
    have z' : Data.seq vs.toArray _ = Data.fields #[] := congrArg Obj.data (Option.some.inj q)
    cases z'
  -- a tracked object is a list or an empty table
  have kind : ∀ {b : Addr} {o : Obj} {u : HO}, s₁.heap.get? b = some o → H b = some u → (o = { cls := .type "list", data := .seq vs.toArray } ∧ K.lookup b = none) ∨ (o = { cls := .none, data := .fields #[] } ∧ K.lookup b = none) := fun {b o u} e h => by
    rcases cas h with ⟨h1, _⟩ | ⟨_, h1, h2, _⟩
    · rw [(tab h1).2.1] at e
      exact .inr ⟨(Option.some.inj e).symm, (tab h1).2.2⟩
    · rw [h1, ha] at e
      exact .inl ⟨(Option.some.inj e).symm, by rw [h1]; exact h2⟩
  have free : ∀ {b : Addr} {o : Obj}, s₁.heap.get? b = some o → (∀ u n, o.data ≠ .seq u n) → o.data ≠ .fields #[] → H b = none := fun {b o} e h1 h2 => by
    cases q : H b with
    | none => rfl
    | some u =>
      rcases kind e q with ⟨z, _⟩ | ⟨z, _⟩
      · exact absurd (congrArg Obj.data z) (h1 _ _)
      · exact absurd (congrArg Obj.data z) h2
  have freeK : ∀ {b : Addr} {o : Obj}, K.lookup b = some o → H b = none := fun {b o} e => by
    cases q : H b with
    | none => rfl
    | some u =>
      rcases kind (KX b o e) q with ⟨_, z⟩ | ⟨_, z⟩ <;> · rw [z] at e; cases e
  have base_of : ∀ {b : Addr} {o : Obj}, s₁.heap.get? b = some o → H b = none → (hidT s₁.heap H).get? b = some o := fun e n => hidT_get e n
  have dicF : ∀ {b : Addr} {o : Obj} {es : Array DictEntry} {ep : Nat}, s₁.heap.get? b = some o → o.data = .dict es ep → H b = none := fun {b o es ep} e d => free e (fun u n z => by rw [d] at z; cases z) fun z => by rw [d] at z; cases z
  have nsK : ∀ {b : Addr} {m : Str → Option Value}, s₁.heap.Ns b m → (hidT s₁.heap H).Ns b m := fun {b m} ⟨o, es, ep, e, d, r⟩ => ⟨o, es, ep, base_of e (dicF e d), d, r⟩
  have hKb : K.In (hidT s₁.heap H) := fun b o e => base_of (KX b o e) (freeK e)
  have hM : L2.Mod K mg (hidT s₁.heap H) := ⟨hKb, nsK hns, ⟨mb, nsK hb, hbb⟩, let ⟨mc, h1, h2⟩ := hlim; ⟨mc, nsK h1, h2⟩⟩
  obtain ⟨gO, gE, gP, gG, gD, gR⟩ := hns
  have TB : ∀ p ∈ cs, TabB (hidT s₁.heap H) mg p.1 p.2 := fun p hp => by
    refine ⟨?_, ?_, fun z => ?_⟩
    · obtain ⟨o, us, file, tf, flags, tg, inF, text, tt, e1, r1, r2, r3, r⟩ := C p hp
      refine ⟨o, us, file, tf, flags, tg, inF, text, tt, base_of e1 (free e1 (fun u n z => ?_) fun z => ?_), r1, r2, r3, r⟩
      · rw [r2] at z; cases z
      · rw [r2] at z
        cases z
        simp at r3
    · obtain ⟨bm, ob, b1, b2, b3, b4, b5, b6⟩ := hbm
      refine ⟨bm, ob, b1, b2, fun q => ?_, fun q => ?_, base_of b3 (free b3 (fun u n z => by rw [b6] at z; cases z) fun z => by rw [b6] at z; cases z), b4, b5, b6⟩
      · rw [q, gG] at b3
        cases b3
        rw [gD] at b6
        cases b6
      · rw [q, hT p hp] at b3
        cases b3
        cases b6
    · rw [z, hT p hp] at gG
      cases gG
      cases gD
  have hok : HOk P w H s₁.heap := fun b u h => by
    rcases cas h with ⟨h1, rfl⟩ | ⟨_, rfl, _, rfl⟩
    · exact (tab h1).2.1
    · exact ⟨ha, by rw [List.length_map]; exact hl, vs, _, rv, ha⟩
  have hS : SqL K H a (ns.map V.int) := by
    cases e : K.lookup a with
    | none => exact .inl (.inr ⟨{ cls := .type "list", data := .seq vs.toArray }, by rw [← eH]; unfold H0; rw [if_neg aT, if_pos ⟨rfl, e⟩]⟩)
    | some o =>
      have e2 := KX a o e
      rw [ha] at e2
      cases e2
      exact .inr ⟨_, vs.toArray, _, e, rfl, rfl, rfl, by rw [List.size_toArray, hi.length]; exact hl, by simpa using rv⟩
  have e0 : Env0 P w K mg (hidT s₁.heap H) callerA [] s₁ H := ⟨rfl, hM, fun b o e => of_hidT e, Nat.le_of_eq (hidT_size _ _), trivial, fun b hb => absurd (show b ∈ ([] : List Addr) from hb) (by simp), hok, .of_eq hg⟩
  have fin := (F _ hKb (nsK ⟨gO, gE, gP, gG, gD, gR⟩) TB).run callerA rfl hr [] s₁ H ⟨[.ref a], []⟩ [.ref a] [.ref a] _ _ e0 (hbind s₁ (.ref a)) (.cons rfl .nil) (hsp H (fun p hp => (tab (memT hp)).1) hS)
  refine codeAny_mono fin fun r s' h => ?_
  have nil : ∀ b : Addr, b ∉ ([] : List Addr) := fun b z => (nomatch z)
  cases r with
  | error e => exact h.elim
  | ok fl =>
    cases fl with
    | next => exact h.elim
    | brk => exact h.elim
    | cont => exact h.elim
    | ret u =>
      obtain ⟨v, H', os, bare, un, hok', r', q⟩ := h
      obtain rfl : v = .bl true := q
      obtain rfl : u = Value.bool true := r'
      have key : ∀ b o, b ∉ cs.map (·.2) → s₁.heap.get? b = some o → s'.heap.get? b = some o := fun b o nb e => by
        cases q : H b with
        | none => exact un.keep b o e q (nil b) (nil b)
        | some u =>
          rcases cas q with ⟨z, _⟩ | ⟨_, _, _, rfl⟩
          · exact absurd z nb
          · have e1 := (hok b _ q).1
            have e2 := (hok' b _ (un.frzs b _ _ q)).1
            rw [e] at e1
            rw [Option.some.inj e1]
            exact e2
      have grown : ∀ p ∈ cs, ∃ more : Array Value, s'.heap.get? p.2 = some { cls := .none, data := .fields more } := fun p hp => by
        obtain ⟨more, z⟩ := un.tbls p.2 #[] (tab (memT hp)).1
        exact ⟨_, hok' p.2 _ z⟩
      refine ⟨rfl, ⟨fun b o e => ?_, fun b o e => ?_⟩, os, bare⟩
      · by_cases hb : b ∈ cs.map (·.2)
        · obtain ⟨p, hp, rfl⟩ := List.mem_map.mp hb
          obtain ⟨more, hm⟩ := grown p hp
          rw [hT p hp] at e
          cases e
          exact .inr (.inl ⟨((C p hp).tab (hT p hp)).isCodeTable, rfl, #[], more, rfl, by rw [Array.empty_append]; exact hm⟩)
        · exact .inl (key b o hb e)
      · by_cases hb : b ∈ cs.map (·.2)
        · obtain ⟨p, hp, rfl⟩ := List.mem_map.mp hb
          obtain ⟨more, hm⟩ := grown p hp
          exact ⟨_, hm⟩
        · exact ⟨o, key b o hb e⟩
/-- what is known of the law's promise at the head's heap h -/
def LawG (l : PySem.W.OpenLaw) (w : World) (K : PySem.W.Frag) (k n : Nat) (x : Str) (mg : Str → Option Value) (fa : Addr) (h : Heap) : Prop :=
  ∃ (fd : FuncData) (cs : List (Addr × Addr)) (sp : Sp), (∀ p ∈ cs, h.get? p.2 = some { cls := .none, data := .fields #[] }) ∧ (∀ p ∈ cs, K.lookup p.2 = none) ∧ (∀ p ∈ cs, PySem.W.CodeHd h p.1 p.2) ∧ (∀ (s : Shared) (u : Value), BindsTo s fd ⟨[u], []⟩ [(x, u)]) ∧
    (∀ (H : Hp) (a : Addr) (ns : List Int), ns.length ≤ n → (∀ z ∈ ns, Builtin.Int.intBits z ≤ 1048576) → (∀ p ∈ cs, H p.2 = some (.tbl #[])) → SqL K H a (ns.map V.int) → sp [.ref a] H (fun v _ => v = .bl true) fun _ _ _ => False) ∧
    ∀ base : Heap, K.In base → base.Ns mainGlobals mg → (∀ p ∈ cs, TabB base mg p.1 p.2) → FnG l.prog w K mg base k fa fd [x] sp
theorem walk_G {l : PySem.W.OpenLaw} {n k : Nat} {q : Program} {loose : List Str} {XP : (Str → Option Value) → Heap → Prop} {YP : World → Heap → Prop} {d : DefRec} {x : Str}
    (hn : l.most = some n) (hn2 : n ≤ sizeLine) (hdf : d.params.defaults = []) (hr : Room k callerA)
    (F : ∀ (w : World) (mg : Str → Option Value) (fa : Addr) (h : Heap), YP w h → h.Ns mainGlobals mg → mg d.name = some (.ref fa) → ∃ K : PySem.W.Frag, K.In h ∧ LawG l w K k n x mg fa h) :
    PySem.W.WalkO q loose XP YP l.row.toRowW d [] (fun f vs => PySem.call f vs) := by
  refine Att.attach_callB hn hdf fun w s₀ s₁ mg mb fa o pm cd doc a vs ns G Y ho hd hcd hmg hobj hints hlen hbits hg => ?_
  obtain ⟨K, KX, fd, cs, sp, hT, nT, C, hb, hsp, hF⟩ := F w mg fa _ Y G.T.g hmg
  exact law_callG KX G.T.g G.T.b G.T.builtins G.T.nolimit hg hT nT C G.T.bmain hobj hints (Nat.le_trans hlen hn2) hr hF hb fun H hH hS => hsp H a ns hlen hbits hH hS
end Y

namespace Y
open PySem PySem.Spec PyProof.Rows L2 RT RZ
/-! ### xs[::-1] of a list -/
theorem tvl_app2 {K : PySem.W.Frag} {F : Hp} : ∀ {l m : List T} {xs ys : List V}, TvL K F l xs → TvL K F m ys → TvL K F (l ++ m) (xs ++ ys)
  | [], m, xs, ys, h, h2 => by
    obtain rfl : xs = [] := h
    exact h2
  | t :: l, m, _, ys, h, h2 => by
    obtain ⟨x, r, rfl, h1, h3⟩ := h
    exact ⟨x, r ++ ys, rfl, h1, tvl_app2 h3 h2⟩
theorem tvl_rev2 {K : PySem.W.Frag} {F : Hp} : ∀ {l : List T} {xs : List V}, TvL K F l xs → TvL K F l.reverse xs.reverse
  | [], xs, h => by
    obtain rfl : xs = [] := h
    exact rfl
  | t :: l, _, h => by
    obtain ⟨x, r, rfl, h1, h3⟩ := h
    rw [List.reverse_cons, List.reverse_cons]
    exact tvl_app2 (tvl_rev2 h3) ⟨x, [], rfl, h1, rfl⟩
def pRevL (pr : PR') : PE' := fun ρ Φ => pr ρ fun r ρ1 => ∃ l, r.look ρ1 = some (.lst l) ∧ Φ (.lst l.reverse) true ρ1
theorem qe_revL {X : Cx} {W : Wld} {a : Expr} {pr : PR'} {k : Nat} {p1 p2 p3 pos : Pos} (ha : QR X W a pr) : QE X W (.Subscript a (.Slice none none (some (.UnaryOp .USub (.Constant (.int 1) k p1) p2)) p3) pos) (pRevL pr) := by
  obtain ⟨t, h1, h2⟩ := ha.ex
  refine ⟨_, pe_revL h1, fun B F0 ρ σ F H Φ Q R hp k => ?_⟩
  refine h2 B F0 ρ σ F H _ _ R hp fun r ρ1 v F1 H1 R1 le1 rd q1 => ?_
  obtain ⟨l, e1, q1⟩ := q1
  obtain ⟨p, xs, rfl, h7, h8⟩ := R1.rv rd e1
  refine ⟨p, xs, rfl, .of h7, fun z nz => ?_⟩
  obtain ⟨R4, vr⟩ := R1.newL nz (tvl_rev2 h8)
  exact k _ true ρ1 _ F1 _ R4 le1 vr q1
end Y

/-! enumerate(x), x a list or a tuple -/
namespace Y
open PySem PySem.Spec PyProof.Rows L2 RT RZ
theorem meets_enumB {v : Value} {o : Obj} {H : Heap → Prop} (B : Begins v o H) :
    Meets (Builtin.«enumerate.__new__» ⟨[.type "enumerate", v], []⟩) (fun _ R s => H s.heap ∧
      R (.ok (.ret (.ref (s.heap.push o).objs.size))) { s with heap := (s.heap.push o).push { cls := .type "enumerate", data := .fields #[.none, .bool false, .ref s.heap.objs.size, rawInt 0, .none, .none] } }) :=
  .of_wp fun prog w A R s h => by
    obtain ⟨hp, g, d, tk, os⟩ := s
    obtain ⟨h1, h⟩ := h
    have hsub := sub_enumerate
    have q1 : ∀ {A' : Around} {E : Value → Shared → Prop} {Q : Value → Shared → Prop}, Q (.ref hp.objs.size) ⟨hp.push o, g, d, tk, os⟩ → wpAny (model prog w) A' (pyIter v) Q E ⟨hp, g, d, tk, os⟩ :=
      fun q => B.iter prog w _ _ ⟨hp, g, d, tk, os⟩ _ h1 q
    wp_walk using q1
    refine wpAny_stack_any fun st => wpAny_pure ?_
    split
    · rename_i c _ _ _ _ _
      cases (c == Value.type "enumerate")
      · wp_walk using q1
        exact ⟨_, rfl, h⟩
      · wp_walk using q1
        exact ⟨_, rfl, h⟩
    · wp_walk using q1
      exact ⟨_, rfl, h⟩
theorem enum_begins1 {prog : Program} {w : World} {A : Around} {E : Value → Shared → Prop} {s : Shared} {v : Value} {o : Obj} {H : Heap → Prop} {Q : Value → Shared → Prop} (B : Begins v o H) (h1 : H s.heap)
    (h : ∀ h', IsEnum h' (s.heap.objs.size + 1) s.heap.objs.size 0 .none → h'.get? s.heap.objs.size = some o → (∀ b o, s.heap.get? b = some o → h'.get? b = some o) → Q (.ref (s.heap.objs.size + 1)) { s with heap := h' }) :
    wpAny (model prog w) A (call (.type "enumerate") [v]) Q E s := by
  refine callType_new F.called_enumerate (by decide) (F.typeCall_enumerate_1 _) (F.newCall_enumerate_1 _) (fun obj => F.args_object_init_2 obj _) F.entry_enumerate_new (meets_enumB B) ⟨h1, ?_⟩
  have hz : (s.heap.push o).objs.size = s.heap.objs.size + 1 := Heap.size_push ..
  show _ ∧ _
  rw [hz]
  have he : IsEnum ((s.heap.push o).push { cls := .type "enumerate", data := .fields #[.none, .bool false, .ref s.heap.objs.size, rawInt 0, .none, .none] }) (s.heap.objs.size + 1) s.heap.objs.size 0 .none := by
    have := Heap.get?_push_size (s.heap.push o) (o := { cls := .type "enumerate", data := .fields #[.none, .bool false, .ref s.heap.objs.size, rawInt 0, .none, .none] }) rfl
    rw [hz] at this
    exact this
  exact ⟨⟨_, he, rfl⟩, h _ he (Heap.get?_push_of_some _ (Heap.get?_push_size _ B.free)) fun b o x => Heap.get?_push_of_some _ (Heap.get?_push_of_some _ x)⟩
def IteB (b : Bool) (K : PySem.W.Frag) (a : Addr) (xs : List V) : It :=
  ⟨fun i H => SqB b K H a xs ∧ i < xs.length, fun i H v H' => ∃ T x, v = .ref T ∧ H T = none ∧ H' = upd H T (.tup [.int (i : Nat), x]) ∧ xs[i]? = some x, fun i H => SqB b K H a xs ∧ xs.length ≤ i⟩
theorem turnE {P : Program} {w : World} {K : PySem.W.Frag} {elts : List Expr} {kk : Nat} {tpos : Pos} {b : Bool} {a e it : Addr} {xs : List V} (ne : e ≠ it) (na : a ≠ it) (nea : e ≠ a) :
    Turn P w K (.Tuple elts kk tpos) (IteB b K a xs) [e, it] e (fun i h => i ≤ xs.length ∧ (∃ old, IsEnum h e it ((i : Nat) : Int) old) ∧ isIt b h it a i) where
  mem := by simp
  obj := fun i h st c hc => by
    obtain ⟨_, ⟨old, he⟩, h3⟩ := st
    obtain ⟨o1, e1, d1⟩ := isIt_obj h3
    have e' : c = e ∨ c = it := by simpa using hc
    rcases e' with q | q
    · rw [q]; exact ⟨_, he, fun v q => nomatch q⟩
    · rw [q]; exact ⟨o1, e1, fun v q => by rw [d1] at q; cases q⟩
  keep := fun i h h' st k => by
    obtain ⟨l1, ⟨old, he⟩, h3⟩ := st
    exact ⟨l1, ⟨old, k e (by simp) _ he⟩, isIt_at h3 fun o q => k it (by simp) o q⟩
  item := by
    intro X hP hw hK hc i pins s σ H E I hf st hg
    subst hP hw hK
    obtain ⟨l1, ⟨old, he⟩, h3⟩ := st
    obtain ⟨hqx, hx⟩ := hg
    obtain ⟨its, rv, p, _⟩ := inv_sq I hqx
    have n1 := rv.length
    have G := GoesN.enumFrom (prog := X.prog) (w := X.w) (A := X.A) (elts := elts) (x1 := kk) (pos := tpos) 0 (drawsB b (A := X.A.in1) (I.ok.hd hc) it a na its.toArray) e ne (by simp [ne, nea]) (by simp)
    have z0 : ∀ j : Nat, (0 : Int) + (j : Int) = (j : Int) := fun j => Int.zero_add _
    refine wpAny_mono (G.goes i s (fun u s2 => ∃ x H', Inv X pins σ H' s2 ∧ RelV x u ∧ (IteB b X.K a xs).yld i H x H' ∧ (i + 1 ≤ xs.length ∧ (∃ old, IsEnum s2.heap e it ((i + 1 : Nat) : Int) old) ∧ isIt b s2.heap it a (i + 1)) ∧ ∀ c ∈ [e, it], H' c = none) E (by simp only [List.size_toArray]; omega) ⟨⟨old, by rw [z0]; exact he⟩, h3, p⟩ fun v h' tk hY st' hk _ => ?_) (fun r s1 h => h) fun _ _ h => h
    obtain ⟨T, t, u, rfl, hT, hu, hTt⟩ := hY
    rw [z0] at hTt
    have hx' : xs[i]? = some xs[i] := List.getElem?_eq_getElem hx
    obtain ⟨u', eu, ru⟩ := rv.get hx'
    obtain rfl : u' = u := by rw [List.getElem?_toArray, eu] at hu; exact Option.some.inj hu
    generalize xs[i] = x at hx' ru
    have new : ObjOk X.prog X.w (upd H T (.tup [.int (i : Nat), x])) h' T (.tup [.int (i : Nat), x]) := ⟨by show 2 ≤ sizeLine; decide, [.int (i : Nat) t, u'], .cons ⟨_, rfl⟩ (.cons ru .nil), hTt⟩
    have I1 : Inv X pins σ (upd H T (.tup [.int (i : Nat), x])) { s with heap := h', toks := tk } :=
      I.turnedNew (t' := tk) (ch := [e, it]) (fun c o hb q => hk c o (fun m => hb (by simp only [List.mem_cons, List.not_mem_nil, or_false] at m ⊢; rcases m with m | m <;> simp [m])) q) hf hT new
    obtain ⟨⟨old', g1⟩, g2, g3⟩ := st'
    refine ⟨.ref T, _, I1, rfl, ⟨T, x, rfl, I.hok.fresh hT, rfl, hx'⟩, ⟨by omega, ⟨old', by rw [← z0]; exact g1⟩, g2⟩, fun c hcm => ?_⟩
    have hlt : c < s.heap.objs.size := by
      obtain ⟨o1, e1, _⟩ := isIt_obj h3
      have e' : c = e ∨ c = it := by simpa using hcm
      rcases e' with q | q
      · rw [q]; exact Heap.lt_size he
      · rw [q]; exact Heap.lt_size e1
    rw [upd_ne (Nat.ne_of_lt (Nat.lt_of_lt_of_le hlt hT))]
    exact (hf c hcm).1
  done := by
    intro X hP hw hK hc i pins s σ H E I hf st hg
    subst hP hw hK
    obtain ⟨l1, ⟨old, he⟩, h3⟩ := st
    obtain ⟨hqx, hend⟩ := hg
    obtain ⟨its, rv, p, _⟩ := inv_sq I hqx
    have n1 := rv.length
    have G := GoesN.enumFrom (prog := X.prog) (w := X.w) (A := X.A) (elts := elts) (x1 := kk) (pos := tpos) 0 (drawsB b (A := X.A.in1) (I.ok.hd hc) it a na its.toArray) e ne (by simp [ne, nea]) (by simp)
    have ei : its.toArray.size = i := by simp only [List.size_toArray]; omega
    refine G.stops s (fun s1 => Inv X pins σ H s1) E (by rw [ei]; exact ⟨⟨old, by rw [Int.zero_add]; exact he⟩, h3, p⟩) fun h' tk hk _ => ?_
    exact I.turnedL (t' := tk) (ch := [e, it]) (fun c o hb q => hk c o (fun m => hb (by simp only [List.mem_cons, List.not_mem_nil, or_false] at m ⊢; rcases m with m | m <;> simp [m])) q) hf
  self := fun A i s Q E st h => (let ⟨_, ⟨_, he⟩, _⟩ := st; wpAny_pyIter_enum he h)
def iEnumB (K : PySem.W.Frag) (ta : TA) : TI := fun σ H R => ta σ H fun vs H1 => ∃ a b xs, vs = [.ref a] ∧ SqB b K H1 a xs ∧ R (IteB b K a xs) H1
theorem pi_enumB {X : Cx} {e : Expr} {ta : TA} {p pos tpos : Pos} {elts : List Expr} {kk : Nat} (hg : Gl X "enumerate") (hm : X.mg "enumerate" = none) (ha : PA X [e] ta) (hs : starEach [e] X.env = [(false, eval e X.env)] := by rfl) :
    PI X (.Tuple elts kk tpos) (.Call (.Name "enumerate" p) [e] [] pos) (iEnumB X.K ta) := by
  refine ⟨fun pins s σ H R I h => ?_⟩
  refine Call_ (ld_blt I hg hm boot_enumerate (PyProof.Rows.callWith_type1 (thn (ha.run pos pins s σ H _ I h) fun us s1 ⟨vs, H1, I1, r1, q1⟩ => ?_) hs rfl))
  obtain ⟨a, b, xs, ex, hq, q⟩ := q1
  subst ex
  cases r1 with
  | cons r rr =>
    cases rr
    cases r
    obtain ⟨its, rv, p1, la⟩ := inv_sq I1 hq
    refine enum_begins1 (beginsB b a its.toArray) p1 fun h' he h1 hk => wpAny_pyIter_enum he ?_
    have I2 : Inv X pins σ H1 { s1 with heap := h' } := I1.kept (t' := s1.toks) hk
    refine ⟨s1.heap.objs.size + 1, [s1.heap.objs.size + 1, s1.heap.objs.size], _, _, H1, rfl, I2, turnE (Nat.succ_ne_self _) (Nat.ne_of_lt la) (Nat.ne_of_gt (Nat.lt_succ_of_lt la)), ⟨Nat.zero_le _, ⟨.none, he⟩, isIt_new h1⟩, fun c hc => ?_, q⟩
    have e' : c = s1.heap.objs.size + 1 ∨ c = s1.heap.objs.size := by simpa using hc
    have hle : s1.heap.objs.size ≤ c := by
      rcases e' with z | z
      · rw [z]; exact Nat.le_add_right _ _
      · rw [z]; exact Nat.le_refl _
    exact I1.fpOk hle (I1.hok.fresh hle)
theorem ite_ok {K : PySem.W.Frag} {F : Hp} {b : Bool} {a : Addr} {xs : List V} {l : List T} (h1 : SqB b K F a xs) (t1 : TvL K F l xs) : ItOk K (IteB b K a xs) F (l.mapIdx fun i t => T.wtp [.int (i : Nat), t]) := by
  have le1 : ∀ (b' : Bool) (c : Addr) (zs : List V) (H : Hp), Le F H → SqB b' K F c zs → SqB b' K H c zs := fun b' c zs H le h => by
    cases b' with
    | true => exact sqw_le le h
    | false => exact le _ _ h
  have e1 := t1.length
  refine ⟨fun i H le hi => ?_, fun i H le hi => ?_, fun i H x H' le hi y => ?_⟩
  · rw [List.length_mapIdx] at hi
    exact ⟨le1 _ _ _ _ le h1, by omega⟩
  · rw [List.length_mapIdx] at hi
    exact ⟨le1 _ _ _ _ le h1, by omega⟩
  · obtain ⟨p, x1, rfl, np, e, hx⟩ := y
    obtain ⟨t, q1, q2⟩ := t1.get' hx
    refine ⟨.wtp [.int (i : Nat), t], ?_, .inr ⟨p, _, _, rfl, rfl, ⟨_, _, rfl, rfl, _, _, rfl, q2, rfl⟩, np, e⟩⟩
    rw [List.getElem?_mapIdx, q1]
    rfl
def KEnumA (t : T) (Φ : List T → Prop) : Prop := ∃ l, t.items = some l ∧ Φ (l.mapIdx fun i t => T.wtp [.int (i : Nat), t])
def pEnumA (pa : PE') : PI' := fun ρ Φ => pa ρ fun t _ ρ' => KEnumA t fun l => Φ l ρ'
theorem qi_enumA {X : Cx} {W : Wld} {e : Expr} {pa : PE'} {p pos : Pos} {elts : List Expr} {kk : Nat} {tpos : Pos} (hg : Gl X "enumerate") (hm : X.mg "enumerate" = none) (h : QE X W e pa) (hs : starEach [e] X.env = [(false, eval e X.env)] := by rfl) : QI X W (.Tuple elts kk tpos) (.Call (.Name "enumerate" p) [e] [] pos) (pEnumA pa) := by
  obtain ⟨t, h1, h2⟩ := h.ex
  refine ⟨_, pi_enumB hg hm (pa_cons h1 pa_nil (by rw [hs]; rfl)) hs, fun B F0 ρ σ F H Φ R R0 hp k => ?_⟩
  refine h2.fz R0 hp fun τ ρ1 v F1 H1 R1 le1 tv q1 => ?_
  obtain ⟨l, i1, q1⟩ := q1
  obtain ⟨b, a, xs, rfl, s1, t1⟩ := items_b i1 tv
  have up : SqB b X.K H1 a xs := by
    cases b with
    | true => exact sqw_le R1.fh s1
    | false => exact R1.fh _ _ s1
  exact ⟨a, b, xs, rfl, up, k _ ρ1 F1 H1 _ R1 le1 (ite_ok s1 t1) q1⟩
theorem kea {t : T} {l : List T} {Φ : List T → Prop} (h1 : t.items = some l) : KEnumA t Φ = Φ (l.mapIdx fun i t => T.wtp [.int (i : Nat), t]) :=
  propext ⟨fun ⟨l', e1, h⟩ => by rw [h1] at e1; cases e1; exact h, fun h => ⟨l, h1, h⟩⟩
theorem kea_l {l : List T} {Φ : List T → Prop} : KEnumA (.lst l) Φ = Φ (l.mapIdx fun i t => T.wtp [.int (i : Nat), t]) := kea rfl
theorem kea_t {l : List T} {Φ : List T → Prop} : KEnumA (.tup l) Φ = Φ (l.mapIdx fun i t => T.wtp [.int (i : Nat), t]) := kea rfl
end Y

namespace Y
open PySem PySem.Spec PyProof.Rows L2 RT RZ
/-! ### < of data of any form -/
def PLtD (x y : T) (Φ : T → Bool → Prop) : Prop := T.noA x = true ∧ T.noA y = true ∧ PySem.W.alike (T.pd x) (T.pd y) = true ∧ T.pd x ≠ .none ∧ (T.pd x).depth ≤ 60 ∧ Φ (.bl (PySem.W.dataLt (T.pd x) (T.pd y))) false
theorem oq_ltD {X : Cx} {W : Wld} (hu : X.A.units + 65 < cLine) : OpQ X W (compareOp .Lt) PLtD := by
  intro B F0 ρ σ F H x y v u Φ Q R hx hy hp k
  obtain ⟨n1, n2, al, nn, dp, hp⟩ := hp
  intro pins s σ' a b I r1 r2
  obtain ⟨as, ra⟩ := Dp.reads I _ _ _ (Tv.dp _ _ n1 (Tv.le R.fh _ _ hx)) r1
  obtain ⟨bs, rb⟩ := Dp.reads I _ _ _ (Tv.dp _ _ n2 (Tv.le R.fh _ _ hy)) r2
  exact PySem.W.lt_data ra rb al nn (by omega) ⟨.bl _, H, I, rfl, k (.bl (PySem.W.dataLt (T.pd x) (T.pd y))) false _ F H R (Le.refl _) VR.bl hp⟩
end Y

/-! < and sorted of data that are of one kind up to the first place that differs -/
namespace Y
open PySem PySem.Spec PySem.W PySem.Calls PyProof.Rows
mutual
/-- ints, texts, tuples of such -/
def pl : PyData → Bool
  | .int _ => true
  | .str a => PyData.strOk a
  | .tuple xs => plA xs
  | _ => false
def plA : List PyData → Bool
  | [] => true
  | x :: xs => pl x && plA xs
end
mutual
/-- what < comes to is of one kind -/
def lk : PyData → PyData → Bool
  | .int _, .int _ => true
  | .str _, .str _ => true
  | .tuple xs, .tuple ys => lkA xs ys
  | _, _ => false
def lkA : List PyData → List PyData → Bool
  | x :: xs, y :: ys => if PyData.eqv x y = true then lkA xs ys else lk x y
  | _, _ => true
end
theorem plA_cons {x : PyData} {xs : List PyData} : plA (x :: xs) = true ↔ pl x = true ∧ plA xs = true := by rw [plA, Bool.and_eq_true]
theorem plA_all {xs : List PyData} : plA xs = true ↔ ∀ x ∈ xs, pl x = true := by
  induction xs with
  | nil => exact ⟨fun _ _ h => (nomatch h), fun _ => by rw [plA]⟩
  | cons x xs ih => rw [plA_cons, ih]; simp
theorem lkA_cons {x y : PyData} {xs ys : List PyData} : lkA (x :: xs) (y :: ys) = if PyData.eqv x y = true then lkA xs ys else lk x y := by rw [lkA]
mutual
theorem pl_lay : ∀ d : PyData, pl d = true → d.canLay0 = true
  | .int _, _ => by simp [PyData.canLay0]
  | .str _, h => by
    rw [pl] at h
    simpa [PyData.canLay0] using h
  | .tuple xs, h => by
    rw [pl] at h
    simpa [PyData.canLay0] using plA_lay xs h
  | .none, h => by simp [pl] at h
  | .bool _, h => by simp [pl] at h
  | .list _, h => by simp [pl] at h
  | .dict _, h => by simp [pl] at h
theorem plA_lay : ∀ xs : List PyData, plA xs = true → PyData.canLayAll0 xs = true
  | [], _ => by simp [PyData.canLayAll0]
  | x :: xs, h => by
    have h := plA_cons.mp h
    simp [PyData.canLayAll0, pl_lay x h.1, plA_lay xs h.2]
end
mutual
theorem pl_eq : ∀ x y : PyData, pl x = true → pl y = true → PyData.eqv x y = true → x = y
  | .int a, y, _, h, e => by
    cases y with
    | int b =>
      have q : a = b := by simpa [PyData.eqv] using e
      rw [q]
    | _ => first | (simp [PyData.eqv] at e; done) | (simp [pl] at h; done)
  | .str a, y, _, h, e => by
    cases y with
    | str b =>
      have q : a = b := by simpa [PyData.eqv] using e
      rw [q]
    | _ => first | (simp [PyData.eqv] at e; done) | (simp [pl] at h; done)
  | .tuple xs, y, p, h, e => by
    cases y with
    | tuple ys =>
      rw [pl] at p h
      rw [PyData.eqv] at e
      rw [plA_eq xs ys p h e]
    | _ => first | (simp [PyData.eqv] at e; done) | (simp [pl] at h; done)
  | .none, _, p, _, _ => by simp [pl] at p
  | .bool _, _, p, _, _ => by simp [pl] at p
  | .list _, _, p, _, _ => by simp [pl] at p
  | .dict _, _, p, _, _ => by simp [pl] at p
theorem plA_eq : ∀ xs ys : List PyData, plA xs = true → plA ys = true → PyData.eqvAll xs ys = true → xs = ys
  | [], [], _, _, _ => rfl
  | [], _ :: _, _, _, e => by simp [PyData.eqvAll] at e
  | _ :: _, [], _, _, e => by simp [PyData.eqvAll] at e
  | x :: xs, y :: ys, p, h, e => by
    rw [eqv_all_cons, Bool.and_eq_true] at e
    rw [pl_eq x y (plA_cons.mp p).1 (plA_cons.mp h).1 e.1, plA_eq xs ys (plA_cons.mp p).2 (plA_cons.mp h).2 e.2]
end
mutual
theorem pl_refl : ∀ x : PyData, pl x = true → PyData.eqv x x = true
  | .int a, _ => by simp [PyData.eqv]
  | .str a, _ => by simp [PyData.eqv]
  | .tuple xs, p => by
    rw [pl] at p
    rw [PyData.eqv]
    exact plA_refl xs p
  | .none, p => by simp [pl] at p
  | .bool _, p => by simp [pl] at p
  | .list _, p => by simp [pl] at p
  | .dict _, p => by simp [pl] at p
theorem plA_refl : ∀ xs : List PyData, plA xs = true → PyData.eqvAll xs xs = true
  | [], _ => by simp [PyData.eqvAll]
  | x :: xs, p => by rw [eqv_all_cons, pl_refl x (plA_cons.mp p).1, plA_refl xs (plA_cons.mp p).2]; rfl
end
theorem eqv_ne {x y : PyData} (p : pl x = true) (h : x ≠ y) (q : pl y = true) : PyData.eqv x y = false := by
  cases e : PyData.eqv x y with
  | false => rfl
  | true => exact absurd (pl_eq x y p q e) h
mutual
/-- a value reads as one datum -/
theorem rd_uniq {h : Heap} : ∀ (d d' : PyData) (v : Value) (as bs : List Addr), pl d = true → pl d' = true → Reads h v d as → Reads h v d' bs → d = d'
  | .int _, _, _, _, _, _, _, r, r' => by cases r; cases r'; rfl
  | .str _, _, _, _, _, _, _, r, r' => by cases r; cases r'; rfl
  | .tuple xs, d', _, _, _, p, p', r, r' => by
    cases r with
    | tuple h1 h2 h3 h4 =>
      cases r' with
      | tuple k1 k2 k3 k4 =>
        rw [h1] at k1; cases k1
        rw [h3] at k3; cases k3
        rw [pl] at p p'
        rw [rdA_uniq xs _ _ _ _ p p' h4 k4]
      | list k1 k2 k3 k4 => simp [pl] at p'
      | dict k1 k2 k3 k4 k5 => simp [pl] at p'
  | .none, _, _, _, _, p, _, _, _ => by simp [pl] at p
  | .bool _, _, _, _, _, p, _, _, _ => by simp [pl] at p
  | .list _, _, _, _, _, p, _, _, _ => by simp [pl] at p
  | .dict _, _, _, _, _, p, _, _, _ => by simp [pl] at p
theorem rdA_uniq {h : Heap} : ∀ (xs ys : List PyData) (vs : List Value) (as bs : List Addr), plA xs = true → plA ys = true → ReadsAll h vs xs as → ReadsAll h vs ys bs → xs = ys
  | [], _, _, _, _, _, _, r, r' => by cases r; cases r'; rfl
  | _ :: _, [], _, _, _, _, _, r, r' => by cases r'; cases r
  | x :: xs, y :: ys, _, _, _, p, p', r, r' => by
    cases r with
    | cons h1 h2 =>
      cases r' with
      | cons k1 k2 => rw [rd_uniq x y _ _ _ (plA_cons.mp p).1 (plA_cons.mp p').1 h1 k1, rdA_uniq xs ys _ _ _ (plA_cons.mp p).2 (plA_cons.mp p').2 h2 k2]
end
/-- the order of rows of data -/
def ltA (xs ys : List PyData) : Bool := PyProof.Rows.lexLt itemOrd (keyToksAll xs) (keyToksAll ys)
theorem ltA_tup (xs ys : List PyData) : dataLt (.tuple xs) (.tuple ys) = ltA xs ys := dataLt_tuple xs ys
mutual
theorem lk_toks : ∀ x y : PyData, pl x = true → pl y = true → lk x y = true → PyData.eqv x y = false → ∀ l m, PyProof.Rows.lexLt itemOrd (keyToks x ++ l) (keyToks y ++ m) = PyProof.Rows.lexLt itemOrd (keyToks x) (keyToks y)
  | .int a, y, _, _, h, e, l, m => by
    cases y with
    | int b =>
      have ne : a ≠ b := fun q => by rw [q] at e; simp [PyData.eqv] at e
      simp only [keyToks, List.cons_append, List.nil_append]
      exact lex_atom (fun q => ne (Sum.inl.inj q)) l m
    | _ => simp [lk] at h
  | .str a, y, _, _, h, e, l, m => by
    cases y with
    | str b =>
      have ne : a ≠ b := fun q => by rw [q] at e; simp [PyData.eqv] at e
      simp only [keyToks, List.cons_append, List.nil_append]
      exact lex_atom (fun q => ne (str_of_cps (Sum.inr.inj q))) l m
    | _ => simp [lk] at h
  | .tuple xs, y, p, p', h, e, l, m => by
    cases y with
    | tuple ys =>
      rw [pl] at p p'
      rw [lk] at h
      rw [PyData.eqv] at e
      simp only [keyToks]
      exact lkA_toks xs ys p p' h e l m
    | _ => simp [lk] at h
  | .none, _, p, _, _, _, _, _ => by simp [pl] at p
  | .bool _, _, p, _, _, _, _, _ => by simp [pl] at p
  | .list _, _, p, _, _, _, _, _ => by simp [pl] at p
  | .dict _, _, p, _, _, _, _, _ => by simp [pl] at p
theorem lkA_toks : ∀ xs ys : List PyData, plA xs = true → plA ys = true → lkA xs ys = true → PyData.eqvAll xs ys = false → ∀ l m, PyProof.Rows.lexLt itemOrd (keyToksAll xs ++ l) (keyToksAll ys ++ m) = PyProof.Rows.lexLt itemOrd (keyToksAll xs) (keyToksAll ys)
  | [], [], _, _, _, e, _, _ => by simp [PyData.eqvAll] at e
  | [], y :: ys, _, _, _, _, l, m => by
    simp only [keyToksAll, List.cons_append, List.nil_append]
    rw [lex_atom (by simp), ← lex_atom (p := Sum.inl 0) (q := Sum.inl 1) (by simp) [] (keyToks y ++ keyToksAll ys)]
  | x :: xs, [], _, _, _, _, l, m => by
    simp only [keyToksAll, List.cons_append, List.nil_append]
    rw [lex_atom (by simp), ← lex_atom (p := Sum.inl 1) (q := Sum.inl 0) (by simp) (keyToks x ++ keyToksAll xs) []]
  | x :: xs, y :: ys, p, p', h, e, l, m => by
    have p := plA_cons.mp p
    have p' := plA_cons.mp p'
    rw [lkA_cons] at h
    rw [eqv_all_cons] at e
    rw [toks_all_cons, toks_all_cons]
    cases hx : PyData.eqv x y with
    | true =>
      rw [if_pos hx] at h
      rw [hx, Bool.true_and] at e
      obtain rfl := pl_eq x y p.1 p'.1 hx
      have ih := lkA_toks xs ys p.2 p'.2 h e l m
      simp only [List.cons_append, List.append_assoc]
      rw [lex_self (O := itemOrd), lex_self (O := itemOrd), lex_pre, lex_pre, ih]
    | false =>
      rw [if_neg (by rw [hx]; exact Bool.false_ne_true)] at h
      have t := lk_toks x y p.1 p'.1 h hx
      simp only [List.cons_append, List.append_assoc]
      rw [lex_self (O := itemOrd), lex_self (O := itemOrd), t, t]
end
theorem ltA_nn : ltA [] [] = false := by
  unfold ltA
  rw [keyToksAll]
  exact lex_irrefl (O := itemOrd) _
theorem ltA_nc (y : PyData) (ys : List PyData) : ltA [] (y :: ys) = true := by
  unfold ltA
  rw [toks_all_cons]
  simp only [keyToksAll]
  rw [lex_diff (O := itemOrd) (by simp)]
  simp [itemLt]
theorem ltA_cn (x : PyData) (xs : List PyData) : ltA (x :: xs) [] = false := by
  unfold ltA
  rw [toks_all_cons]
  simp only [keyToksAll]
  rw [lex_diff (O := itemOrd) (by simp)]
  simp [itemLt]
theorem ltA_same (x : PyData) (xs ys : List PyData) : ltA (x :: xs) (x :: ys) = ltA xs ys := by
  unfold ltA
  rw [toks_all_cons, toks_all_cons, lex_self (O := itemOrd), lex_pre]
theorem ltA_diff {x y : PyData} {xs ys : List PyData} (p : pl x = true) (p' : pl y = true) (h : lk x y = true) (e : PyData.eqv x y = false) : ltA (x :: xs) (y :: ys) = dataLt x y := by
  unfold ltA
  rw [toks_all_cons, toks_all_cons, lex_self (O := itemOrd), lk_toks x y p p' h e]
  rfl
end Y

namespace Y
open PySem PySem.Spec PySem.SeqAt
open AutoSeq1 (wpAny_loadPart')
open MeetsSeq MeetsSeq2 MeetsSeq3 SeqRoads2
theorem dropD {xs : List PyData} {i : Nat} (h : i < xs.length) : xs.drop i = xs.getD i .none :: xs.drop (i + 1) := by
  rw [List.drop_eq_getElem_cons h, List.getD_eq_getElem?_getD, List.getElem?_eq_getElem h]
  rfl
/-- t < u: items are compared up to the first that differ -/
theorem tlt_lk (l b : Addr) (us ws : Array Value) (n n2 : Nat) (dd d2 : Option Addr) (sl s2 : Array (Option Value)) (xs ys : List PyData) (hx : us.size = xs.length) (hy : ws.size = ys.length) (p : plA xs = true) (p' : plA ys = true) (k : lkA xs ys = true) :
    Meets (Builtin.«tuple.__lt__» ⟨[.ref l, .ref b], []⟩)
      (fun A R s => s.heap.get? l = some { cls := .type "tuple", dict := dd, data := .seq us n, slots := sl } ∧ s.heap.get? b = some { cls := .type "tuple", dict := d2, data := .seq ws n2, slots := s2 } ∧
        (∀ j (a1 : j < us.size) (a2 : j < ws.size), EqAt A.in1 s us[j] ws[j] (PyData.eqv (xs.getD j .none) (ys.getD j .none))) ∧
        (∀ j (a1 : j < us.size) (a2 : j < ws.size), lk (xs.getD j .none) (ys.getD j .none) = true → PyData.eqv (xs.getD j .none) (ys.getD j .none) = false → RcLt A.in1 s us[j] ws[j] (W.dataLt (xs.getD j .none) (ys.getD j .none))) ∧
        R (.ok (.ret (.bool (ltA xs ys)))) s) :=
  .of_wp fun prog w A R s h => by
    obtain ⟨hp, g, d, tk, os⟩ := s
    obtain ⟨hl, hb, he, hr, h⟩ := h
    have f2 := AutoSeq1.sub_tuple_tuple
    have hZ : (us.toList.zip ws.toList).length = min us.size ws.size := by simp
    wp_walk using wpAny_loadPart' hl, wpAny_loadPart' hb, wpAny_forIn_list _ (fun rest c s' => c.1 = none ∧ s' = ⟨hp, g, d, tk, os⟩ ∧ ∃ i, i ≤ min us.size ws.size ∧ rest = (us.toList.zip ws.toList).drop i ∧ lkA (xs.drop i) (ys.drop i) = true ∧
      R (.ok (.ret (.bool (ltA (xs.drop i) (ys.drop i))))) ⟨hp, g, d, tk, os⟩) _
    case turn =>
      rintro ⟨u, v⟩ rest c s' ⟨hc, rfl, i, hm, hz, hk, hR⟩
      have hlt : i < (us.toList.zip ws.toList).length := Nat.lt_of_not_le fun h' => by
        rw [List.drop_of_length_le h'] at hz
        cases hz
      have a1 : i < us.size := by omega
      have a2 : i < ws.size := by omega
      rw [List.drop_eq_getElem_cons hlt] at hz
      injection hz with huv hrest
      obtain rfl : u = us[i] := by have := congrArg Prod.fst huv; simpa using this
      obtain rfl : v = ws[i] := by have := congrArg Prod.snd huv; simpa using this
      have dx := dropD (xs := xs) (i := i) (by omega)
      have dy := dropD (xs := ys) (i := i) (by omega)
      have px : pl (xs.getD i .none) = true := plA_all.mp p _ (List.mem_of_mem_drop (i := i) (by rw [dx]; exact .head _))
      have py : pl (ys.getD i .none) = true := plA_all.mp p' _ (List.mem_of_mem_drop (i := i) (by rw [dy]; exact .head _))
      have E := he i a1 a2
      have L := hr i a1 a2
      rw [dx, dy] at hR hk
      rw [lkA_cons] at hk
      generalize xs.getD i .none = x at *
      generalize ys.getD i .none = y at *
      refine wpAny_bind (E prog w _ _ ?_)
      cases hxy : PyData.eqv x y with
      | true =>
        rw [if_pos hxy] at hk
        obtain rfl := pl_eq x y px py hxy
        rw [ltA_same] at hR
        wp_walk
        exact ⟨rfl, rfl, i + 1, by omega, hrest, hk, hR⟩
      | false =>
        rw [if_neg (by rw [hxy]; exact Bool.false_ne_true)] at hk
        rw [ltA_diff px py hk hxy] at hR
        have L2 := L hk hxy prog w
        wp_walk using L2
        exact ⟨_, rfl, by simpa using hR⟩
    case fin =>
      rintro ⟨c1, c2⟩ s' ⟨hc, rfl, i, hm, hz, _, hR⟩
      simp only at hc
      subst hc
      have hge : min us.size ws.size ≤ i := Nat.le_of_not_lt fun h' => by
        rw [List.drop_eq_getElem_cons (by omega)] at hz
        cases hz
      wp_walk
      refine ⟨_, rfl, ?_⟩
      have fin : ltA (xs.drop i) (ys.drop i) = decide (us.size < ws.size) := by
        rcases Nat.lt_or_ge i xs.length with q | q
        · rw [show ys.drop i = [] from List.drop_of_length_le (by omega), List.drop_eq_getElem_cons q, ltA_cn]
          exact (decide_eq_false (by omega)).symm
        · rw [show xs.drop i = [] from List.drop_of_length_le q]
          rcases Nat.lt_or_ge i ys.length with q2 | q2
          · rw [List.drop_eq_getElem_cons q2, ltA_nc]
            exact (decide_eq_true (by omega)).symm
          · rw [show ys.drop i = [] from List.drop_of_length_le q2, ltA_nn]
            exact (decide_eq_false (by omega)).symm
      rw [fin] at hR
      simpa [Builtin.Tuple.tupleCompareSizes] using hR
    case h =>
      exact ⟨rfl, rfl, 0, Nat.zero_le _, rfl, k, h⟩
section
variable {A : Around} {s : Shared}
theorem rt_tups {l b : Addr} {us ws : Array Value} {xs ys : List PyData} (hl : s.heap.IsTuple l us) (hb : s.heap.IsTuple b ws) (hu : A.units < cLine) (hx : us.size = xs.length) (hy : ws.size = ys.length) (p : plA xs = true) (p' : plA ys = true) (k : lkA xs ys = true)
    (he : ∀ j (a1 : j < us.size) (a2 : j < ws.size), EqAt A.in1 s us[j] ws[j] (PyData.eqv (xs.getD j .none) (ys.getD j .none)))
    (hr : ∀ j (a1 : j < us.size) (a2 : j < ws.size), lk (xs.getD j .none) (ys.getD j .none) = true → PyData.eqv (xs.getD j .none) (ys.getD j .none) = false → RcLt A.in1 s us[j] ws[j] (W.dataLt (xs.getD j .none) (ys.getD j .none))) :
    RcLt A s (.ref l) (.ref b) (ltA xs ys) := fun prog w E Q h => by
  obtain ⟨⟨c1, d1, t1, z1⟩, ho1, hc1, n1, hd1⟩ := id hl
  obtain ⟨⟨c2, d2, t2, z2⟩, ho2, hc2, n2, hd2⟩ := id hb
  simp only at hc1 hd1 hc2 hd2
  subst hc1 hd1 hc2 hd2
  refine richCompare_meets_room (op := .Lt) ⟨_, ho1, rfl⟩ ⟨_, ho2, rfl⟩ F.slot_tuple_lt F.entry_tuple_lt (F.args_tuple_lt_2 _ _) (tlt_lk l b us ws n1 n2 d1 d2 z1 z2 xs ys hx hy p p' k) ⟨ho1, ho2, he, hr, ?_⟩ hu
  exact (⟨(fun z => nomatch z), h⟩ : Value.bool (ltA xs ys) ≠ Value.notImplemented ∧ Q (.bool (ltA xs ys)) s)
theorem eq_at {xs ys : List PyData} {A : Around} {us ws : Array Value} {as bs : List Addr} (ra : ReadsAll s.heap us.toList xs as) (rb : ReadsAll s.heap ws.toList ys bs) (p : plA xs = true) (p' : plA ys = true) (hu : A.units + min (PyData.depthAll xs) (PyData.depthAll ys) < cLine) :
    ∀ j (a1 : j < us.size) (a2 : j < ws.size), EqAt A s us[j] ws[j] (PyData.eqv (xs.getD j .none) (ys.getD j .none)) := fun j a1 a2 => by
  have := eqAt_readsAll xs ys A s us.toList ws.toList _ _ ra rb (plA_lay xs p) (plA_lay ys p') hu j (by simpa using a1) (by simpa using a2)
  simpa [pairEq] using this
mutual
theorem rt_lk : ∀ (x y : PyData) (A : Around) (s : Shared) (a b : Value) (as bs : List Addr), Reads s.heap a x as → Reads s.heap b y bs → pl x = true → pl y = true → lk x y = true → A.units + min x.depth y.depth < cLine → RcLt A s a b (W.dataLt x y)
  | .int i, y, A, s, a, b, as, bs, ra, rb, p, p', k, hu => by
    cases y with
    | int j =>
      cases ra
      cases rb
      intro prog w E Q hq
      rw [W.dataLt_int] at hq
      exact P.lt_int hq
    | _ => simp [lk] at k
  | .str i, y, A, s, a, b, as, bs, ra, rb, p, p', k, hu => by
    cases y with
    | str j =>
      cases ra
      cases rb
      intro prog w E Q hq
      rw [W.dataLt_str] at hq
      exact P.lt_str hq
    | _ => simp [lk] at k
  | .tuple xs, y, A, s, a, b, as, bs, ra, rb, p, p', k, hu => by
    cases y with
    | tuple ys =>
      rw [pl] at p p'
      rw [lk] at k
      rw [ltA_tup]
      cases ra with
      | @tuple l o us n _ as₁ h1 h2 h3 h4 =>
        cases rb with
        | @tuple l' o' ws n' _ bs₁ k1 k2 k3 k4 =>
          have m1 : us.size = xs.length := by simpa using ReadsAll.length _ _ _ h4
          have m2 : ws.size = ys.length := by simpa using ReadsAll.length _ _ _ k4
          refine rt_tups ⟨_, h1, h2, _, h3⟩ ⟨_, k1, k2, _, k3⟩ (room_here hu) m1 m2 p p' k (eq_at h4 k4 p p' (room_in hu)) fun j a1 a2 kj ej => ?_
          have := rtA_lk xs ys A.in1 s us.toList ws.toList _ _ h4 k4 p p' (room_in hu) j (by simpa using a1) (by simpa using a2) kj
          simpa using this
    | _ => simp [lk] at k
  | .none, _, _, _, _, _, _, _, _, _, p, _, _, _ => by simp [pl] at p
  | .bool _, _, _, _, _, _, _, _, _, _, p, _, _, _ => by simp [pl] at p
  | .list _, _, _, _, _, _, _, _, _, _, p, _, _, _ => by simp [pl] at p
  | .dict _, _, _, _, _, _, _, _, _, _, p, _, _, _ => by simp [pl] at p
theorem rtA_lk : ∀ (xs ys : List PyData) (A : Around) (s : Shared) (vs ws : List Value) (as bs : List Addr), ReadsAll s.heap vs xs as → ReadsAll s.heap ws ys bs → plA xs = true → plA ys = true → A.units + min (PyData.depthAll xs) (PyData.depthAll ys) < cLine →
    ∀ j (h1 : j < vs.length) (h2 : j < ws.length), lk (xs.getD j .none) (ys.getD j .none) = true → RcLt A s vs[j] ws[j] (W.dataLt (xs.getD j .none) (ys.getD j .none))
  | [], _, _, _, _, _, _, _, ra, _, _, _, _, j, h1, _, _ => by cases ra; exact absurd h1 (Nat.not_lt_zero _)
  | _ :: _, [], _, _, _, _, _, _, _, rb, _, _, _, j, _, h2, _ => by cases rb; exact absurd h2 (Nat.not_lt_zero _)
  | x :: xs, y :: ys, A, s, _, _, _, _, ra, rb, p, p', hu, j, h1, h2, k => by
    have p := plA_cons.mp p
    have p' := plA_cons.mp p'
    cases ra with
    | cons r rs =>
      cases rb with
      | cons q qs' =>
        cases j with
        | zero => exact rt_lk x y A s _ _ _ _ r q p.1 p'.1 k (room_head hu)
        | succ j => exact rtA_lk xs ys A s _ _ _ _ rs qs' p.2 p'.2 (room_tail hu) j (Nat.lt_of_succ_lt_succ h1) (Nat.lt_of_succ_lt_succ h2) k
end
end
end Y

namespace Y
open PySem PySem.Spec PySem.W PySem.Calls PyProof.Rows
/-- all can be compared with all -/
structure AllLk (ds : List PyData) : Prop where
  pl : ∀ d ∈ ds, pl d = true
  lk : ∀ d ∈ ds, ∀ d' ∈ ds, lk d d' = true
section
variable {prog : Program} {w : World} {A : Around} {E : Value → Shared → Prop} {s : Shared}
theorem key_lk {h : Heap} {ds : List PyData} (hal : AllLk ds) {v : Value} {d : PyData} {as : List Addr} (hd : d ∈ ds) (r : Reads h v d as) : (dataKind h ds).keyOf v = some (keyToks d) := by
  have q : ∃ d, d ∈ ds ∧ ∃ as, Reads h v d as := ⟨d, hd, as, r⟩
  have e : (dataKind h ds).keyOf v = some (keyToks q.choose) := by
    show (open Classical in if z : ∃ d, d ∈ ds ∧ ∃ as, Reads h v d as then some (keyToks z.choose) else none) = _
    exact dif_pos q
  obtain ⟨m1, bs, m2⟩ := q.choose_spec
  rw [e, rd_uniq _ _ _ _ _ (hal.pl _ m1) (hal.pl _ hd) m2 r]
theorem sortVals_lk {β : Type} {h' : Heap} {R : Value → β → Prop} {enc : β → PyData} {vs : List Value} {bs : List β} (e : EachIs R vs bs) (er : EachIs (fun v b => ∃ as, Reads h' v (enc b) as) vs bs) (hal : AllLk (bs.map enc)) :
    EachIs R (sortVals (dataKind h' (bs.map enc)) false vs vs) (bs.mergeSort (dataLe false enc)) := by
  have ek : EachIs (fun v d => (dataKind h' (bs.map enc)).keyOf v = some (keyToks d)) vs (bs.map enc) := (each_mem (each_map (R := fun v d => ∃ as, Reads h' v d as) enc er)).mono fun _ _ q => by
    obtain ⟨⟨as, r⟩, hd⟩ := q
    exact key_lk hal hd r
  exact sortVals_each (κ := dataKind h' (bs.map enc)) (fun b => keyToks (enc b)) e (each_of_map enc ek)
/-- two tuples, compared as keys of one type -/
theorem one_lk {xs ys : List PyData} {a b : Value} {as bs : List Addr} {Q : Bool → Shared → Prop} (ra : Reads s.heap a (.tuple xs) as) (rb : Reads s.heap b (.tuple ys) bs)
    (p : pl (.tuple xs) = true) (p' : pl (.tuple ys) = true) (k : lk (.tuple xs) (.tuple ys) = true) (hu : A.units + min (PyData.tuple xs).depth (PyData.tuple ys).depth < cLine) (hq : Q (dataLt (.tuple xs) (.tuple ys)) s) :
    wpAny (model prog w) A (oneLt' true a b) Q E s := by
  rw [pl] at p p'
  rw [lk] at k
  rw [ltA_tup] at hq
  cases ra with
  | @tuple l o us n _ as₁ h1 h2 h3 h4 =>
    cases rb with
    | @tuple l' o' ws n' _ bs₁ k1 k2 k3 k4 =>
      have m1 : us.size = xs.length := by simpa using SeqAt.ReadsAll.length _ _ _ h4
      have m2 : ws.size = ys.length := by simpa using SeqAt.ReadsAll.length _ _ _ k4
      rw [oneLt'_eq]
      simp only [if_true]
      obtain ⟨c1, d1, t1, z1⟩ := o
      obtain ⟨c2, d2, t2, z2⟩ := o'
      simp only at h2 h3 k2 k3
      subst h2 h3 k2 k3
      refine wpAny_bind (wpAny_cRoomFor (SeqAt.room_here hu) (wpAny_bind (wpAny_callSpecialIfBound?_slot (T := "tuple") ⟨_, h1, rfl⟩ F.slot_tuple_lt ?_)))
      refine call_meets F.slot_tuple_lt ⟨_, h1, rfl⟩ F.entry_tuple_lt (F.args_tuple_lt_2 _ _) (tlt_lk l l' us ws n n' d1 d2 z1 z2 xs ys m1 m2 p p' k) ⟨h1, k1, eq_at h4 k4 p p' (SeqAt.room_in hu), fun j a1 a2 kj ej => ?_, ?_⟩
      · have := rtA_lk xs ys A.in1 s us.toList ws.toList _ _ h4 k4 p p' (SeqAt.room_in hu) j (by simpa using a1) (by simpa using a2) kj
        simpa using this
      · exact wpAny_truthy_bool hq
/-- tuples, an empty one ahead -/
theorem sortsEmpL {vs : List Value} {ds : List PyData} (e : EachIs (fun v d => ∃ as, Reads s.heap v d as) vs (.tuple [] :: ds)) (hal : AllLk (.tuple [] :: ds)) (ht : ∀ d ∈ ds, ∃ xs, d = .tuple xs)
    (hu : ∀ d, d ∈ (PyData.tuple [] :: ds) → A.units + d.depth < cLine) : SortsAt prog w A s (dataKind s.heap (.tuple [] :: ds)) vs := by
  have tup : ∀ d ∈ (PyData.tuple [] :: ds), ∃ xs, d = .tuple xs := fun d hd => by
    rcases List.mem_cons.mp hd with rfl | hd
    · exact ⟨_, rfl⟩
    · exact ht d hd
  refine ⟨fun v hv => ?_, oneType', ?_, fun _ E Q hq => ?_⟩
  · obtain ⟨d, hd, as, r⟩ := e.left v hv
    exact ⟨_, key_lk hal hd r⟩
  · intro E x y a b Q ha hb hq
    obtain ⟨d, as, hd, ra, rfl⟩ := dataKind_inv ha
    obtain ⟨d', as', hd', rb, rfl⟩ := dataKind_inv hb
    have kk := hal.lk _ hd _ hd'
    have p1 := hal.pl _ hd
    have p2 := hal.pl _ hd'
    obtain ⟨xs, rfl⟩ := tup d hd
    obtain ⟨ys, rfl⟩ := tup d' hd'
    rw [keyLt'_oneType]
    exact one_lk ra rb p1 p2 kk (Nat.lt_of_le_of_lt (Nat.add_le_add_left (Nat.min_le_left _ _) _) (hu _ hd)) hq
  · have looks : ∀ v ∈ vs, Looks (model prog w) s.heap (typeOf v) (.type "tuple") := fun v hv => by
      obtain ⟨d, hd, as, r⟩ := e.left v hv
      obtain ⟨xs, rfl⟩ := tup d hd
      exact looks_reads r
    cases e with
    | @cons v₁ _ r _ h1 h2 =>
      obtain ⟨as, h1⟩ := h1
      refine kind_tups rfl ?_ (fun v hv Q' hQ' => ?_) looks hq
      · cases h1 with
        | @tuple a o xs n _ _ g1 g2 g3 g4 =>
          rw [kas_first_eq]
          refine wpAny_bind (Looks.here (show Looks _ s.heap (typeOf (.ref a)) o.cls from (Looks.ld g1).andThen .now) ?_)
          rw [g2, if_neg (by first | decide | simp)]
          refine wpAny_bind (listItems_at g1 g3 (wpAny_pure ⟨?_, rfl⟩))
          have z : xs.toList = [] := by
            cases q : xs.toList with
            | nil => rfl
            | cons f fr => rw [q] at g4; cases g4
          rw [← Array.getElem?_toList, z]
          rfl
      · obtain ⟨d, hd, as, r⟩ := h2.left v hv
        obtain ⟨zs, rfl⟩ := ht d hd
        cases r with
        | @tuple a o xs n _ _ g1 g2 g3 g4 =>
          rw [kas_first_eq]
          refine wpAny_bind (Looks.here (show Looks _ s.heap (typeOf (.ref a)) o.cls from (Looks.ld g1).andThen .now) ?_)
          rw [g2, if_neg (by first | decide | simp)]
          exact wpAny_bind (listItems_at g1 g3 (wpAny_pure (hQ' _)))
end
end Y
namespace Y
open PySem PySem.Spec PyProof.Rows L2 RT RZ
structure SrtLk (xs : List T) : Prop where
  na : ∀ x ∈ xs, T.noA x = true
  dp : ∀ x ∈ xs, (T.pd x).depth ≤ 60
  al : AllLk (xs.map T.pd)
  sk : ∃ r, xs = .tup [] :: r ∧ ∀ x ∈ r, ∃ l, x = .tup l
  ln : xs.length ≤ 16000000
/-- sorted(xs), an empty tuple ahead -/
def PSortL : PSp := fun l Φ => ∃ xs, (l = [.lst xs] ∨ l = [.tup xs]) ∧ SrtLk xs ∧ Φ (.lst (xs.mergeSort leT)) true
section
variable {X : Cx} {W : Wld}
theorem cq_sortedL (hu : X.A.units + 65 < cLine) : CallQ X W (.builtin "sorted") PSortL := by
  intro B F0 ρ σ F H l vs Φ Q R tv hp k
  obtain ⟨xs, hl, ok, hp⟩ := hp
  -- what stands there
  have base : ∀ (a : Addr) (ys : List V), TvL X.K F xs ys → (SqL X.K H a ys ∨ SqT X.K H a ys) → vs = [.ref a] → rSC X (.builtin "sorted") vs H Q := by
    intro a ys ty sq ev
    subst ev
    obtain ⟨ps, e1, e2, e3⟩ := tvl_zip ty
    intro pins s σ' us I rs
    have hna : ∀ p ∈ ps, T.noA p.2 = true := fun p hp => ok.na p.2 (by rw [← e1]; exact List.mem_map.mpr ⟨p, hp, rfl⟩)
    have hal : AllLk (ps.map fun p => T.pd p.2) := by
      have := ok.al
      rw [← e1, List.map_map] at this
      exact this
    have hlen : ps.length = xs.length := by rw [← e1, List.length_map]
    have hL : ps.length ≤ sizeLine := by rw [hlen, sizeLine_eq]; have := ok.ln; omega
    have fin : ∀ (its out : List Value), out.length = ps.length → PySem.W.EachIs (fun u (p : V × T) => RelV p.1 u) out (ps.mergeSort (PySem.W.dataLe false fun p => T.pd p.2)) →
        EP X pins σ' Q (.ref (s.heap.objs.size + 1)) { s with heap := PyProof.Rows.sortedAll s.heap its (List.toArray out) } := by
      intro its out ol oe
      obtain ⟨ep, he'⟩ := PyProof.Rows.sortedAll_at s.heap its (List.toArray out)
      have pm : (ps.mergeSort (PySem.W.dataLe false fun p => T.pd p.2)).Perm ps := List.mergeSort_perm _ _
      have hn := I.hok.fresh (Nat.le_succ s.heap.objs.size)
      have hv := vals_each oe
      have tl := tvl_pairs (K := X.K) (F := F) (ps.mergeSort (PySem.W.dataLe false fun p => T.pd p.2)) fun p hp => e3 p (pm.mem_iff.mp hp)
      have em : (ps.mergeSort (PySem.W.dataLe false fun p => T.pd p.2)).map (·.2) = xs.mergeSort leT := by
        rw [← e1]
        exact List.map_mergeSort fun a _ b _ => rfl
      rw [em] at tl
      obtain ⟨R2, vr⟩ := R.newL hn tl
      refine ⟨.ref _, upd H (s.heap.objs.size + 1) (.lst ((ps.mergeSort (PySem.W.dataLe false fun p => T.pd p.2)).map (·.1))), I.laid (t' := s.toks) (fun _ _ => PyProof.Rows.sortedAll_old) (Nat.le_succ _) ⟨?_, out, ep, hv, he'⟩, rfl, k _ true _ F _ R2 (Le.refl _) vr hp⟩
      rw [List.length_map, pm.length_eq]
      exact hL
    have sorts : ∀ (its : List Value), Vals ys its → PySem.W.SortsAt X.prog X.w X.A.in1.in1 { s with heap := PySem.W.sortingHeap (PySem.W.copyHeap s.heap its) (s.heap.objs.size + 1) its } (PySem.W.dataKind (PySem.W.sortingHeap (PySem.W.copyHeap s.heap its) (s.heap.objs.size + 1) its) (ps.map fun p => T.pd p.2)) its := by
      intro its rv
      have er := each_reads I R.fh e3 hna (by rw [e2]; exact rv)
      have er' : PySem.W.EachIs (fun v (p : V × T) => ∃ as, Reads (PySem.W.sortingHeap (PySem.W.copyHeap s.heap its) (s.heap.objs.size + 1) its) v (T.pd p.2) as) its ps := er.mono fun _ _ ⟨as, r⟩ => ⟨as, PyProof.Rows.Reads.keeps (fun _ _ => PySem.W.sorting_copy_old) r⟩
      have em := PySem.W.each_map (R := fun v d => ∃ as, Reads (PySem.W.sortingHeap (PySem.W.copyHeap s.heap its) (s.heap.objs.size + 1) its) v d as) (fun p : V × T => T.pd p.2) er'
      have un : ∀ d, d ∈ (ps.map fun p => T.pd p.2) → X.A.in1.in1.units + d.depth < cLine := by
        intro d hd
        obtain ⟨p, hp, rfl⟩ := List.mem_map.mp hd
        have q := ok.dp p.2 (by rw [← e1]; exact List.mem_map.mpr ⟨p, hp, rfl⟩)
        have q2 : X.A.in1.in1.units = X.A.units + 2 := rfl
        rw [q2]
        omega
      obtain ⟨r, e0, tr⟩ := ok.sk
      have eq : (ps.map fun p => T.pd p.2) = .tuple [] :: r.map T.pd := by
        have : (ps.map (·.2)).map T.pd = .tuple [] :: r.map T.pd := by rw [e1, e0]; rfl
        rw [List.map_map] at this
        exact this
      rw [eq] at em hal un ⊢
      refine sortsEmpL (s := { s with heap := PySem.W.sortingHeap (PySem.W.copyHeap s.heap its) (s.heap.objs.size + 1) its }) em hal (fun d hd => ?_) un
      obtain ⟨t, ht, rfl⟩ := List.mem_map.mp hd
      obtain ⟨l, rfl⟩ := tr t ht
      exact ⟨_, rfl⟩
    have data : ∀ (its : List Value), Vals ys its → PySem.W.EachIs (fun u (p : V × T) => RelV p.1 u) (PySem.W.sortVals (PySem.W.dataKind (PySem.W.sortingHeap (PySem.W.copyHeap s.heap its) (s.heap.objs.size + 1) its) (ps.map fun p => T.pd p.2)) false its its) (ps.mergeSort (PySem.W.dataLe false fun p => T.pd p.2)) := by
      intro its rv
      have er := each_reads I R.fh e3 hna (by rw [e2]; exact rv)
      have er' : PySem.W.EachIs (fun v (p : V × T) => ∃ as, Reads (PySem.W.sortingHeap (PySem.W.copyHeap s.heap its) (s.heap.objs.size + 1) its) v (T.pd p.2) as) its ps := er.mono fun _ _ ⟨as, r⟩ => ⟨as, PyProof.Rows.Reads.keeps (fun _ _ => PySem.W.sorting_copy_old) r⟩
      exact sortVals_lk (each_vals (by rw [e2]; exact rv)) er' hal
    have len : ∀ (its : List Value), Vals ys its → its.length = ps.length := fun its rv => by
      rw [← rv.length, ← e2, List.length_map]
    rcases sq with sq | sq
    · obtain ⟨its, rv, hl, hz⟩ := I.list sq
      rw [Vals.ref1 rs]
      refine PySem.W.sorted_vals hl.isList (sorts its rv) (by rw [len its rv]; exact hL) (fin its _ ?_ (data its rv))
      rw [PySem.W.sortVals_length false rfl]
      exact len its rv
    · obtain ⟨its, rv, hl, hz⟩ := I.tuple sq
      rw [Vals.ref1 rs]
      refine sorted_tup hl (sorts its rv) (by rw [len its rv]; exact hL) (fin its _ ?_ (data its rv))
      rw [PySem.W.sortVals_length false rfl]
      exact len its rv
  rcases hl with rfl | rfl
  · obtain ⟨v, rfl, a, ys, rfl, h2, h3⟩ := tvl1 tv
    exact base a ys h3 (.inl (.of (R.fh _ _ h2))) rfl
  · obtain ⟨v, rfl, a, ys, rfl, h2, h3⟩ := tvl1 tv
    exact base a ys h3 (.inr (sqt_le R.fh h2)) rfl
end
/-! ### x < y -/
def ltT (x y : T) : Bool := PySem.W.dataLt (T.pd x) (T.pd y)
def PLtL (x y : T) (Φ : T → Bool → Prop) : Prop := T.noA x = true ∧ T.noA y = true ∧ pl (T.pd x) = true ∧ pl (T.pd y) = true ∧ lk (T.pd x) (T.pd y) = true ∧ (T.pd x).depth ≤ 60 ∧ Φ (.bl (ltT x y)) false
theorem oq_ltL {X : Cx} {W : Wld} (hu : X.A.units + 65 < cLine) : OpQ X W (compareOp .Lt) PLtL := by
  intro B F0 ρ σ F H x y v u Φ Q R hx hy hp k
  obtain ⟨n1, n2, p1, p2, kk, dp, hp⟩ := hp
  intro pins s σ' a b I r1 r2
  obtain ⟨as, ra⟩ := Dp.reads I _ _ _ (Tv.dp _ _ n1 (Tv.le R.fh _ _ hx)) r1
  obtain ⟨bs, rb⟩ := Dp.reads I _ _ _ (Tv.dp _ _ n2 (Tv.le R.fh _ _ hy)) r2
  exact rt_lk _ _ _ _ _ _ _ _ ra rb p1 p2 kk (by omega) _ _ _ _ ⟨.bl _, H, I, rfl, k (.bl (ltT x y)) false _ F H R (Le.refl _) VR.bl hp⟩
end Y

namespace Y
open PySem PySem.Spec PyProof.Rows L2
/-! ### dicts: keys ints and texts -/
def T.key : T → Option Key
  | .int i => some (.inl i)
  | .str s => some (.inr s)
  | _ => none
theorem key_i {i : Int} : T.key (.int i) = some (.inl i) := rfl
theorem key_s {s : Str} : T.key (.str s) = some (.inr s) := rfl
def keyT : Key → T
  | .inl i => .int i
  | .inr s => .str s
def dget {α : Type} : List Key → List α → Key → Option α
  | k :: ks, v :: vs, q => if k = q then some v else dget ks vs q
  | _, _, _ => none
instance keyMem (q : Key) (ks : List Key) : Decidable (q ∈ ks) := decidable_of_iff (ks.any (fun k => decide (k = q)) = true) (by simp [List.any_eq_true])
def dputK (ks : List Key) (q : Key) : List Key := if q ∈ ks then ks else ks ++ [q]
def dmapV {α : Type} : List Key → List α → Key → α → List α
  | k :: ks, v :: vs, q, y => (if k = q then y else v) :: dmapV ks vs q y
  | _, _, _, _ => []
def dputV {α : Type} (ks : List Key) (vs : List α) (q : Key) (y : α) : List α := if q ∈ ks then dmapV ks vs q y else vs ++ [y]
theorem valV_zip (q : Key) : ∀ (ks : List Key) (xs : List V), valV (ks.zip xs) q = dget ks xs q
  | [], _ => rfl
  | _ :: _, [] => rfl
  | k :: ks, x :: xs => by
    rw [List.zip_cons_cons, dget]
    by_cases e : k = q
    · rw [if_pos e]; exact valV_pos (p := (k, x)) e
    · rw [if_neg e]; exact (valV_neg (p := (k, x)) e).trans (valV_zip q ks xs)
theorem any_zip (q : Key) : ∀ (ks : List Key) (xs : List V), ks.length = xs.length → ((ks.zip xs).any fun kv => decide (kv.1 = q)) = decide (q ∈ ks)
  | [], _, _ => rfl
  | _ :: _, [], h => by simp at h
  | k :: ks, x :: xs, h => by
    rw [List.zip_cons_cons, List.any_cons, any_zip q ks xs (by simpa using h)]
    by_cases e : k = q
    · simp [e]
    · have e' : ¬ q = k := fun z => e z.symm
      simp [e, e']
theorem map_zip (q : Key) (y : V) : ∀ (ks : List Key) (xs : List V), (ks.zip xs).map (fun kv => if kv.1 = q then (kv.1, y) else kv) = ks.zip (dmapV ks xs q y)
  | [], _ => rfl
  | _ :: _, [] => rfl
  | k :: ks, x :: xs => by
    rw [List.zip_cons_cons, List.map_cons, map_zip q y ks xs, dmapV, List.zip_cons_cons]
    by_cases e : k = q
    · rw [if_pos e, if_pos e]
    · rw [if_neg e, if_neg e]
theorem dmapV_length {α : Type} (q : Key) (y : α) : ∀ (ks : List Key) (vs : List α), ks.length = vs.length → (dmapV ks vs q y).length = vs.length
  | [], [], _ => rfl
  | _ :: _, [], h => by simp at h
  | [], _ :: _, h => by simp at h
  | k :: ks, v :: vs, h => by rw [dmapV, List.length_cons, List.length_cons, dmapV_length q y ks vs (by simpa using h)]
theorem dput_length {α : Type} {ks : List Key} {vs : List α} (q : Key) (y : α) (h : ks.length = vs.length) : (dputK ks q).length = (dputV ks vs q y).length := by
  unfold dputK dputV
  split
  · rw [dmapV_length q y ks vs h, h]
  · rw [List.length_append, List.length_append, h]; rfl
theorem dputK_le (ks : List Key) (q : Key) : (dputK ks q).length ≤ ks.length + 1 := by
  unfold dputK
  split
  · omega
  · simp
theorem putK_zip {ks : List Key} {xs : List V} (h : ks.length = xs.length) (q : Key) (y : V) : putK (ks.zip xs) q y = (dputK ks q).zip (dputV ks xs q y) := by
  unfold putK dputK dputV
  rw [any_zip q ks xs h]
  by_cases e : q ∈ ks
  · rw [if_pos (by simpa using e), if_pos e, if_pos e, map_zip]
  · rw [if_neg (by simpa using e), if_neg e, if_neg e, List.zip_append h]; rfl
theorem dget_mem {α : Type} (q : Key) : ∀ (ks : List Key) (vs : List α), ks.length = vs.length → (dget ks vs q).isSome = decide (q ∈ ks)
  | [], _, _ => by simp [dget]
  | _ :: _, [], h => by simp at h
  | k :: ks, v :: vs, h => by
    rw [dget]
    by_cases e : k = q
    · simp [e]
    · have e' : ¬ q = k := fun z => e z.symm
      rw [if_neg e, dget_mem q ks vs (by simpa using h)]
      simp [e']
section
variable {K : PySem.W.Frag} {F : Hp}
theorem key_v {t : T} {v : V} {k : Key} (e : t.key = some k) (h : Tv K F t v) : v = kV k := by
  cases t <;> cases e
  · exact h
  · exact h
theorem dget_v (q : Key) : ∀ {ks : List Key} {vs : List T} {xs : List V}, TvL K F vs xs → ∀ {t : T}, dget ks vs q = some t → ∃ x, dget ks xs q = some x ∧ Tv K F t x
  | [], _, _, _, _, e => by cases e
  | _ :: _, [], _, _, _, e => by cases e
  | k :: ks, v :: vs, _, h, t, e => by
    obtain ⟨x, r, rfl, h1, h2⟩ := h
    rw [dget] at e ⊢
    by_cases z : k = q
    · rw [if_pos z] at e ⊢
      exact ⟨x, rfl, Option.some.inj e ▸ h1⟩
    · rw [if_neg z] at e ⊢
      exact dget_v q h2 e
theorem dget_n {α β : Type} (q : Key) : ∀ {ks : List Key} {vs : List α} {xs : List β}, vs.length = xs.length → (dget ks vs q).isSome = (dget ks xs q).isSome
  | [], _, _, _ => rfl
  | _ :: _, [], [], _ => rfl
  | _ :: _, [], _ :: _, h => by simp at h
  | _ :: _, _ :: _, [], h => by simp at h
  | k :: ks, v :: vs, x :: xs, h => by
    rw [dget, dget]
    by_cases z : k = q
    · rw [if_pos z, if_pos z]; rfl
    · rw [if_neg z, if_neg z]; exact dget_n q (by simpa using h)
theorem dmapV_v (q : Key) {y : T} {v : V} (hy : Tv K F y v) : ∀ {ks : List Key} {vs : List T} {xs : List V}, TvL K F vs xs → TvL K F (dmapV ks vs q y) (dmapV ks xs q v)
  | [], _, _, _ => rfl
  | _ :: _, [], xs, h => by
    rw [show xs = [] from h]
    rfl
  | k :: ks, u :: vs, _, h => by
    obtain ⟨x, r, rfl, h1, h2⟩ := h
    rw [dmapV, dmapV]
    refine ⟨_, _, rfl, ?_, dmapV_v q hy h2⟩
    by_cases z : k = q
    · rw [if_pos z, if_pos z]; exact hy
    · rw [if_neg z, if_neg z]; exact h1
theorem dputV_v (q : Key) {ks : List Key} {vs : List T} {xs : List V} {y : T} {v : V} (h : TvL K F vs xs) (hy : Tv K F y v) : TvL K F (dputV ks vs q y) (dputV ks xs q v) := by
  unfold dputV
  split
  · exact dmapV_v q hy h
  · exact TvL.app h (TvL.one hy)
end
section
variable {X : Cx} {W : Wld} {a b : Expr} {pos : Pos} {pr : PR'} {pa pb : PE'}
/-! #### d[k] -/
def PDix (x y : T) (Φ : T → Prop) : Prop := match x, y with
  | .dct ks vs, .int i => ∃ t, dget ks vs (.inl i) = some t ∧ Φ t
  | .dct ks vs, .str s => ∃ t, dget ks vs (.inr s) = some t ∧ Φ t
  | _, _ => False
theorem dix_i {ks : List Key} {vs : List T} {i : Int} {Φ : T → Prop} : PDix (.dct ks vs) (.int i) Φ = ∃ t, dget ks vs (.inl i) = some t ∧ Φ t := rfl
theorem dix_s {ks : List Key} {vs : List T} {i : Str} {Φ : T → Prop} : PDix (.dct ks vs) (.str i) Φ = ∃ t, dget ks vs (.inr i) = some t ∧ Φ t := rfl
theorem PDix.out {x y : T} {Φ : T → Prop} (h : PDix x y Φ) : ∃ ks vs k t, x = .dct ks vs ∧ y.key = some k ∧ dget ks vs k = some t ∧ Φ t := by
  unfold PDix at h
  split at h
  · obtain ⟨t, h1, h2⟩ := h
    exact ⟨_, _, _, t, rfl, rfl, h1, h2⟩
  · obtain ⟨t, h1, h2⟩ := h
    exact ⟨_, _, _, t, rfl, rfl, h1, h2⟩
  · exact h.elim
def pDix (pr : PR') (pb : PE') : PE' := fun ρ Φ => pr ρ fun r ρ1 => pb ρ1 fun y _ ρ2 => ∃ t, r.look ρ2 = some t ∧ PDix t y fun τ => Φ τ false ρ2
theorem qe_dix (hu : X.A.units + 65 < cLine) (ha : QR X W a pr) (hb : QE X W b pb) (hs : NoSl b) : QE X W (.Subscript a b pos) (pDix pr pb) := by
  obtain ⟨t, h1, h2⟩ := ha.ex
  obtain ⟨u, h3, h4⟩ := hb.ex
  refine ⟨_, pe_dget (by omega) h1 h3 hs, fun B F0 ρ σ F H Φ Q R hp k => ?_⟩
  refine h2 B F0 ρ σ F H _ _ R hp fun r ρ1 v F1 H1 R1 le1 rd q1 => ?_
  refine h4.fz R1 q1 fun y ρ2 w F2 H2 R2 le2 tv2 q2 => ?_
  obtain ⟨x, e1, q2⟩ := q2
  have rv := R2.rv (rd.le le2) e1
  obtain ⟨ks, vs, kk, τ, rfl, e2, e3, q2⟩ := q2.out
  obtain ⟨p, xs, rfl, h5, h0, h6⟩ := rv
  obtain ⟨z, e4, e5⟩ := dget_v kk h6 e3
  obtain rfl := key_v e2 tv2
  refine ⟨p, z, rfl, ?_, k _ false ρ2 _ F2 H2 R2 (le1.trans le2) (VR.fz e5) q2⟩
  have := DGet.k (k := kk) h5
  rw [valV_zip, e4] at this
  exact this
/-! #### k in d -/
def PDin (neg : Bool) (x y : T) (Φ : T → Bool → Prop) : Prop := match x, y with
  | .int i, .dct ks _ => Φ (.bl (if neg then !(decide ((Sum.inl i : Key) ∈ ks)) else decide ((Sum.inl i : Key) ∈ ks))) false
  | .str i, .dct ks _ => Φ (.bl (if neg then !(decide ((Sum.inr i : Key) ∈ ks)) else decide ((Sum.inr i : Key) ∈ ks))) false
  | _, _ => False
theorem din_i {neg : Bool} {ks : List Key} {vs : List T} {i : Int} {Φ : T → Bool → Prop} : PDin neg (.int i) (.dct ks vs) Φ = Φ (.bl (if neg then !(decide ((Sum.inl i : Key) ∈ ks)) else decide ((Sum.inl i : Key) ∈ ks))) false := rfl
theorem din_s {neg : Bool} {ks : List Key} {vs : List T} {i : Str} {Φ : T → Bool → Prop} : PDin neg (.str i) (.dct ks vs) Φ = Φ (.bl (if neg then !(decide ((Sum.inr i : Key) ∈ ks)) else decide ((Sum.inr i : Key) ∈ ks))) false := rfl
theorem PDin.out {neg : Bool} {x y : T} {Φ : T → Bool → Prop} (h : PDin neg x y Φ) : ∃ ks vs k, y = .dct ks vs ∧ x.key = some k ∧ Φ (.bl (if neg then !(decide (k ∈ ks)) else decide (k ∈ ks))) false := by
  unfold PDin at h
  split at h
  · exact ⟨_, _, _, rfl, rfl, h⟩
  · exact ⟨_, _, _, rfl, rfl, h⟩
  · exact h.elim
theorem din_core {B F0 F H : Hp} {ρ : PS'} {σ : L2.St} {y : T} {u : V} {ks : List Key} {vs : List T} {kk : Key} (R : Rep X.K W B F0 ρ σ F H) (hy : Tv X.K F (.dct ks vs) u) : ∃ a o, u = .ref a ∧ DGet H a (kV kk) o ∧ o.isSome = decide (kk ∈ ks) := by
  obtain ⟨p, xs, rfl, h5, h0, h6⟩ := hy
  refine ⟨p, _, rfl, DGet.k (R.fh _ _ h5), ?_⟩
  rw [valV_zip]
  exact dget_mem kk ks xs (by rw [h0, h6.length])
theorem oq_din (hu : X.A.units + 65 < cLine) : OpQ X W (compareOp .In) (PDin false) := by
  intro B F0 ρ σ F H x y v u Φ Q R hx hy hp k
  obtain ⟨ks, vs, kk, rfl, e2, hp⟩ := hp.out
  obtain rfl := key_v e2 hx
  obtain ⟨a, o, rfl, g, ho⟩ := din_core (y := .non) (kk := kk) R hy
  intro pins s σ' v' u' I rx ry
  obtain rfl : u' = Value.ref a := ry
  refine d_in (by omega) I g rx fun s' I' => ⟨.bl o.isSome, H, I', rfl, ?_⟩
  exact k _ false _ F H R (Le.refl _) VR.bl (by rw [ho]; exact hp)
theorem oq_dnotin (hu : X.A.units + 65 < cLine) : OpQ X W (compareOp .NotIn) (PDin true) := by
  intro B F0 ρ σ F H x y v u Φ Q R hx hy hp k
  obtain ⟨ks, vs, kk, rfl, e2, hp⟩ := hp.out
  obtain rfl := key_v e2 hx
  obtain ⟨a, o, rfl, g, ho⟩ := din_core (y := .non) (kk := kk) R hy
  intro pins s σ' v' u' I rx ry
  obtain rfl : u' = Value.ref a := ry
  refine d_notIn (by omega) I g rx fun s' I' => ⟨.bl (!o.isSome), H, I', rfl, ?_⟩
  exact k _ false _ F H R (Le.refl _) VR.bl (by rw [ho]; exact hp)
/-! #### {} -/
def pDNew : PE' := fun ρ Φ => Φ (.dct [] []) true ρ
theorem qe_dnew : QE X W (.Dict [] [] pos) pDNew := ⟨_, pe_dnewK, fun B F0 ρ σ F H Φ Q R hp k p np => by
  obtain ⟨R2, vr⟩ := R.newD (ks := []) (vs := []) (xs := []) np rfl (F := F) rfl
  exact k _ true ρ _ F _ R2 (Le.refl _) vr hp⟩
/-! #### d[k] = v, d a slot's own -/
def rSetD : TSet := fun o y v H Q => ∃ a H', o = .ref a ∧ DPut H a y v H' ∧ Q H'
theorem set_dict (hu : X.A.units + 1 < cLine) : PSet X rSetD := by
  intro pins s σ H o i v ov iv u Q I ro ri rv h
  obtain ⟨a, H', rfl, g, q⟩ := h
  obtain rfl : ov = Value.ref a := ro
  exact d_setItem hu I g ri rv fun s' I' => ⟨H', I', q⟩
def KDset (y : T) (Φ : Key → Prop) : Prop := match y with
  | .int i => Φ (.inl i)
  | .str s => Φ (.inr s)
  | _ => False
theorem kds_i {i : Int} {Φ : Key → Prop} : KDset (.int i) Φ = Φ (.inl i) := rfl
theorem kds_s {i : Str} {Φ : Key → Prop} : KDset (.str i) Φ = Φ (.inr i) := rfl
theorem KDset.out {y : T} {Φ : Key → Prop} (h : KDset y Φ) : ∃ k, y.key = some k ∧ Φ k := by
  unfold KDset at h
  split at h
  · exact ⟨_, rfl, h⟩
  · exact ⟨_, rfl, h⟩
  · exact h.elim
def IsOd (s : Option Sl) (Ψ : List Key → List T → Prop) : Prop := match s with
  | some (.own (.dct ks vs)) => Ψ ks vs
  | _ => False
theorem isod {ks : List Key} {vs : List T} {Ψ : List Key → List T → Prop} : IsOd (some (Sl.own (.dct ks vs))) Ψ = Ψ ks vs := rfl
theorem IsOd.out {s : Option Sl} {Ψ : List Key → List T → Prop} (h : IsOd s Ψ) : ∃ ks vs, s = some (Sl.od ks vs) ∧ Ψ ks vs := by
  unfold IsOd at h
  split at h
  · exact ⟨_, _, rfl, h⟩
  · exact h.elim
theorem of_od {ks : List Key} {vs : List T} : Sl.of (.dct ks vs) true = Sl.own (.dct ks vs) := rfl
section
variable {ks : List Key} {vs : List T} {Ψ : List Key → List T → Prop} {r : PS'} {a0 a1 a2 a3 a4 a5 a6 a7 a8 a9 a10 a11 a12 a13 : Sl}
theorem od_0 : IsOd (Sl.own (.dct ks vs) :: r)[0]? Ψ = Ψ ks vs := rfl
theorem od_1 : IsOd (a0 :: Sl.own (.dct ks vs) :: r)[1]? Ψ = Ψ ks vs := rfl
theorem od_2 : IsOd (a0 :: a1 :: Sl.own (.dct ks vs) :: r)[2]? Ψ = Ψ ks vs := rfl
theorem od_3 : IsOd (a0 :: a1 :: a2 :: Sl.own (.dct ks vs) :: r)[3]? Ψ = Ψ ks vs := rfl
theorem od_4 : IsOd (a0 :: a1 :: a2 :: a3 :: Sl.own (.dct ks vs) :: r)[4]? Ψ = Ψ ks vs := rfl
theorem od_5 : IsOd (a0 :: a1 :: a2 :: a3 :: a4 :: Sl.own (.dct ks vs) :: r)[5]? Ψ = Ψ ks vs := rfl
theorem od_6 : IsOd (a0 :: a1 :: a2 :: a3 :: a4 :: a5 :: Sl.own (.dct ks vs) :: r)[6]? Ψ = Ψ ks vs := rfl
theorem od_7 : IsOd (a0 :: a1 :: a2 :: a3 :: a4 :: a5 :: a6 :: Sl.own (.dct ks vs) :: r)[7]? Ψ = Ψ ks vs := rfl
theorem od_8 : IsOd (a0 :: a1 :: a2 :: a3 :: a4 :: a5 :: a6 :: a7 :: Sl.own (.dct ks vs) :: r)[8]? Ψ = Ψ ks vs := rfl
theorem od_9 : IsOd (a0 :: a1 :: a2 :: a3 :: a4 :: a5 :: a6 :: a7 :: a8 :: Sl.own (.dct ks vs) :: r)[9]? Ψ = Ψ ks vs := rfl
theorem od_10 : IsOd (a0 :: a1 :: a2 :: a3 :: a4 :: a5 :: a6 :: a7 :: a8 :: a9 :: Sl.own (.dct ks vs) :: r)[10]? Ψ = Ψ ks vs := rfl
theorem od_11 : IsOd (a0 :: a1 :: a2 :: a3 :: a4 :: a5 :: a6 :: a7 :: a8 :: a9 :: a10 :: Sl.own (.dct ks vs) :: r)[11]? Ψ = Ψ ks vs := rfl
theorem od_12 : IsOd (a0 :: a1 :: a2 :: a3 :: a4 :: a5 :: a6 :: a7 :: a8 :: a9 :: a10 :: a11 :: Sl.own (.dct ks vs) :: r)[12]? Ψ = Ψ ks vs := rfl
theorem od_13 : IsOd (a0 :: a1 :: a2 :: a3 :: a4 :: a5 :: a6 :: a7 :: a8 :: a9 :: a10 :: a11 :: a12 :: Sl.own (.dct ks vs) :: r)[13]? Ψ = Ψ ks vs := rfl
end
def gDsub (i : Nat) (pb : PE') : PG' := fun τ _ ρ Φ => IsOd ρ[i]? fun _ _ => pb ρ fun y _ ρ1 => IsOd ρ1[i]? fun ks vs => KDset y fun k => ks.length ≤ 16000000 ∧ Φ (ρ1.set i (Sl.od (dputK ks k) (dputV ks vs k τ)))
theorem qg_dsub {x : Str} {i : Nat} {b : Expr} {p2 : Pos} {pb : PE'} (hu : X.A.units + 65 < cLine) (h : PE X (.Name x p2) (tVar i)) (hb : QE X W b pb)
    (ha : ∀ v, assign (.Subscript (.Name x p2) b pos) X.env v = (do
      let ov ← holding [v] (eval (.Name x p2) X.env)
      let iv ← holding [v, ov] (eval b X.env)
      standAt pos
      holding [v, ov, iv] (setItem ov iv v)
      release [v, ov, iv] []) := by intro _; rfl) : QG X W (.Subscript (.Name x p2) b pos) [] (gDsub i pb) := by
  have hs16 := sl16
  obtain ⟨u, h3, h4⟩ := hb.ex
  refine ⟨_, pg_sub h h3 (set_dict (by omega)) ha, fun B F0 ρ σ F H τ f v Φ Q R vr hg k => ?_⟩
  obtain ⟨ks0, vs0, e0, hg⟩ := IsOd.out hg
  obtain ⟨F', R', le', tv⟩ := R.freeze vr
  obtain ⟨a, xs, e1, _⟩ := R'.od i ks0 vs0 e0
  refine ⟨_, e1, ?_⟩
  refine h4.fz R' hg fun y ρ1 w F1 H1 R1 le1 tv1 q1 => ?_
  obtain ⟨ks, vs, e2, q1⟩ := IsOd.out q1
  obtain ⟨kk, e3, hz, q1⟩ := KDset.out q1
  obtain ⟨a2, ys, e4, e5, e0', e6, _⟩ := R1.od i ks vs e2
  rw [e1] at e4
  obtain rfl : a = a2 := V.ref.inj (Option.some.inj (Option.some.inj e4))
  obtain rfl := key_v e3 tv1
  have hl : ks.length = ys.length := by rw [e0', e6.length]
  refine ⟨a, _, rfl, DPut.k e5 (by rw [List.length_zip]; omega), ?_⟩
  rw [putK_zip hl]
  have hm : Ow X.K F1 (.dct (dputK ks kk) (dputV ks vs kk τ)) (.dK ((dputK ks kk).zip (dputV ks ys kk v))) := ⟨_, rfl, dput_length kk τ e0', dputV_v kk e6 (Tv.le le1 _ _ tv)⟩
  exact k _ σ F1 _ (R1.mutO e2 e1 hm) (le'.trans le1) (fun _ _ => rfl) rfl q1
end
end Y

namespace Y
open PySem PySem.Spec PyProof.Rows L2
/-! ### {k: v for .. in ..} -/
def DcK (g : PG') (pt : PT') (pk pv : PE') (vs : List Nat) (items : List T) (ρ1 : PS') (Φ : T → Bool → PS' → Prop) : Prop := items.length ≤ 16000000 ∧ (∀ i ∈ vs, ∀ l, ρ1[i]? ≠ some (Sl.own l)) ∧ ∃ Inv : Nat → List Key → List T → PS' → Prop, Inv 0 [] [] (wipeP ρ1 vs) ∧
  (∀ i t ks ws ρ2, items[i]? = some t → ks.length ≤ i → ks.length = ws.length → Inv i ks ws ρ2 → g t false ρ2 fun ρ3 => pt ρ3 fun b ρ4 => if b = true then pk ρ4 fun y _ ρ5 => pv ρ5 fun z _ ρ6 => KDset y fun k => Inv (i + 1) (dputK ks k) (dputV ks ws k z) (wipeP ρ6 vs) else Inv (i + 1) ks ws (wipeP ρ4 vs)) ∧
  ∀ ks ws ρ2, ks.length ≤ items.length → ks.length = ws.length → Inv items.length ks ws ρ2 → Φ (.dct ks ws) true (restore ρ1 ρ2 vs)
def pDc (pi : PI') (g : PG') (pt : PT') (pk pv : PE') (vs : List Nat) : PE' := fun ρ Φ => pi ρ fun items ρ1 => DcK g pt pk pv vs items ρ1 Φ
section
variable {X : Cx} {W : Wld} {kx vx tg iter : Expr} {ifs : List Expr} {scope : Scope} {own : List (Str × Nat)} {pos : Pos} {sl : List Nat} {pi : PI'} {g : PG'} {pt : PT'} {pk pv : PE'}
theorem sm_dc {wi : TI} {vs : List Nat} (hsl : ∀ i ∈ sl, i ∈ vs) (hi : ∀ (B F0 : Hp) (ρ : PS') (σ : L2.St) (F H : Hp) (Φ : List T → PS' → Prop) (R : It → Hp → Prop), Rep X.K W B F0 ρ σ F H → pi ρ Φ →
    (∀ items ρ' F' H' J, Rep X.K W B F0 ρ' σ F' H' → Le F F' → ItOk X.K J F' items → Φ items ρ' → R J H') → wi σ H R) :
    SmE X.K W (tDc wi (tGc X.K W sl g) (tT X.K W pt) (tE X.K W pk) (tE X.K W pv) vs) (pDc pi g pt pk pv vs) := fun B F0 ρ σ F H Φ Q R hp k => by
  have hs16 := sl16
  refine hi B F0 ρ σ F H _ _ R hp fun items ρ1 F1 H1 J R1 le1 it q1 => ?_
  obtain ⟨hlen, now, Inv, h0, hstep, hend⟩ := q1
  intro D nD
  have nA : ¬ W.A D := fun z => W.al H1 D R1.ok z nD
  have nF1 := none_of_le R1.fh nD
  have nB := none_of_le R1.bh nD
  have nF0 : F0 D = none := none_of_le R1.f0 nF1
  have hown : ∀ (i : Nat) (l : T), ρ1[i]? = some (Sl.own l) → σ[i]? ≠ some (some (V.ref D)) := fun i l e z => by
    obtain ⟨a, xs, e1, e2, _⟩ := R1.own i l e
    rw [e1] at z
    cases z
    rw [nD] at e2
    cases e2
  -- the turns
  let Pv : Nat → Hp → Prop := fun i H' => ∃ ks ws xs ρ2 F2, Inv i ks ws ρ2 ∧ ks.length ≤ i ∧ ks.length = ws.length ∧ Rep X.K W (upd B D (.dK (ks.zip xs))) F0 ρ2 (wipe σ vs) F2 H' ∧ TvL X.K F2 ws xs ∧ Le F1 F2
  have fD : ∀ {F2 : Hp} {o : HO} {ρ2 : PS'} {σ2 : L2.St} {H2 : Hp}, Rep X.K W (upd B D o) F0 ρ2 σ2 F2 H2 → F2 D = none := fun {F2 o ρ2 σ2 H2} R2 => by
    cases z : F2 D with
    | none => rfl
    | some o =>
      rcases R2.fd D (some_ne z) with y | y
      · exact absurd nF0 y
      · rw [upd_same] at y
        cases y
  refine ⟨fun i m H' => m = items.length - i ∧ i ≤ items.length ∧ Pv i H', ⟨_, rfl, Nat.zero_le _, [], [], [], wipeP ρ1 vs, F1, h0, Nat.le_refl _, rfl, ?_, rfl, Le.refl _⟩, ?_⟩
  · refine ((R1.grow (o := .dK []) nD).prot upd_same nF1 nA hown).wipe vs
  · rintro i m H2 ⟨rfl, hi2, ks, ws, xs, ρ2, F2, inv, hacc, hkw, R2, tv, le2⟩
    by_cases hlt : i < items.length
    · refine .inr ⟨it.go i H2 (le2.trans R2.fh) hlt, Pv (i + 1), fun H' p' => ⟨items.length - (i + 1), by omega, rfl, hlt, p'⟩, fun x H3 y => ?_⟩
      obtain ⟨t, et, hx⟩ := it.yld i H2 x H3 (le2.trans R2.fh) hlt y
      -- the item is there
      obtain ⟨F3, R3, le3, tvx⟩ : ∃ F3, Rep X.K W (upd B D (.dK (ks.zip xs))) F0 ρ2 (wipe σ vs) F3 H3 ∧ Le F2 F3 ∧ Tv X.K F3 t x := by
        rcases hx with ⟨rfl, tvx⟩ | ⟨p, ys, l, rfl, rfl, tvl, np, rfl⟩
        · exact ⟨F2, R2, Le.refl _, Tv.le le2 _ _ tvx⟩
        · exact R2.newW np (TvL.le le2 _ _ tvl)
      refine sm_tG (upd B D (.dK (ks.zip xs))) F0 ρ2 (wipe σ vs) F3 H3 t false x _ _ R3 (VR.fz tvx) (hstep i t ks ws ρ2 et hacc hkw inv) fun ρ3 σ3 F4 H4 R4 le4 out len q4 => ?_
      have we2 : wipe σ3 vs = wipe σ vs := wipe_eq (fun j hj => out j (fun z => hj (hsl j z))) (len.trans (wipe_length ..))
      refine ⟨we2, ?_⟩
      refine sm_tT (upd B D (.dK (ks.zip xs))) F0 ρ3 σ3 F4 H4 _ _ R4 q4 fun b ρ4 F5 H5 R5 le5 q5 => ?_
      cases b with
      | false =>
        rw [if_neg Bool.false_ne_true] at q5 ⊢
        refine ⟨ks, ws, xs, _, F5, q5, by omega, hkw, we2 ▸ R5.wipe vs, TvL.le (le3.trans (le4.trans le5)) _ _ tv, le2.trans (le3.trans (le4.trans le5))⟩
      | true =>
        rw [if_pos rfl] at q5 ⊢
        refine sm_tE.fz R5 q5 fun y ρ5 v F6 H6 R6 le6 tvy q6 => ?_
        refine sm_tE.fz R6 q6 fun z ρ6 v2 F7 H7 R7 le7 tvz q7 => ?_
        obtain ⟨kk, ek, q7⟩ := KDset.out q7
        have lx := tv.length
        have hz : (ks.zip xs).length = ks.length := by rw [List.length_zip]; omega
        refine ⟨ks.zip xs, kk, key_v ek (Tv.le le7 _ _ tvy), R7.bh _ _ upd_same, by omega, dputK ks kk, dputV ks ws kk z, dputV ks xs kk v2, _, F7, q7, ?_, dput_length kk z hkw, ?_, ?_, ?_⟩
        · have := dputK_le ks kk
          omega
        · rw [putK_zip (by omega)]
          exact we2 ▸ ((R7.reprot (o' := .dK ((dputK ks kk).zip (dputV ks xs kk v2))) (fD R7) nA).wipe vs)
        · exact dputV_v kk (TvL.le (le3.trans (le4.trans (le5.trans (le6.trans le7)))) _ _ tv) tvz
        · exact le2.trans (le3.trans (le4.trans (le5.trans (le6.trans le7))))
    · have e : i = items.length := by omega
      subst e
      refine .inl ⟨it.stop _ H2 (le2.trans R2.fh) (Nat.le_refl _), ?_⟩
      have R9 := R2.unprot nB nA
      refine k _ true _ (.ref D) F2 H2 (R9.unwipe R1 le2 now) (le1.trans le2) ?_ (hend ks ws ρ2 hacc hkw inv)
      refine ⟨D, _, rfl, ⟨xs, rfl, hkw, tv⟩, R2.bh _ _ upd_same, fD R2, nB, nA, fun i l e => ?_⟩
      by_cases hv : i ∈ vs
      · have hl : i < ρ2.length := by
          have := (List.getElem?_eq_some_iff.mp e).1
          rwa [restore_length] at this
        rw [restore_in hl hv] at e
        have e2 : ρ1.getD i Sl.no = Sl.own l := Option.some.inj e
        rw [List.getD_eq_getElem?_getD] at e2
        cases z : ρ1[i]? with
        | none => rw [z] at e2; cases e2
        | some u =>
          rw [z] at e2
          exact absurd (z.trans (congrArg some e2)) (now i hv l)
      · rw [restore_out hv] at e
        have := R2.ownNe i l e
        rwa [wipe_out hv] at this
theorem qe_dc (hc : X.calm = true) (hN : X.N.Nodup) (hsl : ∀ i ∈ sl, i ∈ own.map (·.2)) (hi : QI X W tg iter pi) (ok : BlkOk X.N X.env.scope scope own)
    (hg : ∀ (s : Shared) (H : Hp) (C : Addr) (cl : List (Str × Addr)) (fp : List Addr), QG (X.blk s H scope (compEnvC scope cl C X.env) fp) W tg sl g)
    (ht : ∀ (s : Shared) (H : Hp) (C : Addr) (cl : List (Str × Addr)) (fp : List Addr), QTs (X.blk s H scope (compEnvC scope cl C X.env) fp) W ifs pt)
    (hk : ∀ (s : Shared) (H : Hp) (C : Addr) (cl : List (Str × Addr)) (fp : List Addr), QE (X.blk s H scope (compEnvC scope cl C X.env) fp) W kx pk)
    (he : ∀ (s : Shared) (H : Hp) (C : Addr) (cl : List (Str × Addr)) (fp : List Addr), QE (X.blk s H scope (compEnvC scope cl C X.env) fp) W vx pv)
    (hs : ∀ x, foldedSetIterable iter X.env x = pure x := by intro _; rfl) : QE X W (.DictComp kx vx [⟨tg, iter, ifs, 0⟩] scope pos) (pDc pi g pt pk pv (own.map (·.2))) := by
  obtain ⟨wi, h1, h2⟩ := hi.ex
  exact ⟨_, pe_dc hc hN h1 ok (fun s H C cl fp => (hg s H C cl fp).can) (fun s H C cl fp => (ht s H C cl fp).ex) (fun s H C cl fp => (hk s H C cl fp).can) (fun s H C cl fp => (he s H C cl fp).can) hs, sm_dc hsl h2⟩
end
end Y

/-! dict(zip(x, y)), each a list or a tuple -/
namespace Y
open PySem PySem.Spec PyProof.Rows L2 RT RZ
section
variable {prog : Program} {w : World} {A : Around} {E : Value → Shared → Prop} {s : Shared} {z TI TO T i1 i2 : Addr} {fp1 fp2 : List Addr} {n1 n2 i : Nat} {P1 P2 : Nat → Value → Prop} {St1 St2 : Nat → Heap → Prop}
theorem zipD2_held_item {f : Bool} {oT : Obj} {Q : Value → Shared → Prop} (S : ZipSep2 z TI TO i1 i2 fp1 fp2) (D1 : Draws prog w A i1 fp1 n1 P1 St1) (D2 : Draws prog w A i2 fp2 n2 P2 St2)
    (hz : IsZipHeld s.heap z TI TO T f) (hT : s.heap.get? T = some oT) (hTI : IsTupOf2 s.heap TI (.ref i1) (.ref i2)) (st1 : St1 i s.heap) (st2 : St2 i s.heap) (hlt1 : i < n1) (hlt2 : i < n2)
    (hQ : ∀ x1 x2 h' tk, P1 i x1 → P2 i x2 → IsZipHeld h' z TI TO T true → St1 (i + 1) h' → St2 (i + 1) h' → IsTupOf2 h' s.heap.objs.size x1 x2 → h'.objs.size = s.heap.objs.size + 1 →
      (∀ c o, c ≠ z → c ≠ i1 → c ≠ i2 → s.heap.get? c = some o → h'.get? c = some o) → Q (.ref s.heap.objs.size) { s with heap := h', toks := tk }) :
    wpAny (model prog w) A (Builtin.«zip.__next__» ⟨[.ref z], []⟩) (fun fin s' => ∃ v, fin = .done (.ret v) ∧ Q v s') E s := by
  obtain ⟨hp, g, d, tk0, os⟩ := s
  show wpAny _ _ (field (.ref z) 2 >>= _) _ _ _
  refine wpAny_bind (wpAny_field hz rfl (x := .bool false) rfl ?_)
  show wpAny _ _ (field (.ref z) 3 >>= _) _ _ _
  refine wpAny_bind (wpAny_field hz rfl (x := .ref TI) rfl ?_)
  refine wpAny_bind (wpAny_seqItems hTI rfl ?_)
  show wpAny _ _ (Builtin.SmallTypes.ownedTupleIsFree (.ref z) >>= _) _ _ _
  refine wpAny_bind (wpAny_tupleHeld_zip hz hT fun g0 hz0 hs0 => ?_)
  replace hs0 : Heap.SameBut z hp g0 := hs0
  simp only [Bool.false_eq_true, if_false]
  refine wpAny_bind ?_
  rw [← Array.forIn_toList]
  simp only [List.forIn_cons, List.forIn_nil]
  refine wpAny_bind (wpAny_bind (wpAny_holding ?_))
  show wpAny _ _ (Builtin.SmallTypes.nextOf (.ref i1) >>= _) _ _ ⟨g0, g, d, tk0, os⟩
  refine wpAny_bind (D1.item i _ _ _ hlt1 (D1.over st1 hs0 S.zf1) fun x1 p1 tk1 hx1 sn1 hp1 => wpAny_pure ?_)
  replace hp1 : Heap.SameBut i1 g0 p1 := hp1
  refine wpAny_pure ?_
  refine wpAny_bind (wpAny_bind (wpAny_holding ?_))
  show wpAny _ _ (Builtin.SmallTypes.nextOf (.ref i2) >>= _) _ _ ⟨p1, g, d, tk1, os⟩
  refine wpAny_bind (D2.item i _ _ _ hlt2 (D2.over (D2.over st2 hs0 S.zf2) hp1 S.sep1_2) fun x2 p2 tk2 hx2 sn2 hp2 => wpAny_pure ?_)
  replace hp2 : Heap.SameBut i2 p1 p2 := hp2
  refine wpAny_pure (wpAny_pure ?_)
  show wpAny _ _ (newTuple [x1, x2] >>= _) _ _ _
  refine wpAny_bind (wpAny_newTuple ?_)
  have hsz : p2.objs.size = hp.objs.size := by rw [hp2.1, hp1.1, hs0.1]
  have hzz : IsZipHeld p2 z TI TO T true := hp2.extBut _ _ S.zi2 (hp1.extBut _ _ S.zi1 hz0)
  have hkk : ∀ c o, c ≠ z → c ≠ i1 → c ≠ i2 → hp.get? c = some o → p2.get? c = some o := fun c o cz c1 c2 e => hp2.extBut _ _ c2 (hp1.extBut _ _ c1 (hs0.extBut _ _ cz e))
  have hj1 : St1 (i + 1) p2 := D1.over sn1 hp2 S.sep2_1
  refine wpAny_pure ⟨_, rfl, ?_⟩
  show Q (.ref p2.objs.size) ⟨p2.push { cls := .type "tuple", data := .seq #[x1, x2] }, g, d, tk2, os⟩
  have hpr : IsTupOf2 (p2.push { cls := .type "tuple", data := .seq #[x1, x2] }) p2.objs.size x1 x2 := Heap.get?_push_size _ rfl
  have hz4 : (p2.push { cls := .type "tuple", data := .seq #[x1, x2] }).objs.size = p2.objs.size + 1 := Heap.size_push ..
  rw [hsz] at hpr hz4 ⊢
  exact hQ x1 x2 _ tk2 hx1 hx2 (Heap.get?_push_of_some _ hzz) (D1.frame _ _ _ hj1 fun b hb o e => Heap.get?_push_of_some _ e) (D2.frame _ _ _ sn2 fun b hb o e => Heap.get?_push_of_some _ e) hpr hz4
    fun c o cz c1 c2 e => Heap.get?_push_of_some _ (hkk c o cz c1 c2 e)
theorem zipD2_held_end {f : Bool} {oT : Obj} {Q : Fin → Shared → Prop} (S : ZipSep2 z TI TO i1 i2 fp1 fp2) (D1 : Draws prog w A i1 fp1 n1 P1 St1) (D2 : Draws prog w A i2 fp2 n2 P2 St2)
    (hz : IsZipHeld s.heap z TI TO T f) (hT : s.heap.get? T = some oT) (hTI : IsTupOf2 s.heap TI (.ref i1) (.ref i2)) (st1 : St1 i s.heap) (st2 : St2 i s.heap) (hle1 : i ≤ n1) (hle2 : i ≤ n2) (hend : i = n1 ∨ i = n2)
    (hE : ∀ h' tk e, (∀ c o, c ≠ z → c ≠ i1 → c ≠ i2 → s.heap.get? c = some o → h'.get? c = some o) → (∃ o, h'.get? e = some o ∧ o.cls = .type "StopIteration") → E (.ref e) { s with heap := h', toks := tk }) :
    wpAny (model prog w) A (Builtin.«zip.__next__» ⟨[.ref z], []⟩) Q E s := by
  obtain ⟨hp, g, d, tk0, os⟩ := s
  show wpAny _ _ (field (.ref z) 2 >>= _) _ _ _
  refine wpAny_bind (wpAny_field hz rfl (x := .bool false) rfl ?_)
  show wpAny _ _ (field (.ref z) 3 >>= _) _ _ _
  refine wpAny_bind (wpAny_field hz rfl (x := .ref TI) rfl ?_)
  refine wpAny_bind (wpAny_seqItems hTI rfl ?_)
  show wpAny _ _ (Builtin.SmallTypes.ownedTupleIsFree (.ref z) >>= _) _ _ _
  refine wpAny_bind (wpAny_tupleHeld_zip hz hT fun g0 hz0 hs0 => ?_)
  replace hs0 : Heap.SameBut z hp g0 := hs0
  simp only [Bool.false_eq_true, if_false]
  refine wpAny_bind ?_
  rw [← Array.forIn_toList]
  simp only [List.forIn_cons, List.forIn_nil]
  refine wpAny_bind (wpAny_bind (wpAny_holding ?_))
  show wpAny _ _ (Builtin.SmallTypes.nextOf (.ref i1) >>= _) _ _ ⟨g0, g, d, tk0, os⟩
  by_cases h1 : i = n1
  · subst h1
    refine wpAny_bind (D1.done _ _ _ (D1.over st1 hs0 S.zf1) fun p1 e hp1 he => ?_)
    exact hE p1 tk0 e (fun c o cz c1 c2 x => hp1 _ _ c1 (hs0.extBut _ _ cz x)) he
  · have h2 : i = n2 := by omega
    refine wpAny_bind (D1.item i _ _ _ (by omega) (D1.over st1 hs0 S.zf1) fun x1 p1 tk1 hx1 sn1 hp1 => wpAny_pure ?_)
    replace hp1 : Heap.SameBut i1 g0 p1 := hp1
    refine wpAny_pure ?_
    refine wpAny_bind (wpAny_bind (wpAny_holding ?_))
    show wpAny _ _ (Builtin.SmallTypes.nextOf (.ref i2) >>= _) _ _ ⟨p1, g, d, tk1, os⟩
    subst h2
    refine wpAny_bind (D2.done _ _ _ (D2.over (D2.over st2 hs0 S.zf2) hp1 S.sep1_2) fun p2 e hp2 he => ?_)
    exact hE p2 tk1 e (fun c o cz c1 c2 x => hp2 _ _ c2 (hp1.extBut _ _ c1 (hs0.extBut _ _ cz x))) he
theorem pyNext_held_item {f : Bool} {oT : Obj} {Q : Option Value → Shared → Prop} (S : ZipSep2 z TI TO i1 i2 fp1 fp2) (D1 : Draws prog w A.in1 i1 fp1 n1 P1 St1) (D2 : Draws prog w A.in1 i2 fp2 n2 P2 St2)
    (hz : IsZipHeld s.heap z TI TO T f) (hT : s.heap.get? T = some oT) (hTI : IsTupOf2 s.heap TI (.ref i1) (.ref i2)) (st1 : St1 i s.heap) (st2 : St2 i s.heap) (hlt1 : i < n1) (hlt2 : i < n2)
    (hQ : ∀ x1 x2 h' tk, P1 i x1 → P2 i x2 → IsZipHeld h' z TI TO T true → St1 (i + 1) h' → St2 (i + 1) h' → IsTupOf2 h' s.heap.objs.size x1 x2 → h'.objs.size = s.heap.objs.size + 1 →
      (∀ c o, c ≠ z → c ≠ i1 → c ≠ i2 → s.heap.get? c = some o → h'.get? c = some o) → Q (some (.ref s.heap.objs.size)) { s with heap := h', toks := tk }) :
    wpAny (model prog w) A (pyNext (.ref z)) Q E s := by
  have hTy : s.TypeIs (.ref z) "zip" := ⟨_, hz, rfl⟩
  unfold pyNext
  exact wpAny_bind (wpAny_attempt (wpAny_callSpecial?_slot (name := Str.ofString "__next__") hTy F.slot_zip_next
    (wpAny_call_entry F.slot_zip_next hTy F.entry_zip_next
      (zipD2_held_item S D1 D2 hz hT hTI st1 st2 hlt1 hlt2 fun x1 x2 h' tk y1 y2 b1 d1 d2 b5 b6 b7 => wpAny_pure (hQ x1 x2 h' tk y1 y2 b1 d1 d2 b5 b6 b7)) (F.args_zip_next_1 _))))
theorem pyNext_held_end {f : Bool} {oT : Obj} {Q : Option Value → Shared → Prop} (S : ZipSep2 z TI TO i1 i2 fp1 fp2) (D1 : Draws prog w A.in1 i1 fp1 n1 P1 St1) (D2 : Draws prog w A.in1 i2 fp2 n2 P2 St2)
    (hz : IsZipHeld s.heap z TI TO T f) (hT : s.heap.get? T = some oT) (hTI : IsTupOf2 s.heap TI (.ref i1) (.ref i2)) (st1 : St1 i s.heap) (st2 : St2 i s.heap) (hle1 : i ≤ n1) (hle2 : i ≤ n2) (hend : i = n1 ∨ i = n2)
    (hQ : ∀ h' tk, (∀ c o, c ≠ z → c ≠ i1 → c ≠ i2 → s.heap.get? c = some o → h'.get? c = some o) → Q none { s with heap := h', toks := tk }) : wpAny (model prog w) A (pyNext (.ref z)) Q E s := by
  have hTy : s.TypeIs (.ref z) "zip" := ⟨_, hz, rfl⟩
  unfold pyNext
  refine wpAny_bind (wpAny_attempt (wpAny_callSpecial?_slot (name := Str.ofString "__next__") hTy F.slot_zip_next
    (wpAny_call_entry F.slot_zip_next hTy F.entry_zip_next (zipD2_held_end S D1 D2 hz hT hTI st1 st2 hle1 hle2 hend fun h' tk e hk he => ?_) (F.args_zip_next_1 _))))
  obtain ⟨o, ho, hc⟩ := he
  refine wpAny_bind (wpAny_isInstance (T := "StopIteration") (b := true) ⟨o, ho, hc⟩ isSubtype_stop ?_)
  exact wpAny_pure (hQ _ _ hk)
theorem isSq_at {b : Bool} {h h' : Heap} {l : Addr} {xs : Array Value} (x : isSq b h l xs) (k : ∀ o, h.get? l = some o → h'.get? l = some o) : isSq b h' l xs := by
  cases b with
  | true => exact Heap.IsTuple.at x k
  | false => exact Heap.IsList.at x k
theorem isSq_there {b : Bool} {h : Heap} {l : Addr} {xs : Array Value} (x : isSq b h l xs) : ∃ o, h.get? l = some o := by
  cases b with
  | true => obtain ⟨o, e, _⟩ := x; exact ⟨o, e⟩
  | false => obtain ⟨o, e, _⟩ := x; exact ⟨o, e⟩
theorem isIt_there {b : Bool} {h : Heap} {it l : Addr} {i : Nat} (x : isIt b h it l i) : ∃ o, h.get? it = some o := let ⟨o, e, _⟩ := isIt_obj x; ⟨o, e⟩
theorem PairArg.zipB (b1 b2 : Bool) {a b : Addr} (S : ZipSep2 z TI TO i1 i2 [i1, a] [i2, b]) (na : a ≠ i1) (nb : b ≠ i2) (xs ys : Array Value) :
    PairArg prog w "zip" z [z, TI, TO, i1, i2, a, b] [z, TO, i1, i2] (min xs.size ys.size) (fun i k v => xs[i]? = some k ∧ ys[i]? = some v)
      (fun h => IsZip h z TI TO .none ∧ IsTupOf2 h TI (.ref i1) (.ref i2) ∧ (∃ x y, IsTupOf2 h TO x y) ∧ isIt b1 h i1 a 0 ∧ isIt b2 h i2 b 0 ∧ isSq b1 h a xs ∧ isSq b2 h b ys) where
  type := fun s ok => ⟨_, ok.1, rfl⟩
  notDict := by decide
  keep := fun h h' ok hk => by
    obtain ⟨hz, hTI, ⟨x, y, hTO⟩, h1, h2, hl1, hl2⟩ := ok
    exact ⟨hk _ _ hz, hk _ _ hTI, ⟨x, y, hk _ _ hTO⟩, isIt_at h1 fun o e => hk _ o e, isIt_at h2 fun o e => hk _ o e, isSq_at hl1 fun o e => hk _ o e, isSq_at hl2 fun o e => hk _ o e⟩
  there := fun h ok c hc => by
    obtain ⟨hz, hTI, ⟨x, y, hTO⟩, h1, h2, hl1, hl2⟩ := ok
    simp only [List.mem_cons, List.not_mem_nil, or_false] at hc
    rcases hc with rfl | rfl | rfl | rfl | rfl | rfl | rfl
    · exact ⟨_, hz⟩
    · exact ⟨_, hTI⟩
    · exact ⟨_, hTO⟩
    · exact isIt_there h1
    · exact isIt_there h2
    · exact isSq_there hl1
    · exact isSq_there hl2
  sub := fun b hb => by simp at hb ⊢; rcases hb with rfl | rfl | rfl | rfl <;> simp
  noKeys := fun A s Q E hA ok h => getAttrOr_miss_zip ok.1 rfl rfl rfl zip_no_keys (by decide +kernel) hA h
  iter := fun A s d Q E hA ok hd hdf h => by
    obtain ⟨hz, hTI, ⟨x, y, hTO⟩, h1, h2, hl1, hl2⟩ := ok
    simp only [List.mem_cons, List.not_mem_nil, or_false, not_or] at hdf
    obtain ⟨dz, dTI, dTO, di1, di2, da, db⟩ := hdf
    have hA1 : A.in1.handled = none := hA
    have D1 : Draws prog w A.in1 i1 [i1, a] xs.size (fun i v => xs[i]? = some v) (fun i h => isIt b1 h i1 a i ∧ isSq b1 h a xs) := drawsB b1 hA1 i1 a na xs
    have D2 : Draws prog w A.in1 i2 [i2, b] ys.size (fun i v => ys[i]? = some v) (fun i h => isIt b2 h i2 b i ∧ isSq b2 h b ys) := drawsB b2 hA1 i2 b nb ys
    refine wpAny_pyIter_zip hz (h z [z, TO, i1, i2] (fun i h => IsTupOf2 h TI (.ref i1) (.ref i2) ∧ (isIt b1 h i1 a i ∧ isSq b1 h a xs) ∧ (isIt b2 h i2 b i ∧ isSq b2 h b ys) ∧
      ((IsZip h z TI TO .none ∧ ∃ a b, IsTupOf2 h TO a b) ∨ ∃ T f oT, IsZipHeld h z TI TO T f ∧ h.get? T = some oT ∧ T ≠ z ∧ T ≠ i1 ∧ T ≠ i2 ∧ T ≠ d)) s.heap s.toks ?_
      ⟨hTI, ⟨h1, hl1⟩, ⟨h2, hl2⟩, .inl ⟨hz, x, y, hTO⟩⟩ (fun _ _ e => e) fun b hb => .inl hb)
    exact {
      off := fun hm => by
        simp only [List.mem_cons, List.not_mem_nil, or_false] at hm
        rcases hm with e | e | e | e
        · exact dz e
        · exact dTO e
        · exact di1 e
        · exact di2 e
      frame := fun i h₁ h₂ st hk => by
        obtain ⟨hTI, ⟨h1, hl1⟩, ⟨h2, hl2⟩, hz⟩ := st
        refine ⟨hk _ _ (Ne.symm dTI) hTI, ⟨isIt_at h1 fun o e => hk _ o (Ne.symm di1) e, isSq_at hl1 fun o e => hk _ o (Ne.symm da) e⟩, ⟨isIt_at h2 fun o e => hk _ o (Ne.symm di2) e, isSq_at hl2 fun o e => hk _ o (Ne.symm db) e⟩, ?_⟩
        rcases hz with ⟨hz, a, b, hTO⟩ | ⟨T, f, oT, hz, hT, r1, r2, r3, r4⟩
        · exact .inl ⟨hk _ _ (Ne.symm dz) hz, a, b, hk _ _ (Ne.symm dTO) hTO⟩
        · exact .inr ⟨T, f, oT, hk _ _ (Ne.symm dz) hz, hk _ _ r4 hT, r1, r2, r3, r4⟩
      item := fun i s₁ Q₁ E₁ hi st hds hQ => by
        obtain ⟨hTI, st1, st2, hz⟩ := st
        have hix : i < xs.size := Nat.lt_of_lt_of_le hi (Nat.min_le_left ..)
        have hiy : i < ys.size := Nat.lt_of_lt_of_le hi (Nat.min_le_right ..)
        have lt : ∀ {c o}, s₁.heap.get? c = some o → s₁.heap.objs.size ≠ c := fun e => Nat.ne_of_gt (Heap.lt_size e)
        have n1 : s₁.heap.objs.size ≠ i1 := let ⟨_, e⟩ := isIt_there st1.1; lt e
        have n2 : s₁.heap.objs.size ≠ i2 := let ⟨_, e⟩ := isIt_there st2.1; lt e
        rcases hz with ⟨hz, a, b, hTO⟩ | ⟨T, f, oT, hz, hT, r1, r2, r3, r4⟩
        · refine wpAny_pyNext_zipD2_item S D1 D2 hz hTI hTO st1 st2 hix hiy fun x1 x2 h' tk p1 p2 a1 a2 a3 a4 a5 a6 hk => ?_
          exact hQ s₁.heap.objs.size _ _ h' tk ⟨p1, p2⟩ (.inl ⟨_, a5, rfl, _, rfl⟩)
            ⟨hk _ _ S.TIz S.TITO S.TIi1 S.TIi2 hTI, a3, a4, .inr ⟨s₁.heap.objs.size, false, _, a1, a5, lt hz, n1, n2, Nat.ne_of_gt hds⟩⟩
            fun c o hc e => hk c o (fun x => hc (by simp [x])) (fun x => hc (by simp [x])) (fun x => hc (by simp [x])) (fun x => hc (by simp [x])) e
        · refine pyNext_held_item S D1 D2 hz hT hTI st1 st2 hix hiy fun x1 x2 h' tk p1 p2 a1 a3 a4 a5 a6 hk => ?_
          exact hQ s₁.heap.objs.size _ _ h' tk ⟨p1, p2⟩ (.inl ⟨_, a5, rfl, _, rfl⟩)
            ⟨hk _ _ S.TIz S.TIi1 S.TIi2 hTI, a3, a4, .inr ⟨T, true, oT, a1, hk _ _ r1 r2 r3 hT, r1, r2, r3, r4⟩⟩
            fun c o hc e => hk c o (fun x => hc (by simp [x])) (fun x => hc (by simp [x])) (fun x => hc (by simp [x])) e
      done := fun s₁ Q₁ E₁ st hQ => by
        obtain ⟨hTI, st1, st2, hz⟩ := st
        have l1 : min xs.size ys.size ≤ xs.size := Nat.min_le_left ..
        have l2 : min xs.size ys.size ≤ ys.size := Nat.min_le_right ..
        have hend : min xs.size ys.size = xs.size ∨ min xs.size ys.size = ys.size := by omega
        rcases hz with ⟨hz, a, b, hTO⟩ | ⟨T, f, oT, hz, hT, r1, r2, r3, r4⟩
        · exact wpAny_pyNext_zipD2_end S D1 D2 hz hTI hTO st1 st2 l1 l2 hend fun h' tk hk => hQ h' tk fun c o hc e => hk c o (fun x => hc (by simp [x])) (fun x => hc (by simp [x])) (fun x => hc (by simp [x])) (fun x => hc (by simp [x])) e
        · exact pyNext_held_end S D1 D2 hz hT hTI st1 st2 l1 l2 hend fun h' tk hk => hQ h' tk fun c o hc e => hk c o (fun x => hc (by simp [x])) (fun x => hc (by simp [x])) (fun x => hc (by simp [x])) e }
end
/-! #### merged -/
def dmer {α : Type} : List Key → List α → List Key → List α → List Key × List α
  | ak, av, k :: ks, v :: vs => dmer (dputK ak k) (dputV ak av k v) ks vs
  | ak, av, _, _ => (ak, av)
theorem dmer_len {α : Type} : ∀ (ks : List Key) (vs : List α) (ak : List Key) (av : List α), ak.length = av.length → (dmer ak av ks vs).1.length = (dmer ak av ks vs).2.length
  | [], _, _, _, h => by rw [dmer]; exact h; intros; simp_all
  | _ :: _, [], _, _, h => by rw [dmer]; exact h; intros; simp_all
  | k :: ks, v :: vs, ak, av, h => by
    rw [dmer]
    exact dmer_len ks vs _ _ (dput_length k v h)
theorem mergeK_zip : ∀ (ks : List Key) (xs : List V) (ak : List Key) (ax : List V), ak.length = ax.length → mergeK (ak.zip ax) (ks.zip xs) = (dmer ak ax ks xs).1.zip (dmer ak ax ks xs).2
  | [], _, ak, ax, h => by
    rw [dmer]; rfl
    intros; simp_all
  | _ :: _, [], ak, ax, h => by
    rw [dmer]; rfl
    intros; simp_all
  | k :: ks, x :: xs, ak, ax, h => by
    rw [dmer, ← mergeK_zip ks xs _ _ (dput_length k x h), ← putK_zip h]
    rfl
theorem dmer_v {K : PySem.W.Frag} {F : Hp} : ∀ (ks : List Key) {vs : List T} {xs : List V} (ak : List Key) {av : List T} {ax : List V}, TvL K F vs xs → TvL K F av ax → (dmer ak av ks vs).1 = (dmer ak ax ks xs).1 ∧ TvL K F (dmer ak av ks vs).2 (dmer ak ax ks xs).2
  | [], vs, xs, ak, av, ax, h, ha => by
    rw [dmer, dmer]
    · exact ⟨rfl, ha⟩
    · intros; simp_all
    · intros; simp_all
  | _ :: _, [], xs, ak, av, ax, h, ha => by
    rw [show xs = [] from h, dmer, dmer]
    · exact ⟨rfl, ha⟩
    · intros; simp_all
    · intros; simp_all
  | k :: ks, v :: vs, _, ak, av, ax, h, ha => by
    obtain ⟨x, r, rfl, h1, h2⟩ := h
    rw [dmer, dmer]
    exact dmer_v ks _ h2 (dputV_v k ha h1)
theorem dmer_nodup {α : Type} : ∀ (ks : List Key) (vs : List α) (ak : List Key) (av : List α), (ak ++ ks).Nodup → ks.length = vs.length → dmer ak av ks vs = (ak ++ ks, av ++ vs)
  | [], [], ak, av, h, _ => by
    rw [dmer]
    · simp
    · intros; simp_all
  | _ :: _, [], _, _, _, h => by simp at h
  | [], _ :: _, _, _, _, h => by simp at h
  | k :: ks, v :: vs, ak, av, h, hl => by
    have hk : k ∉ ak := fun m => by
      rw [List.nodup_append] at h
      exact h.2.2 k m k (List.mem_cons_self) rfl
    rw [dmer, dputK, dputV, if_neg hk, if_neg hk, dmer_nodup ks vs _ _ (by simpa using h) (by simpa using hl)]
    simp
end Y

/-! dict(zip(x, y)): the rule -/
namespace Y
open PySem PySem.Spec PyProof.Rows L2 RT RZ
theorem kvz_is {P : Program} {w : World} : ∀ {ks : List Key} {its its2 : List Value}, Vals (ks.map kV) its → ∀ {i : Nat} {key v : Value}, its[i]? = some key → its2[i]? = some v → ∃ k, (ks.zip its2)[i]? = some (k, v) ∧ (mixKind P w).is k key = true
  | [], _, _, r, i, key, v, e, _ => by
    rw [List.map_nil] at r
    cases r
    simp at e
  | k :: ks, _, [], r, i, key, v, _, e => by simp at e
  | k :: ks, _, y :: its2, r, 0, key, v, e, e2 => by
    cases r with
    | cons h t =>
      obtain rfl := Option.some.inj e
      obtain rfl := Option.some.inj e2
      exact ⟨k, rfl, kV_is h⟩
  | k :: ks, _, y :: its2, r, i + 1, key, v, e, e2 => by
    cases r with
    | cons h t => exact kvz_is t (i := i) e e2
theorem kv_zip : ∀ {ks : List Key} {ys : List V} {its2 : List Value}, Vals ys its2 → KV (ks.zip ys) (ks.zip its2)
  | [], _, _, _ => .nil
  | k :: ks, [], _, r => by cases r; exact .nil
  | k :: ks, y :: ys, _, r => by
    cases r with
    | cons h t => exact .cons ⟨rfl, h⟩ (kv_zip t)
def tDZip (K : PySem.W.Frag) (ta : TA) : TE := fun σ H Q => ta σ H fun vs H1 => ∃ (a b : Addr) (b1 b2 : Bool) (ks : List Key) (xs ys : List V), vs = [V.ref a, V.ref b] ∧ SqB b1 K H1 a xs ∧ xs = ks.map kV ∧ SqB b2 K H1 b ys ∧ ys.length ≤ sizeLine ∧ ∀ p, H1 p = none → Q (.ref p) (upd H1 p (.dK (mergeK [] (ks.zip ys))))
section
variable {X : Cx} {W : Wld} {e e2 : Expr} {ta : TA} {p p2 pos pos2 : Pos} {pa pb : PE'}
theorem pe_dzip (hc : X.calm = true) (hg : Gl X "dict") (hm : X.mg "dict" = none) (hg2 : Gl X "zip") (hm2 : X.mg "zip" = none) (ha : PA X [e, e2] ta)
    (hs : starEach [e, e2] X.env = (false, eval e X.env) :: starEach [e2] X.env := by rfl) (hpl : (backTo pos2 (starEach [e2] X.env)).any (·.1) = false := by rfl)
    (hs2 : starEach [.Call (.Name "zip" p2) [e, e2] [] pos2] X.env = (false, eval (.Call (.Name "zip" p2) [e, e2] [] pos2) X.env) :: starEach [] X.env := by rfl) :
    PE X (.Call (.Name "dict" p) [.Call (.Name "zip" p2) [e, e2] [] pos2] [] pos) (tDZip X.K ta) := by
  refine ⟨fun pins s σ H Q I h => ?_⟩
  refine Call_ (ld_blt I hg hm PyProof.Rows.boot_dict (PyProof.Rows.callWith_type1 (args_cons (Call_ (ld_blt I hg2 hm2 PyProof.Rows.boot_zip (PyProof.Rows.callWith_type1 (thn (ha.run pos2 pins s σ H _ I h) fun us s1 ⟨vs, H1, I1, r1, q1⟩ => ?_) hs hpl))) hs2) hs2 rfl))
  obtain ⟨a, b, b1, b2, ks, xs, ys, ex, hqx, ek, hqy, hlen, q⟩ := q1
  subst ex
  cases r1 with
  | cons r rr =>
    cases rr with
    | cons r' rr =>
      cases rr
      cases r
      cases r'
      obtain ⟨its, rv, p1, la⟩ := inv_sq I1 hqx
      obtain ⟨its2, rv2, p2, lb⟩ := inv_sq I1 hqy
      subst ek
      refine zip_begins2 (beginsB b1 a its.toArray) (beginsB b2 b its2.toArray) p1 p2 fun h' hz hTI hTO h1 h2 hsz hk => args_nil ?_
      have I2 : Inv X pins σ H1 { s1 with heap := h' } := I1.kept (t' := s1.toks) hk
      have S := zip_sep2 (N := s1.heap.objs.size) (fp1 := [a]) (fp2 := [b]) (fun c hc => by rw [List.mem_singleton.mp hc]; exact la) (fun c hc => by rw [List.mem_singleton.mp hc]; exact lb)
      have n1 := rv.length
      have n2 := rv2.length
      rw [List.length_map] at n1
      refine PySem.call_dict_pairs (knd := mixKind X.prog X.w) (kvs := ks.zip its2) (PairArg.zipB b1 b2 S (Nat.ne_of_lt la) (Nat.ne_of_lt (Nat.lt_succ_of_lt lb)) its.toArray its2.toArray) (I1.ok.hd hc)
        ⟨hz, hTI, ⟨_, _, hTO⟩, isIt_new h1, isIt_new h2, isSq_at p1 fun o e => hk _ o e, isSq_at p2 fun o e => hk _ o e⟩ ⟨?_, fun i key v e => ?_⟩ ?_ fun h'' tk hd hk2 => ?_
      · simp only [List.size_toArray, List.length_zip]
        omega
      · obtain ⟨e1, e2⟩ := e
        rw [List.getElem?_toArray] at e1 e2
        exact kvz_is rv e1 e2
      · simp only [List.size_toArray]
        omega
      · have I3 : Inv X pins σ H1 { s1 with heap := h'', toks := tk } := I1.kept (t' := tk) fun c o e => hk2 c o (fun m => by
          have hlt := Heap.lt_size e
          simp only [List.mem_cons, List.not_mem_nil, or_false] at m
          have : s1.heap.objs.size ≤ c := by rcases m with q | q | q | q <;> rw [q] <;> first | exact Nat.le_add_right _ _ | exact Nat.le_refl _
          exact absurd hlt (Nat.not_lt.mpr this)) (hk c o e)
        have hm' : (h'.objs.size == sysModules) = false := beq_eq_false_iff_ne.mpr (Nat.ne_of_gt I2.big)
        have rel : KV (ks.zip ys) (ks.zip its2) := kv_zip rv2
        have hl : (mergeK [] (ks.zip ys)).length ≤ sizeLine := by
          refine Nat.le_trans (length_mergeK (ks.zip ys) []) ?_
          rw [List.length_nil, Nat.zero_add, List.length_zip]
          omega
        have np : H1 h'.objs.size = none := I1.hok.fresh (by rw [hsz]; omega)
        exact ⟨.ref h'.objs.size, upd H1 h'.objs.size (.dK (mergeK [] (ks.zip ys))),
          I1.laid (a := h'.objs.size) (t' := tk) (fun c o e => hk2 c o (fun m => by
            have hlt := Heap.lt_size e
            simp only [List.mem_cons, List.not_mem_nil, or_false] at m
            have : s1.heap.objs.size ≤ c := by rcases m with q | q | q | q <;> rw [q] <;> first | exact Nat.le_add_right _ _ | exact Nat.le_refl _
            exact absurd hlt (Nat.not_lt.mpr this)) (hk c o e)) (by rw [hsz]; omega) (show ObjOk X.prog X.w _ _ _ (.dK (mergeK [] (ks.zip ys))) from ⟨hl, hm', merged [] (ks.zip its2), KV.merge rel .nil, hd⟩), rfl, q _ np⟩
/-- keys by value -/
def keysOf : List T → Option (List Key)
  | [] => some []
  | t :: l => match t.key, keysOf l with
    | some k, some ks => some (k :: ks)
    | _, _ => none
theorem keysOf_v {K : PySem.W.Frag} {F : Hp} : ∀ {l : List T} {xs : List V} {ks : List Key}, keysOf l = some ks → TvL K F l xs → xs = ks.map kV
  | [], xs, ks, e, h => by
    obtain rfl := Option.some.inj e
    exact h
  | t :: l, _, ks, e, h => by
    obtain ⟨x, r, rfl, h1, h2⟩ := h
    unfold keysOf at e
    split at e
    · rename_i k ks' e1 e2
      obtain rfl := Option.some.inj e
      rw [key_v e1 h1, keysOf_v e2 h2]
      rfl
    · cases e
theorem keysOf_len : ∀ {l : List T} {ks : List Key}, keysOf l = some ks → ks.length = l.length
  | [], ks, e => by
    obtain rfl := Option.some.inj e
    rfl
  | t :: l, ks, e => by
    unfold keysOf at e
    split at e
    · rename_i k ks' e1 e2
      obtain rfl := Option.some.inj e
      simp [keysOf_len e2]
    · cases e
theorem keysOf_strs : ∀ ns : List Str, keysOf (ns.map T.str) = some (ns.map Sum.inr)
  | [] => rfl
  | n :: ns => by rw [List.map_cons, keysOf, keysOf_strs ns]; rfl
theorem keysOf_ints : ∀ ns : List Int, keysOf (ns.map T.int) = some (ns.map Sum.inl)
  | [] => rfl
  | n :: ns => by rw [List.map_cons, keysOf, keysOf_ints ns]; rfl
def KDZ (t u : T) (Φ : T → Prop) : Prop := ∃ l m ks, t.items = some l ∧ u.items = some m ∧ keysOf l = some ks ∧ m.length ≤ 16000000 ∧ Φ (.dct (dmer [] [] ks m).1 (dmer [] [] ks m).2)
def pDZip (pa pb : PE') : PE' := fun ρ Φ => pa ρ fun t _ ρ1 => pb ρ1 fun u _ ρ2 => KDZ t u fun d => Φ d true ρ2
theorem qe_dzip (hc : X.calm = true) (hg : Gl X "dict") (hm : X.mg "dict" = none) (hg2 : Gl X "zip") (hm2 : X.mg "zip" = none) (h : QE X W e pa) (h' : QE X W e2 pb)
    (hs : starEach [e, e2] X.env = (false, eval e X.env) :: starEach [e2] X.env := by rfl) (hs1 : starEach [e2] X.env = (false, eval e2 X.env) :: starEach [] X.env := by rfl) (hpl : (backTo pos2 (starEach [e2] X.env)).any (·.1) = false := by rfl)
    (hs2 : starEach [.Call (.Name "zip" p2) [e, e2] [] pos2] X.env = (false, eval (.Call (.Name "zip" p2) [e, e2] [] pos2) X.env) :: starEach [] X.env := by rfl) :
    QE X W (.Call (.Name "dict" p) [.Call (.Name "zip" p2) [e, e2] [] pos2] [] pos) (pDZip pa pb) := by
  have hs16 := sl16
  obtain ⟨t, h1, h2⟩ := h.ex
  obtain ⟨u, h3, h4⟩ := h'.ex
  refine ⟨_, pe_dzip hc hg hm hg2 hm2 (pa_cons h1 (pa_cons h3 pa_nil hs1) hs) hs hpl hs2, fun B F0 ρ σ F H Φ Q R0 hp k => ?_⟩
  refine h2.fz R0 hp fun τ ρ1 v F1 H1 R1 le1 tv q1 => ?_
  refine h4.fz R1 q1 fun τ2 ρ2 w F2 H2 R2 le2 tv2 q2 => ?_
  obtain ⟨l, m, ks, i1, i2, ek, hm, q2⟩ := q2
  obtain ⟨b1, a, xs, rfl, s1, t1⟩ := items_b i1 (Tv.le le2 _ _ tv)
  obtain ⟨b2, b, ys, rfl, s2, t2⟩ := items_b i2 tv2
  have up : ∀ (b' : Bool) (c : Addr) (zs : List V), SqB b' X.K F2 c zs → SqB b' X.K H2 c zs := fun b' c zs h => by
    cases b' with
    | true => exact sqw_le R2.fh h
    | false => exact R2.fh _ _ h
  have hl := t2.length
  refine ⟨a, b, b1, b2, ks, xs, ys, rfl, up _ _ _ s1, keysOf_v ek t1, up _ _ _ s2, by omega, fun p np => ?_⟩
  have em := mergeK_zip ks ys [] [] rfl
  rw [List.zip_nil_left] at em
  rw [em]
  obtain ⟨e1, tvl⟩ := dmer_v (K := X.K) (F := F2) ks [] (av := []) (ax := []) t2 rfl
  rw [← e1]
  have hd := dmer_len ks m [] [] rfl
  obtain ⟨R3, vr⟩ := R2.newD np hd tvl
  exact k _ true ρ2 _ F2 _ R3 (le1.trans le2) vr q2
theorem kdz_i {t u : T} {l m : List T} {ks : List Key} {Φ : T → Prop} (h1 : t.items = some l) (h2 : u.items = some m) (h3 : keysOf l = some ks) (hn : ks.Nodup) (hl : ks.length = m.length) (hm : m.length ≤ 16000000) (h : Φ (.dct ks m)) : KDZ t u Φ := by
  refine ⟨l, m, ks, h1, h2, h3, hm, ?_⟩
  rw [dmer_nodup ks m [] [] (by simpa using hn) hl]
  exact h
end
end Y

/-! a set of texts whose table can be walked: set(xs), sorted(set(xs)) -/
namespace Y
open PySem PySem.Spec PyProof.Rows L2 RT RZ
def keyS (e : Int × Value) : Str := match e.2 with
  | .str k _ => k
  | _ => Str.empty
def GoodS (w : World) (e : Int × Value) : Prop := ∃ k tk, e.2 = Value.str k tk ∧ e.1 = hashStr w k
/-- ks: what was put in, in order -/
def SetS (w : World) (h : Heap) (a : Addr) (ks : List Str) : Prop :=
  ∃ o es ep t, h.get? a = some o ∧ o.ExactSet ∧ o.data = .set es ep t ∧ (∀ e ∈ es.toList, GoodS w e) ∧ (es.toList.map keyS).Nodup ∧ (∀ k, k ∈ ks ↔ k ∈ es.toList.map keyS) ∧
    es.size < scanBound ∧ t.fits es.size = true ∧ es.size ≤ ks.length ∧ Ris t.place.toList ∧ (w.params.followText "set-order" = true ∨ t.led = true)
section
variable {P : Program} {w : World} {h h' : Heap} {a : Addr} {ks : List Str}
theorem SetS.at (R : SetS w h a ks) (k : ∀ o, h.get? a = some o → h'.get? a = some o) : SetS w h' a ks := by
  obtain ⟨o, es, ep, t, ho, r⟩ := R
  exact ⟨o, es, ep, t, k o ho, r⟩
theorem SetS.lt (R : SetS w h a ks) : a < h.objs.size := by
  obtain ⟨o, es, ep, t, ho, r⟩ := R
  exact Heap.lt_size ho
theorem goodS_elems {l : List (Int × Value)} (g : ∀ e ∈ l, GoodS w e) : ElemsOf (PySem.strKind P w) l := fun e he => by
  obtain ⟨k, tk, h1, h2⟩ := g e he
  exact ⟨⟨k, by rw [h1]; exact strKind_is P w k tk, h2⟩, by rw [h1] <;> rfl⟩
theorem goodS_is {e : Int × Value} (g : GoodS w e) (k : Str) : (PySem.strKind P w).is k e.2 = true ↔ keyS e = k := by
  obtain ⟨k0, tk, h1, _⟩ := g
  unfold keyS
  rw [h1]
  refine ⟨fun z => ?_, fun z => ?_⟩
  · exact (PySem.strKind P w).inj _ _ _ (strKind_is P w k0 tk) z
  · rw [← z]
    exact strKind_is P w k0 tk
theorem goodS_mem {l : List (Int × Value)} (g : ∀ e ∈ l, GoodS w e) (k : Str) : k ∈ l.map keyS ↔ ∃ e ∈ l, (PySem.strKind P w).is k e.2 = true := by
  rw [List.mem_map]
  constructor
  · rintro ⟨e, he, q⟩
    exact ⟨e, he, (goodS_is (g e he) k).2 q⟩
  · rintro ⟨e, he, q⟩
    exact ⟨e, he, (goodS_is (g e he) k).1 q⟩
end
section
variable {P : Program} {w : World} {A : Around} {E : Value → Shared → Prop} {s : Shared} {a : Addr} {ks : List Str}
theorem setS_tail {g : Bool → Sem Unit} (hg : ∀ (b : Bool) (s₁ : Shared) (Q' : Unit → Shared → Prop), Q' () s₁ → wpAny (model P w) A (g b) Q' E s₁)
    {o : Obj} {es : Array (Int × Value)} {ep : Nat} {t : SetTable} (ho : s.heap.get? a = some o) (hex : o.ExactSet) (hd : o.data = .set es ep t)
    {es1 : Array (Int × Value)} {t2 : SetTable} (g1 : ∀ e ∈ es1.toList, GoodS w e) (nd1 : (es1.toList.map keyS).Nodup) (m1 : ∀ k, k ∈ ks ↔ k ∈ es1.toList.map keyS)
    (hb1 : es1.size < scanBound) (hf2 : t2.fits es1.size = true) (hn1 : es1.size ≤ ks.length) (hr : Ris t2.place.toList) (hl : w.params.followText "set-order" = true ∨ t2.led = true) {wasDummy : Bool} {R : Option Bool → Shared → Prop}
    (hR : ∀ h', Heap.SameBut a s.heap h' → SetS w h' a ks → R (some true) { s with heap := h' }) :
    wpAny (model P w) A (do
        storeSet a es1 t2
        if (!wasDummy && t2.tooFull) = true then do
            g (relayAll t2 es1 (SetTable.grown es1.size)).2.2
            storeSet a (relayAll t2 es1 (SetTable.grown es1.size)).1 (relayAll t2 es1 (SetTable.grown es1.size)).2.1
            pure (some true)
          else pure (some true)) R E s := by
  refine wpAny_bind (wpAny_storeSet_of ho hd ?_ (fits_of_scanBound hb1))
  have ho1 := store_at (es' := es1) (t' := t2) ho hd
  have sb1 := Heap.SameBut.update s.heap a (Obj.putSet es1 t2)
  split
  · have pm := relayAll_perm t2 es1 (SetTable.grown es1.size)
    have hf3 := relayAll_fits t2 es1 (SetTable.grown es1.size)
    have hr3 := relayAll_ris t2 es1 (SetTable.grown es1.size)
    have hl3 := relayAll_led t2 es1 (SetTable.grown es1.size)
    generalize relayAll t2 es1 (SetTable.grown es1.size) = Z at pm hf3 hr3 hl3 ⊢
    obtain ⟨es2, t3, gave⟩ := Z
    dsimp only at pm hf3 hr3 hl3 ⊢
    have hsz : es2.size = es1.size := by rw [← Array.length_toList, pm.length_eq, Array.length_toList]
    have hb2 : es2.size < scanBound := by rw [hsz]; exact hb1
    refine wpAny_bind (hg _ _ _ ?_)
    refine wpAny_bind (wpAny_storeSet_of ho1 rfl ?_ (fits_of_scanBound hb2))
    have ho2 := store_at (es' := es2) (t' := t3) ho1 rfl
    refine wpAny_pure (hR _ (sb1.trans (Heap.SameBut.update _ a _)) ?_)
    exact ⟨_, es2, _, t3, ho2, hex, rfl, fun e he => g1 e (pm.mem_iff.mp he), (pm.map keyS).nodup_iff.mpr nd1, fun k => (m1 k).trans (pm.map keyS).mem_iff.symm, hb2, hf3, by rw [hsz]; exact hn1, hr3,
      hl.imp id fun z => by rw [hl3]; exact z⟩
  · exact wpAny_pure (hR _ sb1 ⟨_, es1, _, t2, ho1, hex, rfl, g1, nd1, m1, hb1, hf2, hn1, hr, hl⟩)
theorem setS_add {k : Str} {tk : Tok} {Q : Bool → Shared → Prop} (R : SetS w s.heap a ks) (room : ks.length + 1 < scanBound)
    (hQ : ∀ b h', Heap.SameBut a s.heap h' → SetS w h' a (ks ++ [k]) → Q b { s with heap := h' }) :
    wpAny (model P w) A (setAddHashed a (.str k tk) ((PySem.strKind P w).hash k)) Q E s := by
  obtain ⟨o, es, ep, t, ho, hex, hd, g, nd, hm, hb, hf, hn, hr, hl⟩ := R
  have hkey : (PySem.strKind P w).is k (.str k tk) = true := strKind_is P w k tk
  have hsc : (Value.str k tk).scannable = true := rfl
  have hel : ElemsOf (PySem.strKind P w) es.toList := goodS_elems g
  have hn' : (ks ++ [k]).length = ks.length + 1 := by simp
  unfold setAddHashed setAddHashedIn
  refine wpAny_holding (wpAny_bind (wpAny_setState_of ho hd hf ?_))
  dsimp only
  rw [byScan_of hsc hb hel]
  simp only [↓reduceIte]
  unfold setAddByScan
  refine wpAny_bind ?_
  refine wpAny_bind (wpAny_rule ?_)
  refine wpAny_bind (wpAny_setScan_of hkey ho hd hf hel ?_)
  cases hfi : List.findIdx? (fun e => (PySem.strKind P w).is k e.2) es.toList with
  | some j =>
    dsimp only
    obtain ⟨hj, pj, _⟩ := List.findIdx?_eq_some_iff_getElem.mp hfi
    have hSk : k ∈ ks := (hm k).2 ((goodS_mem (P := P) (w := w) g k).2 ⟨es.toList[j], List.getElem_mem hj, pj⟩)
    refine wpAny_pure (wpAny_pure ?_)
    exact hQ _ s.heap (Heap.SameBut.refl a s.heap) ⟨o, es, ep, t, ho, hex, hd, g, nd, fun i => by
      rw [List.mem_append, List.mem_singleton, ← hm i]
      exact ⟨fun z => z.elim id (fun e => e ▸ hSk), .inl⟩, hb, hf, by omega, hr, hl⟩
  | none =>
    dsimp only
    have hnk : k ∉ es.toList.map keyS := fun z => by
      obtain ⟨e, he, q⟩ := (goodS_mem (P := P) (w := w) g k).1 z
      have c := List.findIdx?_eq_none_iff.mp hfi e he
      rw [q] at c
      cases c
    have hgw : ∀ (b : Bool) {s₁ : Shared} {Q' : Unit → Shared → Prop}, Q' () s₁ → wpAny (model P w) A (match b with | true => rule "set.scan.the-table-gave-way" | false => pure ()) Q' E s₁ :=
      fun b s₁ Q' q => by cases b <;> first | exact wpAny_pure q | exact wpAny_rule q
    have pm := layNew_perm t es ((PySem.strKind P w).hash k) (.str k tk)
    have hf1 := layNew_fits t es ((PySem.strKind P w).hash k) (.str k tk)
    have hr1 := layNew_ris t es ((PySem.strKind P w).hash k) (.str k tk) hr
    have hl1 := layNew_led t es ((PySem.strKind P w).hash k) (.str k tk)
    generalize layNew t es ((PySem.strKind P w).hash k) (.str k tk) = Z at pm hf1 hr1 hl1 ⊢
    obtain ⟨es1, t1, wasDummy, gave⟩ := Z
    dsimp only at pm hf1 hr1 hl1 ⊢
    rw [Array.toList_push] at pm
    have pc : es1.toList.Perm (((PySem.strKind P w).hash k, Value.str k tk) :: es.toList) := pm.trans (List.perm_append_singleton _ _)
    have pk : (es1.toList.map keyS).Perm (k :: es.toList.map keyS) := pc.map keyS
    have g1 : ∀ e ∈ es1.toList, GoodS w e := fun e he => by
      rcases List.mem_cons.mp (pc.mem_iff.mp he) with z | z
      · rw [z]; exact ⟨k, tk, rfl, rfl⟩
      · exact g e z
    have nd1 : (es1.toList.map keyS).Nodup := pk.nodup_iff.mpr (List.nodup_cons.mpr ⟨hnk, nd⟩)
    have m1 : ∀ i, i ∈ ks ++ [k] ↔ i ∈ es1.toList.map keyS := fun i => by
      rw [List.mem_append, List.mem_singleton, hm i, pk.mem_iff, List.mem_cons]
      exact Or.comm
    have hsz : es1.size = es.size + 1 := by rw [← Array.length_toList, pc.length_eq, List.length_cons, Array.length_toList]
    have hb1 : es1.size < scanBound := by omega
    have hn1 : es1.size ≤ (ks ++ [k]).length := by omega
    have hled : w.params.followText "set-order" = true ∨ t1.led = true := hl.imp id fun z => by rw [hl1]; exact z
    have fin : ∀ h', Heap.SameBut a s.heap h' → SetS w h' a (ks ++ [k]) → Q true { s with heap := h' } := fun h' sb r => hQ _ h' sb r
    refine wpAny_bind (hgw _ ?_)
    split
    · refine wpAny_bind ?_
      rw [hashByValue_scannable 8 hsc]
      refine wpAny_pure ?_
      refine setS_tail (ks := ks ++ [k]) ?_ ho hex hd g1 nd1 m1 hb1 ?_ hn1 ?_ ?_ ?_
      · intro b s₁ Q' q; cases b <;> first | exact wpAny_pure q | exact wpAny_rule q
      · first | (split <;> first | exact hf1 | exact SetTable.fits_plain_off hf1) | exact hf1
      · first | (split <;> exact hr1) | exact hr1
      · first | (split <;> exact hled) | exact hled
      · intro h' sb r; dsimp only; exact wpAny_pure (fin h' sb r)
    · refine wpAny_bind (wpAny_pure ?_)
      simp only [↓reduceIte]
      refine setS_tail (ks := ks ++ [k]) ?_ ho hex hd g1 nd1 m1 hb1 hf1 hn1 hr1 hled ?_
      · intro b s₁ Q' q; cases b <;> first | exact wpAny_pure q | exact wpAny_rule q
      · intro h' sb r; dsimp only; exact wpAny_pure (fin h' sb r)
end
section
variable {P : Program} {w : World} {A : Around} {R : Result → Shared → Prop} {it S : Addr} {fp wr : List Addr} {G : Array GenState → Array GenState → Prop} {n : Nat} {V' : Nat → Value → Prop} {St : Nat → Shared → Prop}
theorem setS_loop (Wk : WalksS P w A.in1 it fp wr G n V' St) (nf : S ∉ fp) (xs : List Str) (hl : xs.length = n) (hb : n + 1 < scanBound) (hv : ∀ i v, V' i v → ∃ t, v = .str (xs.getD i Str.empty) t) :
    ∀ (k i : Nat) (s : Shared), n - i = k → i ≤ n → St i s → SetS w s.heap S (xs.take i) →
      (∀ s', Moved (S :: wr) G s s' → SetS w s'.heap S xs → R (.ok (.ret .none)) s') → codeAny (model P w) A (.builtin "set.update.loop" ⟨[.ref S, .ref it], []⟩) R s := by
  have nw : S ∉ wr := fun z => nf (Wk.sub _ z)
  have at' : ∀ {s s' : Shared} {f : List Str}, Moved wr G s s' → SetS w s.heap S f → SetS w s'.heap S f := fun hm ⟨o, es, ep, tb, ho, rest⟩ => ⟨o, es, ep, tb, hm.heap S _ nw ho, rest⟩
  intro k
  induction k with
  | zero =>
    intro i s e1 e2 st hS fin
    obtain rfl : i = n := by omega
    refine codeAny_builtin PyProof.Rows.F.entry_set_update_loop ?_; rw [Around.under_plainId (PyProof.Rows.F.plain_set_update_loop) _]
    show wpAny _ A.in1 (pyNext (.ref it) >>= _) _ _ s
    refine wpAny_bind (Wk.done s _ _ st fun s' hm => wpAny_pure (fin s' (hm.mono fun b z => List.mem_cons_of_mem _ z) ?_))
    have := at' hm hS
    rw [List.take_of_length_le (Nat.le_of_eq hl)] at this
    exact this
  | succ k ih =>
    intro i s e1 e2 st hS fin
    refine codeAny_builtin PyProof.Rows.F.entry_set_update_loop ?_; rw [Around.under_plainId (PyProof.Rows.F.plain_set_update_loop) _]
    show wpAny _ A.in1 (pyNext (.ref it) >>= _) _ _ s
    refine wpAny_bind (Wk.item i s _ _ (by omega) st fun v s' hp st' hm => ?_)
    obtain ⟨t, rfl⟩ := hv i v hp
    have hS' := at' hm hS
    refine wpAny_bind (m := holding [Value.str (xs.getD i Str.empty) t] (setAdd S (.str (xs.getD i Str.empty) t))) (wpAny_holding ?_)
    unfold setAdd
    refine wpAny_holding (wpAny_bind ((PySem.strKind P w).pyHash (k := xs.getD i Str.empty) (strKind_is _ _ _ _) ?_))
    have hi : i < xs.length := by omega
    refine setS_add (s := { s' with toks := s'.toks + 1 }) hS' (by rw [List.length_take]; omega) fun b0 h' sb hS2 => ?_
    have eg : xs.getD i Str.empty = xs[i] := by simp [List.getD_eq_getElem?_getD, List.getElem?_eq_getElem hi]
    have hS3 : SetS w h' S (xs.take (i + 1)) := by
      rw [List.take_succ, List.getElem?_eq_getElem hi, Option.toList_some, ← eg]
      exact hS2
    refine wpAny_pure ⟨plainId_quiet PyProof.Rows.F.plain_set_update_loop _, ih (i + 1) _ (by omega) (by omega) (Wk.frame _ s' _ _ st' (Nat.le_succ _) fun b z o e => ?_) hS3 fun s2 m2 hS4 => fin s2 (Moved.trans Wk.gtrans ((hm.mono fun b z => List.mem_cons_of_mem _ z).then_heap (Nat.le_succ _) fun b o z e => ?_) m2) hS4⟩
    · rw [sb.2 b (fun y : b = S => nf (y ▸ z))]
      exact e
    · rw [sb.2 b (fun y : b = S => z (by rw [y]; exact List.mem_cons_self))]
      exact e
end
end Y

namespace Y
open PySem PySem.Spec PyProof.Rows
open L2 (SetIt SetAt Ris collect_set code_set_led1)
section
variable {P : Program} {w : World} {A : Around} {E : Value → Shared → Prop} {R' : Result → Shared → Prop} {s : Shared} {l : Addr} {items : Array Value} {xs : List Str} {Q : Value → Shared → Prop}
abbrev ledW (w : World) : Bool := !w.params.followText "set-order"
theorem setS_fresh {h : Heap} {a : Addr} (e : h.get? a = some (set0 (ledW w))) : SetS w h a [] :=
  ⟨_, #[], 0, _, e, ⟨rfl, rfl, rfl⟩, rfl, (fun e he => by simp at he), (by simp), (fun k => by simp), (by decide), (by rfl), Nat.le_refl _, List.Pairwise.nil, by
    show _ ∨ (!w.params.followText "set-order") = true
    cases w.params.followText "set-order"
    · exact .inr rfl
    · exact .inl rfl⟩
theorem setS_fill {c : Addr} {W3 : Around} (hh : W3.handled = none) (hl : s.heap.IsList l items) (hi : StrsAre items.toList xs) (hb : xs.length + 1 < scanBound) (hS : s.heap.get? c = some (set0 (ledW w))) (hc : c < s.heap.objs.size) (hne : l ≠ c)
    (fin : ∀ (h' : Heap) (tk : Nat), SetS w h' c xs → (∀ b o, b ≠ c → s.heap.get? b = some o → h'.get? b = some o) → R' (.ok (.ret .none)) { s with heap := h', toks := tk }) :
    codeAny (model P w) W3 (.builtin "set.update.loop" ⟨[.ref c, .ref s.heap.objs.size], []⟩) R' { s with heap := s.heap.push { cls := .type "list_iterator", data := .fields #[.ref l, .int 0 0] } } := by
  have ll : l < s.heap.objs.size := by obtain ⟨o, ho, _⟩ := hl; exact Heap.lt_size ho
  have hz : xs.length = items.size := by rw [← StrsAre.len_eq hi, Array.length_toList]
  refine setS_loop ((Walks.list (by simp [hh]) _ l (Nat.ne_of_lt ll) items).toS) (fun z => ?_) xs hz (by rw [← hz]; exact hb) (fun i v e => SS.strs_at hi i v (by rw [Array.getElem?_toList]; exact e)) _ 0 _ rfl (Nat.zero_le _) ⟨⟨_, Heap.get?_push_size _ rfl, rfl, rfl⟩, hl.push _⟩ ?_ fun s' m hS2 => ?_
  · rcases List.mem_cons.mp z with y | y
    · exact absurd hc (by rw [y]; exact Nat.lt_irrefl _)
    · exact hne (List.mem_singleton.mp y).symm
  · exact setS_fresh (Heap.get?_push_of_some _ hS)
  · obtain ⟨h', g', d', tk', os'⟩ := s'
    obtain rfl : g' = s.gens := m.gens
    obtain rfl : d' = s.drawn := m.drawn
    obtain rfl : os' = s.os := m.os
    refine fin h' tk' hS2 fun b o hb e => m.heap b o (fun z => ?_) (Heap.get?_push_of_some _ e)
    rcases List.mem_cons.mp z with y | y
    · exact hb y
    · exact absurd (Heap.lt_size e) (by rw [List.mem_singleton.mp y]; exact Nat.lt_irrefl _)
theorem call_setS (hh : A.handled = none) (hl : s.heap.IsList l items) (hi : StrsAre items.toList xs) (hb : xs.length + 1 < scanBound)
    (fin : ∀ (h' : Heap) (tk : Nat), SetS w h' s.heap.objs.size xs → (∀ b o, s.heap.get? b = some o → h'.get? b = some o) → Q (.ref s.heap.objs.size) { s with heap := h', toks := tk }) :
    wpAny (model P w) A (call (.type "set") [.ref l]) Q E s := by
  obtain ⟨mc, mt, mm⟩ := PySem.F.called_set.mro
  have k1 := PySem.F.called_set.made; have k2 := PySem.F.called_set.sub; have k3 := PySem.F.called_set.notType; have k4 := PySem.F.called_set.canCreate; have k5 := PySem.F.typeCall_set_1 (.ref l)
  refine wpAny_call (codeAny_of_tree ?_); show wpAny _ _ (callAny (.type "set") _) _ _ _
  refine wpAny_pure ⟨Code.quiet_builtin _ (by decide +kernel), codeAny_builtin PySem.F.entry_type_call ?_⟩; rw [Around.under_plain (weight_type_call_type "set" [.ref l] []) rfl]
  repeat (any_goals (first | assumption | wp_step))
  refine codeAny_mono (code_set_led1 (.ref l) (E := E) (Q₁ := fun obj s₁ => obj = .ref s.heap.objs.size ∧ s₁ = { s with heap := s.heap.push (set0 (ledW w)) }) ⟨rfl, rfl⟩) fun r s₁ hr => ?_
  match r, hr with
  | .error e, hr => exact hr
  | .ok .next, hr => exact hr.elim
  | .ok .brk, hr => exact hr.elim
  | .ok .cont, hr => exact hr.elim
  | .ok (.ret obj), hr =>
    obtain ⟨rfl, rfl⟩ := hr
    have hS : (s.heap.push (set0 (ledW w))).get? s.heap.objs.size = some (set0 (ledW w)) := Heap.get?_push_size _ rfl
    have hT : Shared.TypeIs { s with heap := s.heap.push (set0 (ledW w)) } (.ref s.heap.objs.size) "set" := ⟨_, hS, rfl⟩
    have k6 := PySem.F.called_set.init.lookup; have k7 := PySem.F.called_set.init.bind (.ref s.heap.objs.size)
    repeat (any_goals (first | assumption | wp_step))
    refine codeAny_mono (codeAny_call_builtin (R := wants (fun r s₂ => r = .none ∧ ∃ h' tk, s₂ = { s with heap := h', toks := tk } ∧ SetS w h' s.heap.objs.size xs ∧ (∀ b o, s.heap.get? b = some o → h'.get? b = some o)) E)
      PySem.F.called_set.init.plain PySem.F.entry_set_init (check_set_init_1 hT ?_)) fun r₂ s₂ hr₂ => ?_
    · have ll : l < s.heap.objs.size := by obtain ⟨o, ho, _⟩ := hl; exact Heap.lt_size ho
      obtain ⟨⟨oc, od, odt, osl⟩, ho, hc, nl, hd⟩ := hl
      simp only at hc hd; subst hc; subst hd
      have ho' : (s.heap.push (set0 (ledW w))).get? l = some { cls := .type "list", dict := od, data := .seq items nl, slots := osl } := Heap.get?_push_of_some _ ho
      have k8 := PySem.F.sub_list_set; have k9 := PySem.F.sub_list_frozenset; have k10 : (Value.type "list" == Value.type "dict") = false := by decide
      have hl1 : (s.heap.push (set0 (ledW w))).IsList l items := ⟨_, ho', rfl, nl, rfl⟩
      unfold Builtin.«set.__init__» noKeywords Builtin.Frozenset.updateFrom; generalize hPI : pyIter = PI
      wp_walk
      subst hPI
      refine wpAny_pyIter_list hl1 ?_; refine wpAny_bind (wpAny_runValue ?_)
      refine setS_fill (s := { s with heap := s.heap.push (set0 (ledW w)) }) (by simp [hh]) hl1 hi hb hS (by rw [Heap.size_push]; exact Nat.lt_succ_self _) (Nat.ne_of_lt ll) fun h' tk hS2 k => ?_
      show wpAny _ _ _ _ _ _; refine wpAny_pure ?_
      show wpAny _ _ (ret Value.none) _ _ _
      exact wpAny_pure ⟨rfl, h', tk, rfl, hS2, fun b o e => k b o (Nat.ne_of_lt (Heap.lt_size e)) (Heap.get?_push_of_some _ e)⟩
    · match r₂, hr₂ with
      | .error e, hr₂ => exact hr₂
      | .ok .next, hr₂ => exact hr₂.elim
      | .ok .brk, hr₂ => exact hr₂.elim
      | .ok .cont, hr₂ => exact hr₂.elim
      | .ok (.ret r), hr₂ =>
        obtain ⟨rfl, h', tk, rfl, hS2, k⟩ := hr₂
        repeat (any_goals (first | assumption | wp_step))
        exact fin _ _ hS2 k
end
end Y

namespace Y
open PySem PySem.Spec PyProof.Rows L2 RT RZ
/-! ### texts without doubles, sorted -/
def ddup : List Str → List Str
  | [] => []
  | x :: xs => if x ∈ xs then ddup xs else x :: ddup xs
theorem mem_ddup {y : Str} : ∀ {xs : List Str}, y ∈ ddup xs ↔ y ∈ xs
  | [] => Iff.rfl
  | x :: xs => by
    unfold ddup
    split
    · rename_i h
      rw [mem_ddup (xs := xs), List.mem_cons]
      exact ⟨.inr, fun z => z.elim (fun e => e ▸ h) id⟩
    · rw [List.mem_cons, List.mem_cons, mem_ddup (xs := xs)]
theorem ddup_nodup : ∀ xs : List Str, (ddup xs).Nodup
  | [] => List.nodup_nil
  | x :: xs => by
    unfold ddup
    split
    · exact ddup_nodup xs
    · rename_i h
      exact List.nodup_cons.mpr ⟨fun z => h (mem_ddup.mp z), ddup_nodup xs⟩
theorem ddup_le : ∀ xs : List Str, (ddup xs).length ≤ xs.length
  | [] => Nat.le_refl _
  | x :: xs => by
    unfold ddup
    have := ddup_le xs
    split <;> simp <;> omega
def dsort (xs : List Str) : List Str := (ddup xs).mergeSort leS
theorem mem_dsort {y : Str} {xs : List Str} : y ∈ dsort xs ↔ y ∈ xs := (List.mergeSort_perm _ _).mem_iff.trans mem_ddup
theorem dsort_nodup (xs : List Str) : (dsort xs).Nodup := (List.mergeSort_perm _ _).nodup_iff.mpr (ddup_nodup xs)
theorem leS_antisymm {a b : Str} (h1 : leS a b = true) (h2 : leS b a = true) : a = b := by
  have e := List.le_antisymm (of_decide_eq_true h1) (of_decide_eq_true h2)
  cases a
  cases b
  exact congrArg Str.mk (Array.toList_inj.mp e)
theorem sorted_uniq : ∀ {l m : List Str}, l.Pairwise (fun a b => leS a b = true) → m.Pairwise (fun a b => leS a b = true) → l.Perm m → l = m
  | [], m, _, _, h => by rw [List.nil_perm.mp h]
  | x :: l, m, h1, h2, h => by
    cases m with
    | nil => exact absurd h.length_eq (by simp)
    | cons y m =>
      obtain ⟨a1, a2⟩ := List.pairwise_cons.mp h1
      obtain ⟨b1, b2⟩ := List.pairwise_cons.mp h2
      have e : x = y := by
        have hx : x ∈ y :: m := h.mem_iff.mp (.head _)
        have hy : y ∈ x :: l := h.mem_iff.mpr (.head _)
        rcases List.mem_cons.mp hx with e | hx
        · exact e
        · rcases List.mem_cons.mp hy with e | hy
          · exact e.symm
          · exact leS_antisymm (a1 y hy) (b1 x hx)
      subst e
      rw [sorted_uniq a2 b2 (List.perm_cons x |>.mp h)]
theorem dsort_sorted (xs : List Str) : (dsort xs).Pairwise (fun a b => leS a b = true) := List.pairwise_mergeSort leS_trans leS_total _
theorem dsort_eq {xs l : List Str} (h1 : l.Pairwise (fun a b => leS a b = true)) (h2 : l.Nodup) (h3 : ∀ y, y ∈ l ↔ y ∈ xs) : l = dsort xs := by
  refine sorted_uniq h1 (dsort_sorted xs) ?_
  exact (List.perm_ext_iff_of_nodup h2 (dsort_nodup xs)).mpr fun y => (h3 y).trans mem_dsort.symm
theorem dsort_congr {xs ys : List Str} (h : ∀ y, y ∈ xs ↔ y ∈ ys) : dsort xs = dsort ys :=
  dsort_eq (dsort_sorted xs) (dsort_nodup xs) fun y => mem_dsort.trans (h y)
section
variable {P : Program} {w : World} {A : Around} {E : Value → Shared → Prop} {s : Shared} {a : Addr} {ks : List Str}
theorem strs_each : ∀ {vs : List Value}, (∀ v ∈ vs, ∃ k tk, v = Value.str k tk) → PySem.W.EachIs (fun v (k : Str) => ∃ tk, v = Value.str k tk) vs (vs.map fun v => keyS (0, v))
  | [], _ => .nil
  | v :: vs, h => by
    obtain ⟨k, tk, rfl⟩ := h v (.head _)
    exact .cons ⟨tk, rfl⟩ (strs_each fun u hu => h u (.tail _ hu))
theorem each_strVals : ∀ {vs : List Value} {ns : List Str}, PySem.W.EachIs (fun v (k : Str) => ∃ tk, v = Value.str k tk) vs ns → Vals (ns.map V.str) vs
  | _, _, .nil => .nil
  | _, _, .cons h t => .cons h (each_strVals t)
/-- sorted(set) -/
theorem sorted_setS {Q : Value → Shared → Prop} (R : SetS w s.heap a ks) (hh : A.handled = none) (hu : A.units + 65 < cLine)
    (hQ : ∀ s' p (out : List Value) (c : Nat), (∀ b o, s.heap.get? b = some o → s'.heap.get? b = some o) → s'.gens = s.gens → s'.os = s.os → s.heap.objs.size ≤ p →
      s'.heap.get? p = some (seqObj "list" out.toArray c) → Vals ((dsort ks).map V.str) out → Q (.ref p) s') :
    wpAny (model P w) A (call (.builtin "sorted") [.ref a]) Q E s := by
  obtain ⟨o, es, ep, t, ho, hex, hd, g, nd, hm, hb, hf, hn, hr, hl⟩ := R
  refine Calls.call_function_entry kind_sorted plain_sorted entry_sorted (args_sorted1 _) ?_
  unfold Builtin.«sorted»
  refine wpAny_bind (m := checkCount "sorted" 1 1 _) (wpAny_pure ?_)
  refine wpAny_bind (collect_set (A := A.in1) hh ⟨o, ho, hex.1, hd⟩ hf hb hr hl fun s1 vs k1 hz g1 o1 pm => ?_)
  have hvl : vs.length = es.size := by rw [pm.length_eq, List.length_map, Array.length_toList]
  have hL : vs.length ≤ sizeLine := by rw [hvl]; exact fits_of_scanBound hb
  have hvs : ∀ v ∈ vs, ∃ k tk, v = Value.str k tk := fun v hv => by
    obtain ⟨e, he, q⟩ := List.mem_map.mp (pm.mem_iff.mp hv)
    obtain ⟨k, tk, h1, _⟩ := g e he
    exact ⟨k, tk, by rw [← q]; exact h1⟩
  have ev := strs_each hvs
  have pk : (vs.map fun v => keyS (0, v)).Perm (es.toList.map keyS) := by
    have q := pm.map fun v => keyS (0, v)
    rw [List.map_map] at q
    exact q
  refine wpAny_bind (wpAny_newList ?_ hL)
  have hoL : (s1.heap.push (seqObj "list" vs.toArray 0)).get? s1.heap.objs.size = some (seqObj "list" vs.toArray 0) := Heap.get?_push_size _ rfl
  have er : PySem.W.EachIs (fun v (k : Str) => ∃ as, Reads (PySem.W.sortingHeap (s1.heap.push (seqObj "list" vs.toArray 0)) s1.heap.objs.size vs) v (PyData.str k) as) vs (vs.map fun v => keyS (0, v)) := ev.mono fun v k ⟨tk, e⟩ => ⟨[], e ▸ .str k tk⟩
  have hal : PySem.W.AllAlike ((vs.map fun v => keyS (0, v)).map PyData.str) := PySem.W.AllAlike.of fun a b => by simp [PySem.W.alike]
  have hsk : PySem.W.Sortable ((vs.map fun v => keyS (0, v)).map PyData.str) := PySem.W.Sortable.others fun a => ⟨fun z => (nomatch z), fun xs z => (nomatch z)⟩
  have S := PySem.W.SortsAt.data (prog := P) (w := w) (A := A.in1.in1) (s := { s1 with heap := PySem.W.sortingHeap (s1.heap.push (seqObj "list" vs.toArray 0)) s1.heap.objs.size vs }) (PySem.W.each_map (R := fun v d => ∃ as, Reads (PySem.W.sortingHeap (s1.heap.push (seqObj "list" vs.toArray 0)) s1.heap.objs.size vs) v d as) PyData.str er) hal hsk (fun d hd => by
    obtain ⟨k, hk, rfl⟩ := List.mem_map.mp hd
    have q2 : A.in1.in1.units = A.units + 2 := rfl
    rw [q2]
    simp only [PyData.depth]
    omega)
  have data := PySem.W.sortVals_data (h' := PySem.W.sortingHeap (s1.heap.push (seqObj "list" vs.toArray 0)) s1.heap.objs.size vs) (enc := PyData.str) false ev er hal
  refine wpAny_bind (wpAny_holding (wpAny_call_entry slot_list_sort ⟨_, hoL, rfl⟩ entry_list_sort (PySem.W.list_sort_vals (s := { s1 with heap := s1.heap.push (seqObj "list" vs.toArray 0) }) hoL S hL ⟨_, rfl, ?_⟩) (args_list_sort _)))
  obtain ⟨c, hc⟩ := PyProof.Rows.sortedHeap_at (vs := vs) (out := (PySem.W.sortVals (PySem.W.dataKind (PySem.W.sortingHeap (s1.heap.push (seqObj "list" vs.toArray 0)) s1.heap.objs.size vs) ((vs.map fun v => keyS (0, v)).map PyData.str)) false vs vs).toArray) hoL
  have es2 : (vs.map fun v => keyS (0, v)).mergeSort (PySem.W.dataLe false PyData.str) = dsort ks := by
    have pm2 := List.mergeSort_perm (vs.map fun v => keyS (0, v)) (PySem.W.dataLe false PyData.str)
    have ele : PySem.W.dataLe false PyData.str = leS := by
      funext x y
      exact leT_str x y
    rw [ele] at pm2 ⊢
    refine dsort_eq (List.pairwise_mergeSort leS_trans leS_total _) (pm2.nodup_iff.mpr (pk.nodup_iff.mpr nd)) fun y => ?_
    rw [pm2.mem_iff, pk.mem_iff, hm y]
  rw [es2] at data
  refine wpAny_pure ⟨_, rfl, hQ _ s1.heap.objs.size _ c (fun b u e => ?_) g1 o1 hz hc (each_strVals data)⟩
  have q := k1 b u e
  have hlt := Heap.lt_size q
  show (PyProof.Rows.sortedHeap (s1.heap.push (seqObj "list" vs.toArray 0)) s1.heap.objs.size vs _).get? b = some u
  rw [PyProof.Rows.sortedHeap_old (Nat.ne_of_lt hlt) (by rw [size_push']; exact Nat.lt_succ_of_lt hlt)]
  exact Heap.get?_push_of_some _ q
end
end Y

namespace Y
open PySem PySem.Spec PyProof.Rows L2 RT RZ
section
variable {X : Cx} {W : Wld} {a : Expr} {ta : TE} {pa : PE'} {p p2 q pos : Pos}
/-- sorted(set(names)) -/
def tSortSt (K : PySem.W.Frag) (ta : TE) : TE := fun σ H Q => ta σ H fun x H1 => ∃ (l : Addr) (xs : List Str), x = V.ref l ∧ SqL K H1 l (xs.map V.str) ∧ xs.length ≤ 16000000 ∧ xs.length + 1 < scanBound ∧ ∀ p, H1 p = none → Q (V.ref p) (upd H1 p (.lst ((dsort xs).map V.str)))
theorem pe_sortSt (hu : X.A.units + 65 < cLine) (hc : X.calm = true) (hg : Gl X "sorted") (hm : X.mg "sorted" = none) (hg2 : Gl X "set") (hm2 : X.mg "set" = none) (ha : PE X a ta)
    (na : starEach [a] X.env = (false, eval a X.env) :: starEach [] X.env := by rfl) : PE X (.Call (.Name "sorted" p) [.Call (.Name "set" p2) [a] [] q] [] pos) (tSortSt X.K ta) := by
  have hs16 := sl16
  refine ⟨fun pins s σ H Q I h => Call_ (ld_blt I hg hm PyProof.Rows.boot_sorted (PyProof.Rows.callWith_builtin1 (PyProof.Rows.args_cons (Call_ (ld_blt I hg2 hm2 boot_set ?_)) rfl) rfl rfl))⟩
  refine PyProof.Rows.callWith_type1 (PyProof.Rows.args_cons (thn (ha.run pins s σ H _ I h) fun v s1 ⟨x, H1, I1, r1, q1⟩ => PyProof.Rows.args_nil ?_) na) na rfl
  obtain ⟨l, xs, rfl, hq, hz0, hb, q1⟩ := q1
  obtain rfl : v = Value.ref l := r1
  obtain ⟨its, r, pl, hz⟩ := I1.list hq
  refine call_setS (I1.ok.hd hc) pl.isList (by simpa using strsAre_of r) hb fun h' tk hS hk => PyProof.Rows.args_nil ?_
  have I2 : Inv X pins σ H1 { s1 with heap := h', toks := tk } := I1.kept hk
  have hS2 : SetS X.w ({ s1 with heap := h', toks := tk } : Shared).heap s1.heap.objs.size xs := hS
  generalize ({ s1 with heap := h', toks := tk } : Shared) = s2 at I2 hS2 ⊢
  refine sorted_setS hS2 (I1.ok.hd hc) hu fun s' p out c k g o hp hg hv => ?_
  have hlen : ((dsort xs).map V.str).length ≤ sizeLine := by
    have h1 := ddup_le xs
    have h2 : (dsort xs).length = (ddup xs).length := (List.mergeSort_perm _ _).length_eq
    rw [List.length_map, sizeLine_eq]
    omega
  have hn : H1 p = none := I2.hok.fresh hp
  have J : Inv X pins σ (upd H1 p (.lst ((dsort xs).map V.str))) { s2 with heap := s'.heap, gens := s'.gens, drawn := s'.drawn, toks := s'.toks } :=
    I2.call (ch := []) (Un.laid k hp hn) (I2.hok.laid k hp ⟨hlen, out, c, hv, hg⟩) (by rw [g]; exact I2.bare) (fun _ z => nomatch z)
  have e : s' = { s2 with heap := s'.heap, gens := s'.gens, drawn := s'.drawn, toks := s'.toks } := by
    cases s'
    cases s2
    cases o
    rfl
  rw [e]
  exact ⟨.ref p, _, J, rfl, q1 p hn⟩
def pSortSt (pa : PE') : PE' := fun ρ Φ => pa ρ fun t _ ρ' => ∃ xs : List Str, t = .lst (xs.map T.str) ∧ xs.length < 4000 ∧ Φ (.lst ((dsort xs).map T.str)) true ρ'
theorem qe_sortSt (hu : X.A.units + 65 < cLine) (hc : X.calm = true) (hg : Gl X "sorted") (hm : X.mg "sorted" = none) (hg2 : Gl X "set") (hm2 : X.mg "set" = none) (ha : QE X W a pa)
    (na : starEach [a] X.env = (false, eval a X.env) :: starEach [] X.env := by rfl) : QE X W (.Call (.Name "sorted" p) [.Call (.Name "set" p2) [a] [] q] [] pos) (pSortSt pa) := by
  obtain ⟨t, h1, h2⟩ := ha.ex
  refine ⟨_, pe_sortSt hu hc hg hm hg2 hm2 h1 na, fun B F0 ρ σ F H Φ Q R hp k => ?_⟩
  refine h2.fz R hp fun τ ρ1 v F1 H1 R1 le1 tv q1 => ?_
  obtain ⟨xs, rfl, hb, q1⟩ := q1
  obtain ⟨a, ys, rfl, h5, h6⟩ := tv
  rw [TvL.strs xs rfl h6] at h5
  refine ⟨a, xs, rfl, .of (R1.fh _ _ h5), by omega, by unfold scanBound; omega, fun p np => ?_⟩
  obtain ⟨R2, vr⟩ := R1.newL np (tvl_strs (dsort xs))
  exact k _ true ρ1 _ F1 _ R2 le1 vr q1
end
end Y

namespace Y
open PySem PySem.Spec PyProof.Rows L2 RT RZ
section
variable {g : PG'} {pk pv : PE'} {vs : List Nat} {items : List T} {ρ1 : PS'} {Φ : T → Bool → PS' → Prop}
/-- {k: v for ..}, the keys all different -/
theorem dckT_map (kf : T → Key) (vf : T → T) (hl : items.length ≤ 16000000) (now : ∀ i ∈ vs, ∀ l, ρ1[i]? ≠ some (Sl.own l)) (nd : (items.map kf).Nodup)
    (step : ∀ t (C : Key → T → PS' → Prop) (D : PS' → Prop), t ∈ items → (∀ ρ6, wipeP ρ6 vs = wipeP ρ1 vs → C (kf t) (vf t) ρ6) → g t false (wipeP ρ1 vs) fun ρ3 => pYes ρ3 fun b ρ4 => if b = true then pk ρ4 fun y _ ρ5 => pv ρ5 fun z _ ρ6 => KDset y fun k => C k z ρ6 else D ρ4)
    (fin : Φ (.dct (items.map kf) (items.map vf)) true (restore ρ1 (wipeP ρ1 vs) vs)) : DcK g pYes pk pv vs items ρ1 Φ := by
  refine ⟨hl, now, fun i ks ws ρ => ρ = wipeP ρ1 vs ∧ ks = (items.map kf).take i ∧ ws = (items.map vf).take i, ⟨rfl, rfl, rfl⟩, fun i t ks ws ρ2 hi _ _ ⟨e, e2, e3⟩ => ?_, fun ks ws ρ2 _ _ ⟨e, e2, e3⟩ => ?_⟩
  · subst e e2 e3
    obtain ⟨hlt, ht⟩ := List.getElem?_eq_some_iff.mp hi
    have hk : kf t ∉ (items.map kf).take i := fun m => by
      obtain ⟨j, hj, e⟩ := List.mem_iff_getElem.mp m
      rw [List.length_take, List.length_map] at hj
      rw [List.getElem_take] at e
      have := (List.nodup_iff_pairwise_ne.mp nd |> List.pairwise_iff_getElem.mp) j i (by rw [List.length_map]; omega) (by rw [List.length_map]; exact hlt) (by omega)
      rw [e, List.getElem_map, ht] at this
      exact this rfl
    refine step t (fun k z ρ6 => wipeP ρ6 vs = wipeP ρ1 vs ∧ dputK ((items.map kf).take i) k = (items.map kf).take (i + 1) ∧ dputV ((items.map kf).take i) ((items.map vf).take i) k z = (items.map vf).take (i + 1)) _ (List.mem_of_getElem? hi) fun ρ6 e6 => ⟨e6, ?_, ?_⟩
    · rw [dputK, if_neg hk, List.take_succ, List.getElem?_map, hi]
      rfl
    · rw [dputV, if_neg hk, List.take_succ, List.getElem?_map, hi]
      rfl
  · subst e
    rw [List.take_of_length_le (by rw [List.length_map]; exact Nat.le_refl _)] at e2 e3
    rw [e2, e3]
    exact fin
end
end Y

/-! dict(pairs), the pairs in a tuple or a list -/
namespace Y
open PySem PySem.Spec PyProof.Rows L2 RT RZ
section
variable {X : Cx} {pins : List (Addr × Obj)} {σ : L2.St} {H : Hp} {s : Shared}
theorem inv_sqn (I : Inv X pins σ H s) {a : Addr} {xs : List V} (h : SqN X.K H a xs) : ∃ its, Vals xs its ∧ PlainSeq "tuple" s.heap a its.toArray ∧ xs.length ≤ sizeLine := by
  rcases h with ⟨o, d, h⟩ | ⟨o, its, n, h, hc, hd, hdat, hz, r⟩
  · obtain ⟨e, hz, its, r, p⟩ := I.hok a _ h
    obtain ⟨o', e', hc, n, hdat⟩ := p
    rw [e] at e'
    cases e'
    exact ⟨its, r, ⟨o, n, e, hc, d, hdat⟩, hz⟩
  · have e := I.kIn a o h
    refine ⟨its.toList, r, ⟨o, n, e, hc, hd, by simpa using hdat⟩, ?_⟩
    rw [r.length, Array.length_toList]
    exact hz
/-- the pairs as they lie -/
theorem praw (I : Inv X pins σ H s) : ∀ {ps : List Addr} {kvs : List (Key × V)}, Paired (fun p (kv : Key × V) => SqT X.K H p [kV kv.1, kv.2]) ps kvs →
    ∃ (psv : List (Value × Value)) (prs : List (Key × Value)), psv.length = ps.length ∧ prs.length = ps.length ∧ KV kvs prs ∧
      ∀ (j : Nat) (k v : Value), psv[j]? = some (k, v) → ∃ b q, ps[j]? = some b ∧ PairAt s.heap b k v ∧ prs[j]? = some (q, v) ∧ (mixKind X.prog X.w).is q k = true
  | [], _, h => by
    cases h
    exact ⟨[], [], rfl, rfl, .nil, fun j k v e => by simp at e⟩
  | p :: ps, _, h => by
    cases h with
    | @cons _ kv _ kvs h t =>
      obtain ⟨psv, prs, e1, e2, e3, e4⟩ := praw I t
      obtain ⟨its, r, pt, _⟩ := I.tuple h
      cases r with
      | @cons _ k _ _ rk r =>
        cases r with
        | @cons _ v _ _ rv r =>
          cases r
          refine ⟨(k, v) :: psv, (kv.1, v) :: prs, by simp [e1], by simp [e2], .cons ⟨rfl, rv⟩ e3, fun j k' v' e => ?_⟩
          cases j with
          | zero =>
            obtain ⟨rfl, rfl⟩ := Prod.mk.inj (Option.some.inj e)
            exact ⟨p, kv.1, rfl, .inl pt, rfl, kV_is rk⟩
          | succ j => exact e4 j k' v' e
end
section
variable {X : Cx} {W : Wld}
theorem call_dictT (hcalm : X.calm = true) : CallR X (.type "dict") (fun xs H Q => ∃ (a : Addr) (ps : List Addr) (kvs : List (Key × V)), xs = [V.ref a] ∧ SqN X.K H a (ps.map V.ref) ∧ Paired (fun p (kv : Key × V) => SqT X.K H p [kV kv.1, kv.2]) ps kvs ∧
    ∀ p, H p = none → Q (V.ref p) (upd H p (.dK (mergeK [] kvs)))) := by
  intro pins s σ H xs us Q I r q
  obtain ⟨a, ps, kvs, ex, hq, hp, q⟩ := q
  subst ex
  rw [Vals.ref1 r]
  obtain ⟨its, rv, pl, hz⟩ := inv_sqn I hq
  obtain ⟨psv, prs, e1, e2, rel, e4⟩ := praw I hp
  have nl := rv.length
  rw [List.length_map] at nl hz
  have at' : ∀ (j : Nat) (b : Addr), ps[j]? = some b → its[j]? = some (.ref b) := fun j b e => by
    obtain ⟨u, eu, ru⟩ := rv.get (i := j) (x := V.ref b) (by rw [List.getElem?_map, e]; rfl)
    rw [eu, show u = Value.ref b from ru]
  refine PySem.call_dict_pairs (knd := mixKind X.prog X.w) (kvs := prs) (PairArg.tuple a its.toArray (fun j => ps.getD j 0) psv) (I.ok.hd hcalm)
    ⟨pl, by simp only [List.size_toArray]; omega, fun j k v e => ?_⟩ ⟨by omega, fun j k v e => ?_⟩ (by omega) fun h'' tk hd hk2 => ?_
  · obtain ⟨b, q', h1, h2, _⟩ := e4 j k v e
    have eb : ps.getD j 0 = b := by rw [List.getD_eq_getElem?_getD, h1]; rfl
    show its.toArray[j]? = some (.ref (ps.getD j 0)) ∧ PairAt s.heap (ps.getD j 0) k v
    rw [eb]
    exact ⟨by rw [List.getElem?_toArray]; exact at' j b h1, h2⟩
  · obtain ⟨b, q', _, _, h3, h4⟩ := e4 j k v e
    exact ⟨q', h3, h4⟩
  · have hm' : (s.heap.objs.size == sysModules) = false := beq_eq_false_iff_ne.mpr (Nat.ne_of_gt I.big)
    have hl : (mergeK [] kvs).length ≤ sizeLine := by
      refine Nat.le_trans (length_mergeK kvs []) ?_
      rw [List.length_nil, Nat.zero_add, rel.length, e2]
      exact hz
    exact ⟨.ref s.heap.objs.size, upd H s.heap.objs.size (.dK (mergeK [] kvs)), I.laid (t' := tk) (fun b o e => hk2 b o (by simp) e) (Nat.le_refl _) (show ObjOk X.prog X.w _ _ _ (.dK (mergeK [] kvs)) from ⟨hl, hm', merged [] prs, KV.merge rel .nil, hd⟩), rfl, q _ (I.hok.fresh (Nat.le_refl _))⟩
/-- pairs by value -/
def pairsOf : List T → Option (List Key × List T)
  | [] => some ([], [])
  | .tup [k, v] :: l => match k.key, pairsOf l with
    | some q, some (ks, vs) => some (q :: ks, v :: vs)
    | _, _ => none
  | _ :: _ => none
theorem pairs_v {K : PySem.W.Frag} {F : Hp} : ∀ {items : List T} {xs : List V} {ks : List Key} {vs : List T}, pairsOf items = some (ks, vs) → TvL K F items xs →
    ∃ (ps : List Addr) (ys : List V), xs = ps.map V.ref ∧ TvL K F vs ys ∧ ks.length = ys.length ∧ vs.length = items.length ∧ Paired (fun p (kv : Key × V) => SqT K F p [kV kv.1, kv.2]) ps (ks.zip ys)
  | [], xs, ks, vs, e, h => by
    obtain ⟨rfl, rfl⟩ := Prod.mk.inj (Option.some.inj e)
    exact ⟨[], [], h, rfl, rfl, rfl, .nil⟩
  | t :: items, _, ks, vs, e, h => by
    unfold pairsOf at e
    split at e
    · rename_i e0
      cases e0
    · rename_i k v l e0
      obtain ⟨rfl, rfl⟩ := List.cons.inj e0
      split at e
      · rename_i q ks' vs' e1 e2
        obtain ⟨rfl, rfl⟩ := Prod.mk.inj (Option.some.inj e)
        obtain ⟨x, r, rfl, h1, h2⟩ := h
        obtain ⟨ps, ys, rfl, h3, h4, h6, h5⟩ := pairs_v e2 h2
        obtain ⟨a, zs, rfl, sq, u, r', rfl, hk, u2, r2, rfl, hv, h7⟩ := h1
        have h7 : r2 = [] := h7
        subst h7
        rw [key_v e1 hk] at sq
        exact ⟨a :: ps, u2 :: ys, rfl, ⟨u2, ys, rfl, hv, h3⟩, by simp [h4], by simp [h6], .cons sq.t h5⟩
      · cases e
    · cases e
def PDictP : PSp := fun l Φ => ∃ t items ks vs, l = [t] ∧ t.items = some items ∧ pairsOf items = some (ks, vs) ∧ items.length ≤ 16000000 ∧ Φ (.dct (dmer [] [] ks vs).1 (dmer [] [] ks vs).2) true
theorem cq_dictP (hc : X.calm = true) : CallQ X W (.type "dict") PDictP := by
  have hs16 := sl16
  intro B F0 ρ σ F H l ws Φ Q R tv hp k
  obtain ⟨t, items, ks, vs, rfl, it, pe, hl, hp⟩ := hp
  obtain ⟨v, rfl, tv1'⟩ := tvl1 tv
  have fin : ∀ (ys : List V), TvL X.K F vs ys → ks.length = ys.length → ∀ p, H p = none → Q (V.ref p) (upd H p (.dK (mergeK [] (ks.zip ys)))) := fun ys h1 h2 p np => by
    have em := mergeK_zip ks ys [] [] rfl
    rw [List.zip_nil_left] at em
    rw [em]
    obtain ⟨e1, tvl⟩ := dmer_v (K := X.K) (F := F) ks [] (av := []) (ax := []) h1 rfl
    rw [← e1]
    obtain ⟨R3, vr⟩ := R.newD np (dmer_len ks vs [] [] rfl) tvl
    exact k _ true _ F _ R3 (Le.refl _) vr hp
  cases t <;> first | cases it | skip
  · obtain ⟨a, xs, rfl, sq, h2⟩ := tv1'
    obtain ⟨ps, ys, rfl, h3, h4, h6, h5⟩ := pairs_v pe h2
    exact rSC.of (call_dictT hc) ⟨a, ps, ks.zip ys, rfl, sqn_le R.fh sq, Paired.mapP h5 (fun _ _ z => sqw_le R.fh z), fin ys h3 h4⟩
  · obtain ⟨a, xs, rfl, sq, h2⟩ := tv1'
    obtain ⟨ps, ys, rfl, h3, h4, h6, h5⟩ := pairs_v pe h2
    exact rSC.of (call_dictP hc) ⟨a, ps, ks.zip ys, rfl, .of (R.fh _ _ sq), Paired.mapP h5 (fun _ _ z => sqw_le R.fh z), fin ys h3 h4⟩
/-- keys all different -/
theorem pdictP_i {t : T} {items : List T} {ks : List Key} {vs : List T} {Φ : T → Bool → Prop} (h1 : t.items = some items) (h2 : pairsOf items = some (ks, vs)) (hn : ks.Nodup) (hl : ks.length = vs.length) (hm : items.length ≤ 16000000) (h : Φ (.dct ks vs) true) : PDictP [t] Φ := by
  refine ⟨t, items, ks, vs, rfl, h1, h2, hm, ?_⟩
  rw [dmer_nodup ks vs [] [] (by simpa using hn) hl]
  exact h
end
end Y

/-! a def that stands under another name (two modules have a def of one name: `is_right_kinds = _is_right`) -/
namespace Y
open PySem PySem.Spec PyProof.Rows L2 RT RZ
def DfA (K : PySem.W.Frag) (mg : Str → Option Value) (y x : Str) (st : Stmt) : Prop := ∃ f fd, FunD K x x (defArgs st) (defBody st) (defScope st) [] [] f fd ∧ mg y = some (.ref f)
def DfTA (K : PySem.W.Frag) (mg : Str → Option Value) (y x : Str) (st : Stmt) (c : Addr) : Prop := ∃ f fd, FunD K x x (defArgs st) (defBody st) (defScope st) [] [] f fd ∧ mg y = some (.ref f) ∧ fd.code = .ref c
theorem DfTA.df {K : PySem.W.Frag} {mg : Str → Option Value} {y x : Str} {st : Stmt} {c : Addr} (D : DfTA K mg y x st c) : DfA K mg y x st := let ⟨f, fd, F, g, _⟩ := D; ⟨f, fd, F, g⟩
open Classical in
theorem CalQ.mkA {P : Program} {w : World} {K : PySem.W.Frag} {mg : Str → Option Value} {base : Heap} {W : Wld} {x y : Str} {st : Stmt} {N ps : List Str} {k : Nat} {pf : PSp} (D : DfA K mg y x st) (S : FnScope N ps (defScope st))
    (hb : ∀ (kV doc pm : Value) (an : Option Addr) (cdv ct : Value) (us : List Value), us.length = ps.length → bindArgs (PySem.W.fnOf x x (defArgs st) (defBody st) (defScope st) .none kV doc pm an cdv ct) ⟨us, []⟩ = pure (ps.zip us))
    (hl : ∀ ts Φ, pf ts Φ → ts.length = ps.length)
    (hbody : ∀ (f : Addr) (cdv : Value) (A : Around) (outer : List Env) (s : Shared) (H : Hp) (E : XK), Room k (A.deeper (envOfC x (defScope st) s.heap.objs.size f cdv)) →
      ∃ p, QSs (cxOf CX0 P w K mg base N x (defScope st) f cdv A outer s H E) W (defBody st) p ∧ ∀ ts Φ, pf ts Φ → p { nx := fun _ => Φ .non false, rt := Φ } (startP N ts)) :
    CalQ P w K mg base W y (k + 1) ps pf := by
  obtain ⟨f, fd, F, g⟩ := D
  refine ⟨f, fd, g, F.kp, F.bindsN hb, ?_⟩
  refine F.ok S (fun vs H Q E h => ?_) (fun cdv A outer s H vs Q E hr h => ?_)
  · obtain ⟨ts, F, Ψ, _, _, _, h2, h3, _⟩ := h
    rw [h2.length]
    exact hl _ _ h3
  · obtain ⟨p, hQ, hp⟩ := hbody f cdv A outer s H E hr
    obtain ⟨t, h1, h2⟩ := hQ.ex
    refine ⟨t, h1, ?_⟩
    obtain ⟨ts, F, Ψ, q2, q3, q4, q5, q6, q7⟩ := h
    have lv := q5.length
    have R : Rep K W (fun a => if W.D a then none else H a) F (startP N ts) (L2.start N vs) F H := by
      refine ⟨q2, Le.refl _, fun a e => .inl e, fun a o e => ?_, q3, q4, fun a e => if_pos e, ?_, fun i t e => ?_, fun i l e => ?_, fun i j l m e => ?_⟩
      · have e : (if W.D a then none else H a) = some o := e
        split at e
        · cases e
        · exact e
      · unfold startP L2.start
        rw [List.length_append, List.length_append, List.length_map, List.length_map, List.length_replicate, List.length_replicate, lv]
      · unfold startP at e
        unfold L2.start
        by_cases hi : i < ts.length
        · rw [List.getElem?_append_left (by simpa using hi), List.getElem?_map, List.getElem?_eq_getElem hi] at e
          have e2 : ts[i] = t := Sl.fz.inj (Option.some.inj e)
          obtain ⟨v, e3, e4⟩ := q5.get (List.getElem?_eq_getElem hi)
          refine ⟨v, ?_, e2 ▸ e4⟩
          rw [List.getElem?_append_left (by rw [List.length_map]; omega), List.getElem?_map, e3]
          rfl
        · rw [List.getElem?_append_right (by simpa using hi), List.getElem?_replicate] at e
          split at e <;> cases e
      · unfold startP at e
        by_cases hi : i < ts.length
        · rw [List.getElem?_append_left (by simpa using hi), List.getElem?_map, List.getElem?_eq_getElem hi] at e
          cases e
        · rw [List.getElem?_append_right (by simpa using hi), List.getElem?_replicate] at e
          split at e <;> cases e
      · unfold startP at e
        by_cases hi : i < ts.length
        · rw [List.getElem?_append_left (by simpa using hi), List.getElem?_map, List.getElem?_eq_getElem hi] at e
          cases e
        · rw [List.getElem?_append_right (by simpa using hi), List.getElem?_replicate] at e
          split at e <;> cases e
    have fin : ∀ {τ : T} {f : Bool} {v : V} {ρ : PS'} {σ : L2.St} {F' H' : Hp}, Rep K W (fun a => if W.D a then none else H a) F ρ σ F' H' → VR K W (fun a => if W.D a then none else H a) ρ σ F' H' τ f v → Ψ τ f → Q v H' := fun {τ f v ρ σ F' H'} R' vr hΨ => by
      have bn : ∀ a, ¬ W.D a → (if W.D a then none else H a) = none → H a = none := fun a hd e => by rwa [if_neg hd] at e
      refine q7 τ f v F' H' hΨ ⟨R'.f0, R'.fh, fun a e => ?_, fun a o e hd => R'.bh a o (by show (if W.D a then none else H a) = some o; rw [if_neg hd]; exact e), R'.ok⟩ ?_
      · rcases R'.fd a e with z | z
        · exact .inl z
        · exact .inr (bn a (fun hd => e (R'.wf a hd)) z)
      · cases f with
        | false => exact vr
        | true =>
          obtain ⟨a, o, e1, e2, e3, e5, e6, e7, _⟩ := vr
          exact ⟨a, o, e1, e2, e3, e5, bn a (fun hd => e7 (W.sub _ hd)) e6⟩
    exact h2 _ F (startP N ts) (start N vs) F H _ _ R (hp ts Ψ q6) ⟨fun ρ σ F' H' R' _ hΨ => fin R' VR.non hΨ, fun τ f v ρ σ F' H' R' _ vr hΨ => fin R' vr hΨ, fun _ _ _ _ _ _ h => h.elim, fun _ _ _ _ _ _ h => h.elim⟩
open Classical in
theorem CalQ.mkTA {P : Program} {w : World} {K : PySem.W.Frag} {mg : Str → Option Value} {base : Heap} {W : Wld} {x y : Str} {st : Stmt} {N ps : List Str} {k : Nat} {pf : PSp} {c : Addr} (D : DfTA K mg y x st c) (S : FnScope N ps (defScope st))
    (hb : ∀ (kV doc pm : Value) (an : Option Addr) (cdv ct : Value) (us : List Value), us.length = ps.length → bindArgs (PySem.W.fnOf x x (defArgs st) (defBody st) (defScope st) .none kV doc pm an cdv ct) ⟨us, []⟩ = pure (ps.zip us))
    (hl : ∀ ts Φ, pf ts Φ → ts.length = ps.length)
    (hbody : ∀ (f : Addr) (A : Around) (outer : List Env) (s : Shared) (H : Hp) (E : XK), Room k (A.deeper (envOfC x (defScope st) s.heap.objs.size f (.ref c))) →
      ∃ p, QSs (cxOf CX0 P w K mg base N x (defScope st) f (.ref c) A outer s H E) W (defBody st) p ∧ ∀ ts Φ, pf ts Φ → p { nx := fun _ => Φ .non false, rt := Φ } (startP N ts)) :
    CalQ P w K mg base W y (k + 1) ps pf := by
  obtain ⟨f, fd, F, g, hcd⟩ := D
  refine ⟨f, fd, g, F.kp, F.bindsN hb, ?_⟩
  refine okT F S hcd (fun vs H Q E h => ?_) (fun A outer s H vs Q E hr h => ?_)
  · obtain ⟨ts, F, Ψ, _, _, _, h2, h3, _⟩ := h
    rw [h2.length]
    exact hl _ _ h3
  · obtain ⟨p, hQ, hp⟩ := hbody f A outer s H E hr
    obtain ⟨t, h1, h2⟩ := hQ.ex
    refine ⟨t, h1, ?_⟩
    obtain ⟨ts, F, Ψ, q2, q3, q4, q5, q6, q7⟩ := h
    have lv := q5.length
    have R : Rep K W (fun a => if W.D a then none else H a) F (startP N ts) (L2.start N vs) F H := by
      refine ⟨q2, Le.refl _, fun a e => .inl e, fun a o e => ?_, q3, q4, fun a e => if_pos e, ?_, fun i t e => ?_, fun i l e => ?_, fun i j l m e => ?_⟩
      · have e : (if W.D a then none else H a) = some o := e
        split at e
        · cases e
        · exact e
      · unfold startP L2.start
        rw [List.length_append, List.length_append, List.length_map, List.length_map, List.length_replicate, List.length_replicate, lv]
      · unfold startP at e
        unfold L2.start
        by_cases hi : i < ts.length
        · rw [List.getElem?_append_left (by simpa using hi), List.getElem?_map, List.getElem?_eq_getElem hi] at e
          have e2 : ts[i] = t := Sl.fz.inj (Option.some.inj e)
          obtain ⟨v, e3, e4⟩ := q5.get (List.getElem?_eq_getElem hi)
          refine ⟨v, ?_, e2 ▸ e4⟩
          rw [List.getElem?_append_left (by rw [List.length_map]; omega), List.getElem?_map, e3]
          rfl
        · rw [List.getElem?_append_right (by simpa using hi), List.getElem?_replicate] at e
          split at e <;> cases e
      · unfold startP at e
        by_cases hi : i < ts.length
        · rw [List.getElem?_append_left (by simpa using hi), List.getElem?_map, List.getElem?_eq_getElem hi] at e
          cases e
        · rw [List.getElem?_append_right (by simpa using hi), List.getElem?_replicate] at e
          split at e <;> cases e
      · unfold startP at e
        by_cases hi : i < ts.length
        · rw [List.getElem?_append_left (by simpa using hi), List.getElem?_map, List.getElem?_eq_getElem hi] at e
          cases e
        · rw [List.getElem?_append_right (by simpa using hi), List.getElem?_replicate] at e
          split at e <;> cases e
    have fin : ∀ {τ : T} {f : Bool} {v : V} {ρ : PS'} {σ : L2.St} {F' H' : Hp}, Rep K W (fun a => if W.D a then none else H a) F ρ σ F' H' → VR K W (fun a => if W.D a then none else H a) ρ σ F' H' τ f v → Ψ τ f → Q v H' := fun {τ f v ρ σ F' H'} R' vr hΨ => by
      have bn : ∀ a, ¬ W.D a → (if W.D a then none else H a) = none → H a = none := fun a hd e => by rwa [if_neg hd] at e
      refine q7 τ f v F' H' hΨ ⟨R'.f0, R'.fh, fun a e => ?_, fun a o e hd => R'.bh a o (by show (if W.D a then none else H a) = some o; rw [if_neg hd]; exact e), R'.ok⟩ ?_
      · rcases R'.fd a e with z | z
        · exact .inl z
        · exact .inr (bn a (fun hd => e (R'.wf a hd)) z)
      · cases f with
        | false => exact vr
        | true =>
          obtain ⟨a, o, e1, e2, e3, e5, e6, e7, _⟩ := vr
          exact ⟨a, o, e1, e2, e3, e5, bn a (fun hd => e7 (W.sub _ hd)) e6⟩
    exact h2 _ F (startP N ts) (start N vs) F H _ _ R (hp ts Ψ q6) ⟨fun ρ σ F' H' R' _ hΨ => fin R' VR.non hΨ, fun τ f v ρ σ F' H' R' _ vr hΨ => fin R' vr hΨ, fun _ _ _ _ _ _ h => h.elim, fun _ _ _ _ _ _ h => h.elim⟩
theorem CalQ.rec0A {P : Program} {w : World} {K : PySem.W.Frag} {mg : Str → Option Value} {base : Heap} {W : Wld} {x y : Str} {st : Stmt} {ps : List Str} {k : Nat} (D : DfA K mg y x st)
    (hb : ∀ (kV doc pm : Value) (an : Option Addr) (cdv ct : Value) (us : List Value), us.length = ps.length → bindArgs (PySem.W.fnOf x x (defArgs st) (defBody st) (defScope st) .none kV doc pm an cdv ct) ⟨us, []⟩ = pure (ps.zip us)) :
    CalQ P w K mg base W y k ps (fun _ _ => False) := by
  obtain ⟨f, fd, F, g⟩ := D
  exact ⟨f, fd, g, F.kp, F.bindsN hb, ⟨fun _ _ _ _ h => (let ⟨_, _, _, _, _, _, _, h, _⟩ := h; h.elim), fun _ _ _ _ _ _ _ _ _ _ _ _ _ h => (let ⟨_, _, _, _, _, _, _, h, _⟩ := h; h.elim)⟩⟩
end Y

namespace Y
open PySem PySem.Spec PyProof.Rows L2 RT RZ
/-! ### a def of two parameters that changes the list it is given as the second: if c: return a; return b -/
theorem start_2 (N : List Str) (v u : V) : L2.start N [v, u] = some v :: some u :: List.replicate (N.length - 2) none := rfl
def startM (N : List Str) (t : T) (m : List T) : PS' := .fz t :: .ow m :: List.replicate (N.length - 2) Sl.no
open Classical in
theorem CalM.mk2 {P : Program} {w : World} {K : PySem.W.Frag} {mg : Str → Option Value} {base : Heap} {W : Wld} {x : Str} {st : Stmt} {p1 p2 : Str} {N : List Str} {k : Nat} {pf : MSp} {c e1 e2 : Expr} {r1 r2 r3 : Pos} (D : Df K mg x st) (S : FnScope N [p1, p2] (defScope st))
    (hb : ∀ (kV doc pm : Value) (an : Option Addr) (cdv ct : Value) (us : List Value), us.length = [p1, p2].length → bindArgs (PySem.W.fnOf x x (defArgs st) (defBody st) (defScope st) .none kV doc pm an cdv ct) ⟨us, []⟩ = pure ([p1, p2].zip us))
    (hret : defBody st = [.If c [.Return (some e1) r1] [] r2, .Return (some e2) r3])
    (hbody : ∀ (f : Addr) (cdv : Value) (A : Around) (outer : List Env) (s : Shared) (H : Hp) (E : XK), Room k (A.deeper (envOfC x (defScope st) s.heap.objs.size f cdv)) →
      ∃ pt a b, QT (cxOf CX0 P w K mg base N x (defScope st) f cdv A outer s H E) W c pt ∧ QE (cxOf CX0 P w K mg base N x (defScope st) f cdv A outer s H E) W e1 a ∧ QE (cxOf CX0 P w K mg base N x (defScope st) f cdv A outer s H E) W e2 b ∧
        ∀ t m Ψ, pf t m Ψ → pt (startM N t m) fun z ρ1 => if z = true then a ρ1 (fun τ _ ρ' => ∃ m', ρ'[1]? = some (.ow m') ∧ Ψ τ m') else b ρ1 (fun τ _ ρ' => ∃ m', ρ'[1]? = some (.ow m') ∧ Ψ τ m')) :
    CalM P w K mg base W x (k + 1) [p1, p2] pf := by
  obtain ⟨f, fd, F, g⟩ := D
  refine ⟨f, fd, g, F.kp, F.bindsN hb, F.ok S (fun vs H Q E h => ?_) (fun cdv A outer s H vs Q E hr h => ?_)⟩
  · obtain ⟨v, a, xs, t, m, F, Ψ, rfl, _⟩ := h
    rfl
  · obtain ⟨pt, pa, pb, hT, hA, hB, hp⟩ := hbody f cdv A outer s H E hr
    obtain ⟨tt, t1, t2⟩ := hT.ex
    obtain ⟨ta, a1, a2⟩ := hA.ex
    obtain ⟨tb, b1, b2⟩ := hB.ex
    rw [hret]
    refine ⟨_, pss_cons (ps_if t1 (pss_one (ps_ret a1)) pss_nil) (pss_one (ps_ret b1)), ?_⟩
    obtain ⟨v, a, xs, t, m, F, Ψ, rfl, q1, q2, q3, q4, q5, q6, q7, q8, q9, q10⟩ := h
    have R : Rep K W (fun b => if W.D b ∨ b = a then none else H b) F (startM N t m) (L2.start N [v, .ref a]) F H := by
      rw [start_2]
      have off : ∀ {i : Nat} {z : Sl}, (startM N t m)[i + 2]? = some z → z = .no := fun {i z} e => by
        have e : (List.replicate (N.length - 2) Sl.no)[i]? = some z := e
        rw [List.getElem?_replicate] at e
        split at e
        · exact (Option.some.inj e).symm
        · cases e
      refine ⟨q1, Le.refl _, fun b z => .inl z, fun b o z => ?_, q2, q3, fun b z => if_pos (.inl z), by simp [startM], fun i u z => ?_, fun i l z => ?_, fun i j l l' z z' _ => ?_⟩
      · have z : (if W.D b ∨ b = a then none else H b) = some o := z
        split at z
        · cases z
        · exact z
      · match i, z with
        | 0, z => cases z; exact ⟨v, rfl, q4⟩
        | 1, z => cases z
        | i + 2, z => cases off z
      · match i, z with
        | 0, z => cases z
        | 1, z => cases z; exact ⟨a, _, rfl, q5, ⟨xs, rfl, q6⟩, q7, if_pos (.inr rfl), q8⟩
        | i + 2, z => cases off z
      · match i, j, z, z' with
        | 0, _, z, _ => cases z
        | i + 2, _, z, _ => cases off z
        | 1, 0, _, z' => cases z'
        | 1, 1, _, _ => rfl
        | 1, j + 2, _, z' => cases off z'
    have fin : ∀ {τ : T} {fl : Bool} {ρ' : PS'} {v' : V} {F' H' : Hp}, Rep K W (fun b => if W.D b ∨ b = a then none else H b) F ρ' (L2.start N [v, .ref a]) F' H' → VR K W (fun b => if W.D b ∨ b = a then none else H b) ρ' (L2.start N [v, .ref a]) F' H' τ fl v' → (∃ m', ρ'[1]? = some (.ow m') ∧ Ψ τ m') → Q v' H' := fun {τ fl ρ' v' F' H'} R' vr hq => by
      obtain ⟨m', e1, hq⟩ := hq
      obtain ⟨F2, R2, le2, tv⟩ := R'.freeze vr
      obtain ⟨a', xs', e2, e3, e4, e5, e6, e7⟩ := R2.ow 1 m' e1
      obtain rfl : a = a' := by
        rw [start_2] at e2
        have e2 : some (some (V.ref a)) = some (some (V.ref a')) := e2
        cases e2
        rfl
      refine q10 τ m' v' xs' F2 H' hq R2.f0 R2.fh (fun b z => ?_) (fun b o z hd hne => R2.bh b o (by show (if W.D b ∨ b = a then none else H b) = some o; rw [if_neg (fun y => y.elim hd hne)]; exact z)) R2.ok e5 tv e3 e4
      rcases R2.fd b z with y | y
      · exact .inl y
      · have y : (if W.D b ∨ b = a then none else H b) = none := y
        split at y
        · rename_i c
          rcases c with c | c
          · exact absurd (R2.wf b c) z
          · exact .inr (.inr c)
        · exact .inr (.inl y)
    refine t2 _ F _ _ F H _ _ R (hp t m Ψ q9) fun z ρ1 F1 H1 R1 le1 y1 => ?_
    cases z with
    | true =>
      rw [if_pos rfl] at y1 ⊢
      exact a2 _ F _ _ F1 H1 _ _ R1 y1 fun τ fl ρ' v' F' H' R' le vr hq => fin R' vr hq
    | false =>
      rw [if_neg Bool.false_ne_true] at y1 ⊢
      exact b2 _ F _ _ F1 H1 _ _ R1 y1 fun τ fl ρ' v' F' H' R' le vr hq => fin R' vr hq
theorem CalM.rec0 {P : Program} {w : World} {K : PySem.W.Frag} {mg : Str → Option Value} {base : Heap} {W : Wld} {x : Str} {st : Stmt} {ps : List Str} {k : Nat} (D : Df K mg x st)
    (hb : ∀ (kV doc pm : Value) (an : Option Addr) (cdv ct : Value) (us : List Value), us.length = ps.length → bindArgs (PySem.W.fnOf x x (defArgs st) (defBody st) (defScope st) .none kV doc pm an cdv ct) ⟨us, []⟩ = pure (ps.zip us)) :
    CalM P w K mg base W x k ps (fun _ _ _ => False) := by
  obtain ⟨f, fd, F, g⟩ := D
  exact ⟨f, fd, g, F.kp, F.bindsN hb, ⟨fun _ _ _ _ h => (let ⟨_, _, _, _, _, _, _, _, _, _, _, _, _, _, _, _, h, _⟩ := h; h.elim), fun _ _ _ _ _ _ _ _ _ _ _ _ _ h => (let ⟨_, _, _, _, _, _, _, _, _, _, _, _, _, _, _, _, h, _⟩ := h; h.elim)⟩⟩
theorem CalM.mono {P : Program} {w : World} {K : PySem.W.Frag} {mg : Str → Option Value} {base : Heap} {W : Wld} {x : Str} {j k : Nat} {ps : List Str} {pf : MSp} (h : CalM P w K mg base W x j ps pf) (l : j ≤ k) : CalM P w K mg base W x k ps pf := by
  obtain ⟨f, fd, h1, h2, h3, h4⟩ := h
  exact ⟨f, fd, h1, h2, h3, h4.mono l⟩
theorem CalM.imp {P : Program} {w : World} {K : PySem.W.Frag} {mg : Str → Option Value} {base : Heap} {W : Wld} {x : Str} {k : Nat} {ps : List Str} {pf pf' : MSp} (h : CalM P w K mg base W x k ps pf) (l : ∀ t m Φ, pf' t m Φ → pf t m Φ) : CalM P w K mg base W x k ps pf' := by
  obtain ⟨f, fd, h1, h2, h3, h4⟩ := h
  refine ⟨f, fd, h1, h2, h3, h4.imp fun vs H Q E q => ?_⟩
  obtain ⟨v, a, xs, t, m, F, Ψ, e, q1, q2, q3, q4, q5, q6, q7, q8, q9, q10⟩ := q
  exact ⟨v, a, xs, t, m, F, Ψ, e, q1, q2, q3, q4, q5, q6, q7, q8, l _ _ _ q9, q10⟩
/-! #### .. called with a new list -/
def pCallF (pf : MSp) (pa pb : PE') : PE' := fun ρ Φ => pa ρ fun t _ ρ1 => pb ρ1 fun u f ρ2 => ∃ m, u = .lst m ∧ f = true ∧ pf t m fun τ _ => Φ τ false ρ2
section
variable {K : PySem.W.Frag} {W : Wld} {B F0 F H F' H' : Hp} {ρ : PS'} {σ : L2.St} {a : Addr} {xs' : List V}
theorem Rep.turnedF (R : Rep K W B F0 ρ σ F H) (fa0 : F a = none) (ba : B a = none) (na : ¬ W.A a) (no : ∀ (i : Nat) (u : T), ρ[i]? = some (Sl.own u) → σ[i]? ≠ some (some (V.ref a))) (le : Le F F') (fh : Le F' H') (fd : ∀ b, F' b ≠ none → F b ≠ none ∨ (H b = none ∨ b = a)) (kp : ∀ b o, H b = some o → ¬ W.D b → b ≠ a → H' b = some o)
    (ok : W.ok H') (fa : F' a = none) : Rep K W B F0 ρ σ F' H' := by
  refine ⟨fh, R.f0.trans le, fun b z => ?_, fun b o z => kp b o (R.bh _ _ z) (fun y => by rw [R.wb b y] at z; cases z) (fun y => by rw [y, ba] at z; cases z), ok, fun b z => ?_, R.wb, R.ln, fun j t z => ?_, fun j l z => ?_, R.ds⟩
  · rcases fd b z with y | y | y
    · exact R.fd b y
    · exact .inr (none_of_le R.bh y)
    · exact .inr (by rw [y]; exact ba)
  · cases y : F' b with
    | none => rfl
    | some o =>
      rcases fd b (some_ne y) with x | x | x
      · exact absurd (R.wf b z) x
      · exact absurd x (W.al H b R.ok (W.sub _ z))
      · exact absurd (x ▸ W.sub _ z) na
  · obtain ⟨v, y1, y2⟩ := R.fz j t z
    exact ⟨v, y1, Tv.le le _ _ y2⟩
  · obtain ⟨b, ys, y1, y2, y3, y4, y5, y6⟩ := R.own j l z
    have nb : b ≠ a := fun x => no j l z (by rw [y1, x])
    refine ⟨b, ys, y1, kp b _ y2 (fun x => y6 (W.sub _ x)) nb, y3.le le, ?_, y5, y6⟩
    cases x : F' b with
    | none => rfl
    | some o =>
      rcases fd b (some_ne x) with w | w | w
      · exact absurd y4 w
      · rw [w] at y2
        cases y2
      · exact absurd w nb
end
section
variable {X : Cx} {W : Wld} {e e2 : Expr} {x : Str} {p pos : Pos} {k : Nat} {ps : List Str} {pf : MSp} {pa pb : PE'}
theorem qe_callF (C : CalM X.prog X.w X.K X.mg X.base W x k ps pf) (hr : Room k X.A) (hg : Gl X x) (ha : QE X W e pa) (hb2 : QE X W e2 pb) (hdb : (x == ("__debug__" : Str)) = false := by decide)
    (he : starEach [e, e2] X.env = (false, eval e X.env) :: starEach [e2] X.env := by rfl) (he2 : starEach [e2] X.env = (false, eval e2 X.env) :: starEach [] X.env := by rfl) (hpl : (backTo pos (starEach [e2] X.env)).any (·.1) = false := by rfl) :
    QE X W (.Call (.Name x p) [e, e2] [] pos) (pCallF pf pa pb) := by
  obtain ⟨f, fd, hm, hk, hb, F⟩ := C
  obtain ⟨t, h1, h2⟩ := ha.ex
  obtain ⟨u, h3, h4⟩ := hb2.ex
  refine ⟨_, pe_call F hr hg hm hk hb .nil pass0 (pa_cons h1 (pa_cons h3 pa_nil he2) he) hdb he hpl, fun B F0 ρ σ F H Φ Q R hp kk => ?_⟩
  refine h2.fz R hp fun τ ρ1 v F1 H1 R1 le1 tv q1 => ?_
  refine h4 B F0 ρ1 σ F1 H1 _ _ R1 q1 fun τ2 fl ρ2 v2 F2 H2 R2 le2 vr2 q2 => ?_
  obtain ⟨m, rfl, rfl, q2⟩ := q2
  obtain ⟨a, o, rfl, ⟨xs, rfl, z1⟩, z2, z3, z4, z5, z6⟩ := vr2
  refine ⟨v, a, xs, τ, m, F2, _, rfl, R2.fh, R2.ok, R2.wf, Tv.le le2 _ _ tv, z2, z1, z3, z5, q2, fun τ' m' v' xs' F' H' hΨ le fh fd kp ok fa vr ha' tv' => ?_⟩
  exact kk τ' false _ v' F' H' (R2.turnedF z3 z4 z5 z6 le fh fd kp ok fa) (le1.trans (le2.trans le)) (VR.fz vr) hΨ
end
/-! ### is True, is not False .. -/
def PIsB (x y : T) (Φ : T → Bool → Prop) : Prop := match x, y with
  | .bl a, .bl b => Φ (.bl (decide (a = b))) false
  | _, _ => False
def PIsNotB (x y : T) (Φ : T → Bool → Prop) : Prop := match x, y with
  | .bl a, .bl b => Φ (.bl (!decide (a = b))) false
  | _, _ => False
theorem isb_b {a b : Bool} {Φ : T → Bool → Prop} : PIsB (.bl a) (.bl b) Φ = Φ (.bl (decide (a = b))) false := rfl
theorem isb_n {a b : Bool} {Φ : T → Bool → Prop} : PIsNotB (.bl a) (.bl b) Φ = Φ (.bl (!decide (a = b))) false := rfl
theorem oq_isB {X : Cx} {W : Wld} : OpQ X W (compareOp .Is) PIsB := by
  intro B F0 ρ σ F H x y v u Φ Q R hx hy hp k
  unfold PIsB at hp
  split at hp
  · exact rS2.of op_isBl ⟨_, _, hx, hy, k _ false _ F H R (Le.refl _) VR.bl hp⟩
  · exact hp.elim
theorem oq_isnotB {X : Cx} {W : Wld} : OpQ X W (compareOp .IsNot) PIsNotB := by
  intro B F0 ρ σ F H x y v u Φ Q R hx hy hp k
  unfold PIsNotB at hp
  split at hp
  · exact rS2.of op_notBl ⟨_, _, hx, hy, k _ false _ F H R (Le.refl _) VR.bl hp⟩
  · exact hp.elim
/-! ### x + e, x a slot's own list, which it stays -/
def pAddL (i : Nat) (pb : PE') : PE' := fun ρ Φ => (∃ m, ρ[i]? = some (.ow m)) ∧ pb ρ fun u _ ρ1 => ∃ m l, ρ1[i]? = some (.ow m) ∧ u = .lst l ∧ m.length + l.length ≤ 16000000 ∧ Φ (.lst (m ++ l)) true ρ1
theorem qe_addL {X : Cx} {W : Wld} {b : Expr} {x : Str} {p pos : Pos} {i : Nat} {pb : PE'} (ho : PE X (.Name x p) (tVar i)) (hb : QE X W b pb) : QE X W (.BinOp (.Name x p) .Add b pos) (pAddL i pb) := by
  obtain ⟨u, h3, h4⟩ := hb.ex
  refine ⟨_, pe_op (opS X _) ho h3, fun B F0 ρ σ F H Φ Q R hp k => ?_⟩
  obtain ⟨⟨m0, e0⟩, hp⟩ := hp
  obtain ⟨a, xs0, e1, _⟩ := R.ow i m0 e0
  refine ⟨_, e1, ?_⟩
  refine h4.fz R hp fun τ ρ1 v F1 H1 R1 le1 tv q1 => ?_
  obtain ⟨m, l, e2, rfl, hl, q1⟩ := q1
  obtain ⟨a', xs, e3, e4, e5, _⟩ := R1.ow i m e2
  obtain rfl : a = a' := by rw [e1] at e3; cases e3; rfl
  obtain ⟨b, ys, rfl, h5, h6⟩ := tv
  have l1 := e5.length
  have l2 := h6.length
  have hs := sl16
  refine rS2.of op_cat ⟨a, b, xs, ys, rfl, rfl, e4, R1.fh _ _ h5, by omega, fun z nz => ?_⟩
  obtain ⟨R2, vr⟩ := R1.newL nz (TvL.app e5 h6)
  exact k _ true ρ1 _ F1 _ R2 le1 vr q1
/-! ### a tuple times a number -/
def PMulT (x y : T) (Φ : T → Bool → Prop) : Prop := match x, y with
  | .tup l, .int j => l ≠ [] ∧ 2 ≤ j ∧ j ≤ 1000 ∧ l.length ≤ 1000 ∧ Φ (.wtp (List.replicate j.toNat l).flatten) false
  | _, _ => False
theorem muT {l : List T} {j : Int} {Φ : T → Bool → Prop} : PMulT (.tup l) (.int j) Φ = (l ≠ [] ∧ 2 ≤ j ∧ j ≤ 1000 ∧ l.length ≤ 1000 ∧ Φ (.wtp (List.replicate j.toNat l).flatten) false) := rfl
theorem oq_mulT {X : Cx} {W : Wld} : OpQ X W (binaryOp .Mult) PMulT := by
  intro B F0 ρ σ F H x y v u Φ Q R hx hy hp k
  unfold PMulT at hp
  split at hp
  · rename_i l j
    obtain ⟨hn, h2, h3, h4, hp⟩ := hp
    obtain ⟨a, xs, rfl, e1, e2⟩ := hx
    have ln := e2.length
    refine rS2.of op_repT ⟨a, j, xs, rfl, hy, sqt_le R.fh e1, fun z => hn (List.length_eq_zero_iff.mp (by rw [← ln, z]; rfl)), h2, h3, by omega, fun z nz => ?_⟩
    obtain ⟨F', R', le, tv⟩ := R.newW nz (e2.rep j.toNat)
    exact k _ false _ F' _ R' le (VR.fz tv) hp
  · exact hp.elim
end Y

namespace Y
open PySem PySem.Spec PyProof.Rows L2 RT RZ
/-! ### a tuple of the top has no dict -/
theorem tupN_ok {K : PySem.W.Frag} {x : Str} {vs : List He.Dv} (h : tupNB K x vs = true) (H : Hp) : SqN K H (He.ga K x) (vs.map (He.Dv.v K)) := by
  obtain ⟨h1, h2⟩ := He.ba h
  rcases He.tupB_ok h1 (fun _ => none) with (z | ⟨o, z⟩) | ⟨o, its, n, e1, e2, e3, e4, e5⟩
  · cases z
  · cases z
  · unfold noD at h2
    rw [e1] at h2
    have h2 : o.dict.isNone = true := h2
    exact .inr ⟨o, its, n, e1, e2, Option.isNone_iff_eq_none.mp h2, e3, e4, e5⟩
end Y

namespace Y
open PySem PySem.Spec PyProof.Rows
open L2 (TabOk Ris way nth runAt adv go_spec slot_live mask_odd MaskOk nth_add relaid_ok sameMem searchRest setSearchFrom_succ setAddHashedIn_succ setRelay_eq size_20 size_76 put_perm store_at wp_if_pos wp_if_neg)
/-! ### what a search meets, told by the hashes alone -/
abbrev sq (m : Nat) (h : Int) (c : Nat) : SetTable.Probe := nth m (runAt m (SetTable.bits h % (m + 1)) (SetTable.bits h)) c
theorem nth_calm (m : Nat) : ∀ (n : Nat) (p : SetTable.Probe), p.dummy = none → (nth m p n).dummy = none
  | 0, _, h => h
  | n + 1, p, h => nth_calm m n (adv m p) (by unfold adv; split <;> exact h)
theorem sq_add (m : Nat) (h : Int) (c q : Nat) : nth m (sq m h c) q = sq m h (c + q) := (nth_add m c _ q).symm
theorem probe_from {t : SetTable} {hs : List Int} (T : TabOk t hs) {hashAt : Nat → Int} (hA : ∀ i x, hs[i]? = some x → hashAt i = x) {h : Int} {K c : Nat} (hK : way t.mask h K ∉ t.place.toList)
    (hb : ∀ k, k < K → way t.mask h k ∈ t.place.toList) (hc : c ≤ K) (hf : K < 10 * SetTable.turns t.mask) :
    (∃ q i : Nat, c ≤ q ∧ q < K ∧ t.place.toList[i]? = some (way t.mask h q) ∧ hs[i]? = some h ∧ (∀ q' i' : Nat, c ≤ q' → q' < q → t.place.toList[i']? = some (way t.mask h q') → hs[i']? ≠ some h) ∧
      t.probe hashAt h (sq t.mask h c) = some (.candidate (way t.mask h q) i (sq t.mask h (q + 1)))) ∨
    ((∀ q' i' : Nat, c ≤ q' → q' < K → t.place.toList[i']? = some (way t.mask h q') → hs[i']? ≠ some h) ∧ t.probe hashAt h (sq t.mask h c) = some (.empty (way t.mask h K) none)) := by
  have there : ∀ (i j : Nat), t.place.toList[i]? = some j → ∃ x, hs[i]? = some x := fun i j hi => by
    have h1 := (List.getElem?_eq_some_iff.mp hi).1
    rw [Array.length_toList, T.sz] at h1
    exact ⟨_, List.getElem?_eq_getElem h1⟩
  have e : ∀ q, (nth t.mask (sq t.mask h c) q).j = way t.mask h (c + q) := fun q => congrArg SetTable.Probe.j (sq_add t.mask h c q)
  rcases go_spec t T.ris T.dm hashAt h (10 * SetTable.turns t.mask) (K - c) (sq t.mask h c) (nth_calm _ _ _ rfl) (by omega) (fun q hq => by rw [e]; exact hb _ (by omega)) (by rw [e, show c + (K - c) = K by omega]; exact hK) with ⟨q, i, a1, a2, a3, a4, a5⟩ | ⟨a4, a5⟩
  · rw [e] at a2 a5
    rw [sq_add] at a5
    obtain ⟨x, hx⟩ := there i _ a2
    refine .inl ⟨c + q, i, Nat.le_add_right _ _, by omega, a2, by rw [hx, ← hA i x hx, a3], fun q' i' b1 b2 b3 b4 => ?_, a5⟩
    exact a4 (q' - c) i' (by omega) (by rw [e, show c + (q' - c) = q' by omega]; exact b3) (hA i' h b4)
  · rw [e, show c + (K - c) = K by omega] at a5
    exact .inr ⟨fun q' i' b1 b2 b3 b4 => a4 (q' - c) i' (by omega) (by rw [e, show c + (q' - c) = q' by omega]; exact b3) (hA i' h b4), a5⟩
section
variable {P : Program} {w : World} {K : Type} [DecidableEq K] {knd : HeapKind P w K} {A : Around} {E : Value → Shared → Prop} {s : Shared}
/-- what a search asks of the things of a kind, beside hash and == -/
structure Tame (knd : HeapKind P w K) : Prop where
  st : ∀ {h h' : Heap} {k : K} {a : Addr}, (∀ b o vs n, h.get? b = some o → o.data = .seq vs n → h'.get? b = some o) → knd.is h k a → knd.is h' k a
  ofA : ∀ {A : Around} {E : Value → Shared → Prop} {s : Shared} {k : K} {b : Addr} {Q : Bool → Shared → Prop}, knd.is s.heap k b → Q false s → wpAny (model P w) A (ofAClassStatement 8 (.ref b)) Q E s
  hb : ∀ {A : Around} {E : Value → Shared → Prop} {s : Shared} {k : K} {b : Addr} {Q : Bool → Shared → Prop}, knd.is s.heap k b → (∀ r, Q r s) → wpAny (model P w) A (hashByValue 8 (.ref b)) Q E s
theorem seen_k (tm : Tame knd) {k : K} {b : Addr} {Q : Bool → Shared → Prop} (hk : knd.is s.heap k b) {ys : List Value} (hy : ∀ y ∈ ys, ∃ k' c, y = Value.ref c ∧ knd.is s.heap k' c) (h : Q false s) :
    wpAny (model P w) A (searchCouldBeSeen (.ref b) ys) Q E s := by
  unfold searchCouldBeSeen
  refine wpAny_bind (wpAny_forIn_list _ (fun rest r s' => r.1 = none ∧ s' = s ∧ ∀ y ∈ rest, ∃ k' c, y = Value.ref c ∧ knd.is s.heap k' c) _ ?_ ?_ _ _ ⟨rfl, rfl, hy⟩)
  · rintro v rest r s' ⟨hr, rfl, al⟩
    obtain ⟨k', c, rfl, hc⟩ := al v List.mem_cons_self
    have al' : ∀ y ∈ rest, ∃ k' c, y = Value.ref c ∧ knd.is s'.heap k' c := fun u hu => al u (List.mem_cons_of_mem _ hu)
    dsimp only
    by_cases hv : (b == c || (carriedByValue (.ref b) && carriedByValue (.ref c))) = true
    · exact wp_if_pos hv (wpAny_pure ⟨rfl, rfl, al'⟩)
    · refine wp_if_neg hv (wpAny_bind (knd.quiet hk ?_))
      simp only [Bool.not_true, Bool.false_eq_true, if_false]
      refine wpAny_bind (knd.quiet hc ?_)
      simp only [Bool.not_true, Bool.false_eq_true, if_false]
      refine wpAny_bind (tm.ofA hk ?_)
      simp only [Bool.false_eq_true, if_false]
      refine wpAny_bind (tm.ofA hc ?_)
      simp only [Bool.false_eq_true, if_false]
      exact wpAny_pure ⟨rfl, rfl, al'⟩
  · rintro ⟨r1, r2⟩ s' ⟨hr, rfl, _⟩
    simp only at hr
    subst hr
    exact wpAny_pure h
/-- how a thing stands in a set's array -/
abbrev rw1 (knd : HeapKind P w K) (p : Addr × K) : Int × Value := (knd.hash p.2, .ref p.1)
abbrev hs1 (knd : HeapKind P w K) (L : List (Addr × K)) : List Int := L.map fun p => knd.hash p.2
/-- at a stands a set that holds the things L, in the order of its table -/
structure SetD (knd : HeapKind P w K) (h : Heap) (a : Addr) (L : List (Addr × K)) (o : Obj) (es : Array (Int × Value)) (ep : Nat) (t : SetTable) : Prop where
  ho : h.get? a = some o
  ex : o.ExactSet
  dt : o.data = .set es ep t
  rows : es.toList = L.map (rw1 knd)
  tab : TabOk t (hs1 knd L)
  nd : (L.map (·.2)).Nodup
  is : ∀ p ∈ L, knd.is h p.2 p.1
  led : w.params.followText "set-order" = true ∨ t.led = true
  room : L.length * 5 < t.mask * 3
  few : L.length < 64
variable {a : Addr} {L : List (Addr × K)} {o : Obj} {es : Array (Int × Value)} {ep : Nat} {t : SetTable}
theorem rows_size {L : List (Addr × K)} (h : es.toList = L.map (rw1 knd)) : es.size = L.length := by rw [← Array.length_toList, h, List.length_map]
theorem fits_of {t : SetTable} {m n : Nat} (hd : t.dummies = #[]) (hz : t.place.size = n) (hm : n ≤ t.mask) : t.fits n = true := by
  unfold SetTable.fits SetTable.fill
  rw [hd, Bool.and_eq_true, beq_iff_eq, decide_eq_true_eq]
  exact ⟨hz, by show t.place.size + 0 ≤ t.mask; omega⟩
theorem SetD.fits (R : SetD knd s.heap a L o es ep t) : t.fits es.size = true := by
  have h1 := R.tab.sz
  rw [List.length_map] at h1
  have h2 := rows_size R.rows
  have h3 := R.room
  exact fits_of (m := 0) R.tab.dm (by rw [h1, h2]) (by rw [h2]; omega)
theorem entry_of {L : List (Addr × K)} (h : es.toList = L.map (rw1 knd)) {i : Nat} {p : Addr × K} (e : L[i]? = some p) : es[i]? = some (knd.hash p.2, .ref p.1) := by
  rw [← Array.getElem?_toList, h, List.getElem?_map, e, Option.map_some]
theorem hash_of {L : List (Addr × K)} (h : es.toList = L.map (rw1 knd)) (i : Nat) (x : Int) (e : (hs1 knd L)[i]? = some x) : (es[i]?.map (·.1)).getD 0 = x := by
  rw [List.getElem?_map] at e
  cases q : L[i]? with
  | none => rw [q] at e; cases e
  | some p => rw [q] at e; rw [entry_of h q]; exact Option.some.inj e
theorem calm_gw (R : SetD knd s.heap a L o es ep t) : ¬ t.gaveWay = true := by
  unfold SetTable.gaveWay
  rw [mask_odd R.tab.mok]
  decide
/-- the search for a place to add -/
theorem look_from (tm : Tame knd) (R : SetD knd s.heap a L o es ep t) {x : Addr} {k : K} (hx : knd.is s.heap k x) (hu : knd.room A) {N : Nat} (hNf : N < 10 * SetTable.turns t.mask)
    (hN : way t.mask (knd.hash k) N ∉ t.place.toList) (hNb : ∀ c, c < N → way t.mask (knd.hash k) c ∈ t.place.toList) {Q : SetFound → Shared → Prop}
    (hin : k ∈ L.map (·.2) → Q (.there none) s) (hout : k ∉ L.map (·.2) → Q (.free (way t.mask (knd.hash k) N) false) s) :
    ∀ (f c : Nat) (stand : Option SetTable.Probe), stand.getD (t.probeStart (knd.hash k)) = sq t.mask (knd.hash k) c → c ≤ N → N - c < f →
      (∀ (i : Nat) p, L[i]? = some p → p.2 = k → ∃ c', c ≤ c' ∧ c' < N ∧ t.place.toList[i]? = some (way t.mask (knd.hash k) c')) → wpAny (model P w) A (setSearchFrom a (.ref x) (knd.hash k) true f stand) Q E s
  | 0, c, stand, _, _, hf, _ => absurd hf (Nat.not_lt_zero _)
  | f + 1, c, stand, hst, hc, hf, hre => by
    rw [setSearchFrom_succ]
    refine wpAny_bind (wpAny_setState_of R.ho R.dt R.fits ?_)
    dsimp only
    refine wp_if_neg (calm_gw R) ?_
    try refine wpAny_bind (wpAny_pure ?_)
    rw [hst]
    rcases probe_from R.tab (hash_of R.rows) hN hNb hc hNf with ⟨q, i, q1, q2, hi, hh, hno, hpr⟩ | ⟨hno, hpr⟩
    · rw [hpr]
      dsimp only
      rw [List.getElem?_map] at hh
      obtain ⟨p, hp, hph⟩ := Option.map_eq_some_iff.mp hh
      have hm : p ∈ L := List.mem_of_getElem? hp
      have hpi := R.is p hm
      have rest : wpAny (model P w) A (searchRest a (.ref x) (knd.hash k) true f es t (way t.mask (knd.hash k) q) i (sq t.mask (knd.hash k) (q + 1))) Q E s := by
        unfold searchRest
        rw [entry_of R.rows hp]
        dsimp only
        refine wpAny_bind (wpAny_holding (knd.eqBool hu hpi hx ?_))
        refine wpAny_bind (wpAny_setState_of R.ho R.dt R.fits ?_)
        dsimp only
        by_cases hk : p.2 = k
        · exact wp_if_pos (by simp [hk]) (wpAny_pure (hin (List.mem_map.mpr ⟨p, hm, hk⟩)))
        · refine wp_if_neg (by simp [hk]) ?_
          try refine wpAny_bind (wpAny_pure ?_)
          rw [sameMem]
          dsimp only
          have hs : t.slot (way t.mask (knd.hash k) q) = .live i := slot_live R.tab.ris hi
          simp only [if_true, hs, entry_of R.rows hp]
          refine wpAny_bind (wpAny_isSame_ref_self (wpAny_bind (wpAny_pure ?_)))
          simp only [if_true]
          refine wp_if_neg (by simp [hk]) (look_from tm R hx hu hNf hN hNb hin hout f (q + 1) _ rfl (by omega) (by omega) fun i0 p0 h0 hk0 => ?_)
          obtain ⟨c', a1, a2, a3⟩ := hre i0 p0 h0 hk0
          have hh0 : (hs1 knd L)[i0]? = some (knd.hash k) := by rw [List.getElem?_map, h0, ← hk0, Option.map_some]
          rcases Nat.lt_trichotomy c' q with z | z | z
          · exact absurd hh0 (hno c' i0 a1 z a3)
          · subst z
            have s0 := slot_live R.tab.ris a3
            rw [hs] at s0
            injection s0 with s0
            rw [← s0, hp] at h0
            exact absurd ((congrArg Prod.snd (Option.some.inj h0)).trans hk0) hk
          · exact ⟨c', z, a2, a3⟩
      by_cases hl : t.led = true
      · refine wp_if_neg (by simp [hl]) ?_
        try refine wpAny_bind (wpAny_pure ?_)
        exact rest
      · refine wp_if_pos (by simp [hl]) (wpAny_bind (seen_k tm hx (fun y hy => ?_) ?_))
        · obtain ⟨e, he, rfl⟩ := List.mem_map.mp hy
          have he1 : e ∈ es ∧ e.1 = knd.hash k := by simpa using he
          have he2 : e ∈ es.toList := by simpa using he1.1
          rw [R.rows] at he2
          obtain ⟨p2, hp2, rfl⟩ := List.mem_map.mp he2
          exact ⟨p2.2, p2.1, rfl, R.is p2 hp2⟩
        · refine wp_if_neg (by decide) ?_
          try refine wpAny_bind (wpAny_pure ?_)
          exact rest
    · rw [hpr]
      dsimp only
      refine wpAny_pure (hout fun hm => ?_)
      obtain ⟨p0, h0, hk0⟩ := List.mem_map.mp hm
      obtain ⟨i0, hi0, e0⟩ := List.getElem_of_mem h0
      have h00 : L[i0]? = some p0 := by rw [List.getElem?_eq_getElem hi0, e0]
      obtain ⟨c', a1, a2, a3⟩ := hre i0 p0 h00 hk0
      exact hno c' i0 a1 a2 a3 (by rw [List.getElem?_map, h00, ← hk0, Option.map_some])
theorem look (tm : Tame knd) (R : SetD knd s.heap a L o es ep t) {x : Addr} {k : K} (hx : knd.is s.heap k x) (hu : knd.room A) {Q : SetFound → Shared → Prop} (hin : k ∈ L.map (·.2) → Q (.there none) s)
    (hout : ∀ N, k ∉ L.map (·.2) → way t.mask (knd.hash k) N ∉ t.place.toList → (∀ c, c < N → way t.mask (knd.hash k) c ∈ t.place.toList) → Q (.free (way t.mask (knd.hash k) N) false) s) :
    wpAny (model P w) A (setSearch a (.ref x) (knd.hash k) true) Q E s := by
  have hr := R.room
  obtain ⟨N, hNf, hN, hNb⟩ := R.tab.first (by rw [List.length_map]; omega) (knd.hash k)
  have big : 10 * SetTable.turns t.mask ≤ 1420 := by
    unfold SetTable.turns
    rcases R.tab.mok with e | e | e <;> omega
  unfold setSearch
  refine look_from tm R hx hu hNf hN hNb hin (fun z => hout N z hN hNb) 100000 0 none rfl (Nat.zero_le _) (by omega) fun i p hp hk => ?_
  have hi : (hs1 knd L)[i]? = some (knd.hash k) := by rw [List.getElem?_map, hp, ← hk, Option.map_some]
  have hl : i < t.place.toList.length := by
    rw [Array.length_toList, R.tab.sz, List.length_map]
    exact (List.getElem?_eq_some_iff.mp hp).1
  obtain ⟨c, hc, e⟩ := R.tab.before hN hi (List.getElem?_eq_getElem hl)
  exact ⟨c, Nat.zero_le _, hc, by rw [List.getElem?_eq_getElem hl, e]⟩
end
end Y

namespace Y
open PySem PySem.Spec PyProof.Rows
open L2 (TabOk Ris way nth runAt MaskOk relaid_ok setAddHashedIn_succ setRelay_eq size_20 size_76 put_perm store_at wp_if_pos wp_if_neg)
section
variable {P : Program} {w : World} {K : Type} [DecidableEq K] {knd : HeapKind P w K} {A : Around} {E : Value → Shared → Prop} {s : Shared}
variable {a : Addr} {L : List (Addr × K)} {o : Obj} {es : Array (Int × Value)} {ep : Nat} {t : SetTable}
theorem is_same (tm : Tame knd) {h h' : Heap} {k : K} {b : Addr} (hb : knd.is h k b) (ho : h.get? a = some o) (hd : o.data = .set es ep t) (hs : Heap.SameBut a h h') : knd.is h' k b :=
  tm.st (fun c o' vs n e e2 => (hs.2 c (fun z => by
    subst z
    obtain rfl : o' = o := Option.some.inj (e.symm.trans ho)
    rw [hd] at e2
    exact nomatch e2)).trans e) hb
/-- the things taken by an order of places -/
theorem by_order {es : Array (Int × Value)} (hr : es.toList = L.map (rw1 knd)) {order : Array Nat} (hp : order.toList.Perm (List.range L.length)) :
    ∃ L2 : List (Addr × K), (order.filterMap (es[·]?)).toList = L2.map (rw1 knd) ∧ L2.Perm L ∧ hs1 knd L2 = order.toList.map fun i => (es.map (·.1)).getD i 0 := by
  have hz := rows_size hr
  have lt : ∀ i ∈ order.toList, i < L.length := fun i hi => List.mem_range.mp (hp.mem_iff.mp hi)
  refine ⟨order.toList.filterMap (fun i => L[i]?), ?_, ?_, ?_⟩
  · rw [Array.toList_filterMap, List.map_filterMap]
    exact congrArg (fun f => List.filterMap f order.toList) (funext fun i => by rw [← Array.getElem?_toList, hr, List.getElem?_map])
  · refine (hp.filterMap _).trans (List.Perm.of_eq ?_)
    have : ∀ n, n ≤ L.length → (List.range n).filterMap (fun i => L[i]?) = L.take n := by
      intro n
      induction n with
      | zero => intro _; rfl
      | succ n ih =>
        intro hn
        rw [List.range_succ, List.filterMap_append, ih (Nat.le_of_lt hn), List.take_succ, List.filterMap_cons, List.filterMap_nil]
        cases L[n]? <;> rfl
    rw [this _ (Nat.le_refl _), List.take_length]
  · clear hp
    revert lt
    generalize order.toList = l
    induction l with
    | nil => intro _; rfl
    | cons i l ih =>
      intro hl
      have hi := hl i List.mem_cons_self
      have e1 : L[i]? = some L[i] := List.getElem?_eq_getElem hi
      have e2 : (es.map (·.1)).getD i 0 = knd.hash (L[i]).2 := by
        have e5 : (es.map (·.1))[i]? = some (knd.hash (L[i]).2) := by rw [Array.getElem?_map, entry_of hr e1]; rfl
        simp [Array.getD_eq_getD_getElem?, e5]
      rw [List.filterMap_cons_some e1, List.map_cons, ← ih fun j hj => hl j (List.mem_cons_of_mem _ hj), e2]
      rfl
/-- the table is laid anew -/
theorem relay_k (tm : Tame knd) (ho : s.heap.get? a = some o) (hex : o.ExactSet) (hd : o.data = .set es ep t) (hr : es.toList = L.map (rw1 knd)) (T : TabOk t (hs1 knd L)) (hfl : L.length ≤ t.mask)
    (nd : (L.map (·.2)).Nodup) (is : ∀ p ∈ L, knd.is s.heap p.2 p.1) (ld : w.params.followText "set-order" = true ∨ t.led = true) (few : L.length < 64) {wanted M : Nat}
    (hw : SetTable.sizeAbove wanted - 1 = M) (hM : MaskOk M) (hw2 : SetTable.sizeAbove wanted ≤ 128) (hn : L.length * 5 < M * 3) {Q : Unit → Shared → Prop}
    (hQ : ∀ h' L' o' es' ep' t', Heap.SameBut a s.heap h' → SetD knd h' a L' o' es' ep' t' → L'.Perm L → Q () { s with heap := h' }) : wpAny (model P w) A (setRelay a wanted) Q E s := by
  have hz := rows_size hr
  have hf : t.fits es.size = true := fits_of (m := 0) T.dm (by rw [T.sz, List.length_map, hz]) (by rw [hz]; exact hfl)
  obtain ⟨t', order, e, hp, T', em, el, ep', ed⟩ := relaid_ok t (hs := es.map (·.1)) (wanted := wanted) hw hM (by rw [Array.size_map, hz]; omega)
  rw [Array.size_map, hz] at hp
  obtain ⟨L2, r1, r2, r3⟩ := by_order hr hp
  rw [← r3] at T'
  have hz2 : (order.filterMap (es[·]?)).size = es.size := by rw [rows_size r1, r2.length_eq, hz]
  rw [setRelay_eq]
  refine wpAny_bind (wpAny_setState_of ho hd hf ?_)
  dsimp only
  refine wp_if_neg (by rw [sizeLine_eq]; omega) ?_
  try refine wpAny_bind (wpAny_pure ?_)
  rw [e]
  dsimp only
  refine wpAny_bind (wp_if_neg (by rw [hz2]; simp) ?_)
  try refine wpAny_bind (wpAny_pure ?_)
  refine wpAny_pure ?_
  dsimp only
  refine wpAny_storeSet_of ho hd ?_ (by rw [hz2, hz, sizeLine_eq]; omega)
  have sb : Heap.SameBut a s.heap (s.heap.update a (Obj.putSet (order.filterMap (es[·]?)) t')) := Heap.SameBut.update ..
  exact hQ _ L2 _ _ (ep + 1) t' sb ⟨store_at ho hd, ⟨hex.1, hex.2.1, hex.2.2⟩, rfl, r1, T', (r2.map (·.2)).nodup_iff.mpr nd, fun p hpm => is_same tm (is p (r2.mem_iff.mp hpm)) ho hd sb, by rw [el]; exact ld,
    by rw [r2.length_eq, em]; exact hn, by rw [r2.length_eq]; exact few⟩ r2
/-- one thing more -/
theorem add_k (tm : Tame knd) (R : SetD knd s.heap a L o es ep t) {x : Addr} {k : K} (hx : knd.is s.heap k x) (hu : knd.room A) (hfew : L.length + 1 < 64) {Q : Bool → Shared → Prop}
    (hQ : ∀ b h' L' o' es' ep' t', Heap.SameBut a s.heap h' → SetD knd h' a L' o' es' ep' t' → (k ∈ L.map (·.2) → L' = L) → (k ∉ L.map (·.2) → L'.Perm ((x, k) :: L)) → Q b { s with heap := h' }) :
    wpAny (model P w) A (setAddHashed a (.ref x) (knd.hash k)) Q E s := by
  have hz := rows_size R.rows
  have hroom := R.room
  unfold setAddHashed
  refine wpAny_holding ?_
  rw [show (100000 : Nat) = 99999 + 1 from rfl, setAddHashedIn_succ]
  refine wpAny_bind (wpAny_setState_of R.ho R.dt R.fits ?_)
  dsimp only
  refine wp_if_neg (by simp [byScan, Value.scannable]) ?_
  try refine wpAny_bind (wpAny_pure ?_)
  refine wpAny_bind (look tm R hx hu (fun hm => ?_) fun N hm hN hb => ?_)
  · dsimp only
    exact wpAny_pure (hQ false s.heap L o es ep t (Heap.SameBut.refl a s.heap) R (fun _ => rfl) fun z => absurd hm z)
  dsimp only
  refine wpAny_bind (wpAny_setState_of R.ho R.dt R.fits ?_)
  dsimp only
  obtain ⟨q1, q2, q3, q4, q5, q6, q7, q8, q9⟩ := R.tab.put hN hb
  generalize t.put (way t.mask (knd.hash k) N) = pt at q1 q3 q4 q5 q6 q7 q8 q9 ⊢
  obtain ⟨t1, p⟩ := pt
  dsimp only at q1 q3 q4 q5 q6 q7 q8 q9 ⊢
  rw [← q1] at q2 q3
  -- whether the table is still told to be plain
  have go2 : ∀ t2 : SetTable, t2 = t1 ∨ t2 = { t1 with plain := false } → wpAny (model P w) A (do
      storeSet a (SetTable.insertAt es p (knd.hash k, Value.ref x)) t2
      if (!false && t2.tooFull) = true then setRelay a (SetTable.grown (es.size + 1))
      return true) Q E s := ?main
  · by_cases hpl : t1.plain = true
    · first
        | (refine wpAny_bind ?_; refine wp_if_pos hpl ?_; refine tm.hb hx fun r => ?_)
        | refine wp_if_pos hpl (wpAny_bind (tm.hb hx fun r => ?_))
      cases r
      · exact go2 _ (.inr rfl)
      · exact go2 _ (.inl rfl)
    · first
        | (refine wpAny_bind ?_; refine wp_if_neg hpl ?_; refine wpAny_pure ?_)
        | refine wp_if_neg hpl (wpAny_bind (wpAny_pure ?_))
      exact go2 _ (.inl rfl)
  case main =>
  intro t2 ht2
  have k2 : t2.place = t1.place ∧ t2.dummies = t1.dummies ∧ t2.mask = t1.mask ∧ t2.led = t1.led ∧ t2.fill = t1.fill := by rcases ht2 with rfl | rfl <;> exact ⟨rfl, rfl, rfl, rfl, rfl⟩
  obtain ⟨r1, r2, r3, r4, r5⟩ := k2
  replace q3 : TabOk t2 _ := ⟨by rw [r1]; exact q3.ris, by rw [r2]; exact q3.dm, by rw [r1]; exact q3.sz, by rw [r3]; exact q3.mok, by rw [r1, r3]; exact q3.bd, by rw [r1, r3]; exact q3.reach⟩
  replace q4 := r3.trans q4
  replace q5 := r4.trans q5
  replace q9 := r5.trans q9
  clear ht2 r1 r2 r3 r4 r5 q6 q7 q8
  have hin : (SetTable.insertAt es p (knd.hash k, Value.ref x)).toList = (L.take p ++ (x, k) :: L.drop p).map (rw1 knd) := by
    rw [SetTable.toList_insertAt, R.rows, List.map_append, List.map_cons, List.map_take, List.map_drop]
  have pm := put_perm L p (x, k)
  have hh : hs1 knd (L.take p ++ (x, k) :: L.drop p) = (hs1 knd L).take p ++ knd.hash k :: (hs1 knd L).drop p := by
    unfold hs1
    rw [List.map_append, List.map_cons, List.map_take, List.map_drop]
  rw [← hh] at q3
  generalize L.take p ++ (x, k) :: L.drop p = L1 at pm q3 hin
  have hlen : L1.length = L.length + 1 := pm.length_eq
  have nd1 : (L1.map (·.2)).Nodup := (pm.map (·.2)).nodup_iff.mpr (by rw [List.map_cons]; exact List.nodup_cons.mpr ⟨hm, R.nd⟩)
  generalize SetTable.insertAt es p (knd.hash k, Value.ref x) = es1 at hin ⊢
  have hz1 : es1.size = L.length + 1 := (rows_size hin).trans hlen
  refine wpAny_bind (wpAny_storeSet_of R.ho R.dt ?_ (by rw [hz1, sizeLine_eq]; omega))
  have sb : Heap.SameBut a s.heap (s.heap.update a (Obj.putSet es1 t2)) := Heap.SameBut.update ..
  have ho1 := store_at (es' := es1) (t' := t2) R.ho R.dt
  generalize s.heap.update a (Obj.putSet es1 t2) = h1 at sb ho1 ⊢
  have is1 : ∀ p ∈ L1, knd.is h1 p.2 p.1 := fun p hp => by
    rcases List.mem_cons.mp (pm.mem_iff.mp hp) with e | hp
    · rw [e]; exact is_same tm hx R.ho R.dt sb
    · exact is_same tm (R.is p hp) R.ho R.dt sb
  have ld1 : w.params.followText "set-order" = true ∨ t2.led = true := by rw [q5]; exact R.led
  have q9' : t2.fill = L.length + 1 := by rw [q9, List.length_map]
  by_cases hf : t2.tooFull = true
  · first
      | (refine wpAny_bind ?_; refine wp_if_pos (by simp [hf]) ?_)
      | (refine wp_if_pos (by simp [hf]) ?_; refine wpAny_bind ?_)
    have full : (L.length + 1) * 5 ≥ t2.mask * 3 := by
      have h := hf
      unfold SetTable.tooFull at h
      rw [decide_eq_true_eq, q9'] at h
      exact h
    rw [hz]
    have two : (t.mask = 7 ∧ L.length = 4) ∨ (t.mask = 31 ∧ L.length = 18) := by
      rw [q4] at full
      rcases R.tab.mok with e | e | e <;> rw [e] at full hroom
      · exact .inl ⟨e, by omega⟩
      · exact .inr ⟨e, by omega⟩
      · omega
    have go : ∀ M, SetTable.sizeAbove (SetTable.grown (L.length + 1)) - 1 = M → MaskOk M → SetTable.sizeAbove (SetTable.grown (L.length + 1)) ≤ 128 → (L.length + 1) * 5 < M * 3 →
        wpAny (model P w) A (setRelay a (SetTable.grown (L.length + 1))) (fun _ s' => wpAny (model P w) A (pure true) Q E s') E { s with heap := h1 } := fun M z1 z2 z3 z4 =>
      relay_k (s := { s with heap := h1 }) tm ho1 ⟨R.ex.1, R.ex.2.1, R.ex.2.2⟩ rfl hin q3 (by rw [hlen, q4]; rcases two with ⟨e, e2⟩ | ⟨e, e2⟩ <;> omega) nd1 is1 ld1 (by rw [hlen]; exact hfew) z1 z2 z3 (by rw [hlen]; exact z4)
        fun h2 L2 o2 es2 ep2 t3 sb2 R2 pm2 => wpAny_pure (hQ true h2 L2 o2 es2 ep2 t3 (sb.trans sb2) R2 (fun z => absurd z hm) fun _ => pm2.trans pm)
    rcases two with ⟨_, e2⟩ | ⟨_, e2⟩
    · exact go 31 (by rw [e2, size_20]) (.inr (.inl rfl)) (by rw [e2, size_20]; decide) (by omega)
    · exact go 127 (by rw [e2, size_76]) (.inr (.inr rfl)) (by rw [e2, size_76]; decide) (by omega)
  · first
      | refine wp_if_neg (by simp [hf]) ?_
      | (refine wpAny_bind ?_; refine wp_if_neg (by simp [hf]) ?_; refine wpAny_pure ?_)
    refine wpAny_pure (hQ true h1 L1 _ es1 (ep + 1) t2 sb ⟨ho1, ⟨R.ex.1, R.ex.2.1, R.ex.2.2⟩, rfl, hin, q3, nd1, is1, ld1, ?_, by rw [hlen]; exact hfew⟩ (fun z => absurd z hm) fun _ => pm)
    have h := hf
    unfold SetTable.tooFull at h
    rw [decide_eq_true_eq, q9'] at h
    rw [hlen]
    omega
end
end Y

namespace Y
open PySem PySem.Spec PyProof.Rows
open L2 (SetIt SetAt Ris collect_set code_set_led1)
/-- what differs, the last first -/
def ddp {K : Type} [DecidableEq K] (xs : List K) : List K := xs.foldl (fun D x => if x ∈ D then D else x :: D) []
section
variable {K : Type} [DecidableEq K]
theorem ddp_snoc (xs : List K) (x : K) : ddp (xs ++ [x]) = if x ∈ ddp xs then ddp xs else x :: ddp xs := by
  unfold ddp
  rw [List.foldl_append, List.foldl_cons, List.foldl_nil]
theorem ddp_spec : ∀ (n : Nat) (xs : List K), xs.length = n → (ddp xs).length ≤ xs.length ∧ (∀ y, y ∈ ddp xs ↔ y ∈ xs) ∧ ((ddp xs).length = xs.length ↔ xs.Nodup)
  | 0, xs, h => by
    rw [List.length_eq_zero_iff.mp h]
    exact ⟨Nat.le_refl _, fun y => Iff.rfl, by simp [ddp]⟩
  | n + 1, xs, h => by
    have hne : xs ≠ [] := fun z => by rw [z] at h; cases h
    obtain ⟨ys, x, rfl⟩ : ∃ ys x, xs = ys ++ [x] := ⟨xs.dropLast, xs.getLast hne, (List.dropLast_concat_getLast hne).symm⟩
    have hy : ys.length = n := by rw [List.length_append, List.length_singleton] at h; omega
    obtain ⟨i1, i2, i3⟩ := ddp_spec n ys hy
    rw [ddp_snoc, List.nodup_append]
    by_cases z : x ∈ ddp ys
    · rw [if_pos z, List.length_append, List.length_singleton]
      refine ⟨by omega, fun y => ?_, ⟨fun e => by omega, fun ⟨_, _, q⟩ => absurd rfl (q x ((i2 x).mp z) x (List.mem_singleton.mpr rfl))⟩⟩
      rw [i2, List.mem_append, List.mem_singleton]
      exact ⟨.inl, fun e => e.elim id fun e => e ▸ (i2 x).mp z⟩
    · rw [if_neg z, List.length_append, List.length_cons, List.length_singleton]
      refine ⟨by omega, fun y => ?_, ⟨fun e => ⟨i3.mp (by omega), by simp, fun a ha b hb e2 => z ((i2 x).mpr ?_)⟩, fun ⟨q, _, _⟩ => by rw [i3.mpr q]⟩⟩
      · rw [List.mem_cons, i2, List.mem_append, List.mem_singleton]
        exact ⟨fun e => e.elim .inr .inl, fun e => e.elim .inr .inl⟩
      · rw [List.mem_singleton.mp hb] at e2
        exact e2 ▸ ha
theorem ddp_len (xs : List K) : (ddp xs).length = xs.length ↔ xs.Nodup := (ddp_spec _ xs rfl).2.2
theorem ddp_le (xs : List K) : (ddp xs).length ≤ xs.length := (ddp_spec _ xs rfl).1
end
section
variable {P : Program} {w : World} {K : Type} [DecidableEq K] {knd : HeapKind P w K} {A : Around} {E : Value → Shared → Prop} {R : Result → Shared → Prop} {it S : Addr} {fp wr : List Addr} {G : Array GenState → Array GenState → Prop} {n : Nat} {V' : Nat → Value → Prop} {St : Nat → Shared → Prop}
/-- a set at a of what differs in D; its things stood in the heap h0 -/
def SetH (knd : HeapKind P w K) (h0 h : Heap) (a : Addr) (D : List K) : Prop := ∃ L o es ep t, SetD knd h a L o es ep t ∧ (L.map (·.2)).Perm D ∧ ∀ p ∈ L, knd.is h0 p.2 p.1
theorem SetH.at (tm : Tame knd) {h0 h h' : Heap} {a : Addr} {D : List K} (x : SetH knd h0 h a D) (ha : ∀ o, h.get? a = some o → h'.get? a = some o) (hk : ∀ b o, h0.get? b = some o → h'.get? b = some o) : SetH knd h0 h' a D := by
  obtain ⟨L, o, es, ep, t, R, pm, i0⟩ := x
  exact ⟨L, o, es, ep, t, ⟨ha o R.ho, R.ex, R.dt, R.rows, R.tab, R.nd, fun p hp => tm.st (fun b o _ _ e _ => hk b o e) (i0 p hp), R.led, R.room, R.few⟩, pm, i0⟩
theorem setH_fresh {h0 h : Heap} {a : Addr} (e : h.get? a = some (set0 (ledW w))) : SetH knd h0 h a [] :=
  ⟨[], _, #[], 0, _, ⟨e, ⟨rfl, rfl, rfl⟩, rfl, rfl, ⟨List.Pairwise.nil, rfl, rfl, .inl rfl, fun x hx => (by cases hx), fun i h j hi => (by simp at hi)⟩, List.nodup_nil, fun p hp => (by cases hp), by
    show _ ∨ (!w.params.followText "set-order") = true
    cases w.params.followText "set-order"
    · exact .inr rfl
    · exact .inl rfl, (by show 0 * 5 < 7 * 3; decide), (by show 0 < 64; decide)⟩, .refl _, fun p hp => (by cases hp)⟩
theorem setH_loop (tm : Tame knd) (Wk : WalksS P w A.in1 it fp wr G n V' St) (nf : S ∉ fp) (ks : List (Addr × K)) (hl : ks.length = n) (hb : n < 64) (hv : ∀ i v, V' i v → ∃ p, ks[i]? = some p ∧ v = .ref p.1)
    (h0 : Heap) (hk : ∀ p ∈ ks, knd.is h0 p.2 p.1) (hS0 : h0.get? S = none) (hw0 : ∀ b ∈ wr, h0.get? b = none) (hu : knd.room A.in1) :
    ∀ (k i : Nat) (s : Shared), n - i = k → i ≤ n → St i s → (∀ b o, h0.get? b = some o → s.heap.get? b = some o) → SetH knd h0 s.heap S (ddp ((ks.take i).map (·.2))) →
      (∀ s', Moved (S :: wr) G s s' → SetH knd h0 s'.heap S (ddp (ks.map (·.2))) → (∀ b o, h0.get? b = some o → s'.heap.get? b = some o) → R (.ok (.ret .none)) s') → codeAny (model P w) A (.builtin "set.update.loop" ⟨[.ref S, .ref it], []⟩) R s := by
  have nw : S ∉ wr := fun z => nf (Wk.sub _ z)
  have kp : ∀ {s s' : Shared}, Moved wr G s s' → (∀ b o, h0.get? b = some o → s.heap.get? b = some o) → ∀ b o, h0.get? b = some o → s'.heap.get? b = some o := fun hm q b o e => hm.heap b o (fun z => by rw [hw0 b z] at e; cases e) (q b o e)
  intro k
  induction k with
  | zero =>
    intro i s e1 e2 st h1 hS fin
    obtain rfl : i = n := by omega
    refine codeAny_builtin PyProof.Rows.F.entry_set_update_loop ?_; rw [Around.under_plainId (PyProof.Rows.F.plain_set_update_loop) _]
    show wpAny _ A.in1 (pyNext (.ref it) >>= _) _ _ s
    refine wpAny_bind (Wk.done s _ _ st fun s' hm => wpAny_pure (fin s' (hm.mono fun b z => List.mem_cons_of_mem _ z) ?_ (kp hm h1)))
    have := hS.at tm (fun o e => hm.heap S o nw e) (kp hm h1)
    rw [List.take_of_length_le (Nat.le_of_eq hl)] at this
    exact this
  | succ k ih =>
    intro i s e1 e2 st h1 hS fin
    refine codeAny_builtin PyProof.Rows.F.entry_set_update_loop ?_; rw [Around.under_plainId (PyProof.Rows.F.plain_set_update_loop) _]
    show wpAny _ A.in1 (pyNext (.ref it) >>= _) _ _ s
    refine wpAny_bind (Wk.item i s _ _ (by omega) st fun v s' hpv st' hm => ?_)
    obtain ⟨p, hp, rfl⟩ := hv i v hpv
    have h1' := kp hm h1
    have hi : i < ks.length := by omega
    have hx0 := hk p (List.mem_of_getElem? hp)
    have hx : knd.is s'.heap p.2 p.1 := tm.st (fun b o _ _ e _ => h1' b o e) hx0
    obtain ⟨L, o, es, ep, t, RD, pm, i0⟩ := hS.at tm (fun o e => hm.heap S o nw e) h1'
    have hL : L.length ≤ i := by
      have := ddp_le ((ks.take i).map (·.2))
      rw [List.length_map, List.length_take] at this
      have e := pm.length_eq
      rw [List.length_map] at e
      omega
    refine wpAny_bind (m := holding [Value.ref p.1] (setAdd S (.ref p.1))) (wpAny_holding ?_)
    unfold setAdd
    refine wpAny_holding (wpAny_bind (knd.pyHash hu hx ?_))
    refine add_k (s := { s' with toks := s'.toks + knd.draws p.2 }) tm RD hx hu (by omega) fun b0 h' L' o' es' ep' t' sb RD2 c1 c2 => ?_
    have eD : ddp ((ks.take (i + 1)).map (·.2)) = if p.2 ∈ ddp ((ks.take i).map (·.2)) then ddp ((ks.take i).map (·.2)) else p.2 :: ddp ((ks.take i).map (·.2)) := by
      rw [List.take_succ, hp, Option.toList_some, List.map_append, List.map_cons, List.map_nil, ddp_snoc]
    have hS3 : SetH knd h0 h' S (ddp ((ks.take (i + 1)).map (·.2))) := by
      rw [eD]
      by_cases z : p.2 ∈ ddp ((ks.take i).map (·.2))
      · rw [if_pos z]
        have e := c1 (pm.mem_iff.mpr z)
        subst e
        exact ⟨_, _, _, _, _, RD2, pm, i0⟩
      · rw [if_neg z]
        have pm2 := c2 (fun y => z (pm.mem_iff.mp y))
        refine ⟨_, _, _, _, _, RD2, (pm2.map (·.2)).trans (List.Perm.cons _ pm), fun q hq => ?_⟩
        rcases List.mem_cons.mp (pm2.mem_iff.mp hq) with e | e
        · rw [e]; exact hx0
        · exact i0 q e
    have h1s : ∀ b o, h0.get? b = some o → h'.get? b = some o := fun b o e => (sb.2 b (fun z => by rw [z, hS0] at e; cases e)).trans (h1' b o e)
    refine wpAny_pure ⟨plainId_quiet PyProof.Rows.F.plain_set_update_loop _, ih (i + 1) _ (by omega) (by omega) (Wk.frame _ s' _ _ st' (Nat.le_add_right _ _) fun b z o e => ?_) h1s hS3 fun s2 m2 hS4 h4 => fin s2 (Moved.trans Wk.gtrans ((hm.mono fun b z => List.mem_cons_of_mem _ z).then_heap (Nat.le_add_right _ _) fun b o z e => ?_) m2) hS4 h4⟩
    · rw [sb.2 b (fun y : b = S => nf (y ▸ z))]
      exact e
    · rw [sb.2 b (fun y : b = S => z (by rw [y]; exact List.mem_cons_self))]
      exact e
end
section
variable {P : Program} {w : World} {K : Type} [DecidableEq K] {knd : HeapKind P w K} {A : Around} {E : Value → Shared → Prop} {R' : Result → Shared → Prop} {s : Shared} {l : Addr} {items : Array Value} {ks : List (Addr × K)} {Q : Value → Shared → Prop}
theorem setH_fill (tm : Tame knd) {c : Addr} {W3 : Around} (hh : W3.handled = none) (hu : knd.room W3.in1) (hl : s.heap.IsList l items) (hi : items.toList = ks.map fun p => Value.ref p.1) (hb : ks.length < 64) (h0 : Heap) (hk : ∀ p ∈ ks, knd.is h0 p.2 p.1)
    (h0c : h0.get? c = none) (h0n : h0.get? s.heap.objs.size = none) (h0s : ∀ b o, h0.get? b = some o → s.heap.get? b = some o) (hS : s.heap.get? c = some (set0 (ledW w))) (hc : c < s.heap.objs.size) (hne : l ≠ c)
    (fin : ∀ (h' : Heap) (tk : Nat), SetH knd h0 h' c (ddp (ks.map (·.2))) → (∀ b o, b ≠ c → s.heap.get? b = some o → h'.get? b = some o) → R' (.ok (.ret .none)) { s with heap := h', toks := tk }) :
    codeAny (model P w) W3 (.builtin "set.update.loop" ⟨[.ref c, .ref s.heap.objs.size], []⟩) R' { s with heap := s.heap.push { cls := .type "list_iterator", data := .fields #[.ref l, .int 0 0] } } := by
  have ll : l < s.heap.objs.size := by obtain ⟨o, ho, _⟩ := hl; exact Heap.lt_size ho
  have hz : ks.length = items.size := by rw [← Array.length_toList, hi, List.length_map]
  refine setH_loop tm ((Walks.list (by simp [hh]) _ l (Nat.ne_of_lt ll) items).toS) (fun z => ?_) ks hz (by rw [← hz]; exact hb) (fun i v e => ?_) h0 hk h0c (fun b z => by rw [List.mem_singleton.mp z]; exact h0n) hu _ 0 _ rfl (Nat.zero_le _) ⟨⟨_, Heap.get?_push_size _ rfl, rfl, rfl⟩, hl.push _⟩ (fun b o e => Heap.get?_push_of_some _ (h0s b o e)) ?_ fun s' m hS2 _ => ?_
  · rcases List.mem_cons.mp z with y | y
    · exact absurd hc (by rw [y]; exact Nat.lt_irrefl _)
    · exact hne (List.mem_singleton.mp y).symm
  · have q : items.toList[i]? = some v := by rw [Array.getElem?_toList]; exact e
    rw [hi, List.getElem?_map] at q
    obtain ⟨p, hp, e2⟩ := Option.map_eq_some_iff.mp q
    exact ⟨p, hp, e2.symm⟩
  · exact setH_fresh (Heap.get?_push_of_some _ hS)
  · obtain ⟨h', g', d', tk', os'⟩ := s'
    obtain rfl : g' = s.gens := m.gens
    obtain rfl : d' = s.drawn := m.drawn
    obtain rfl : os' = s.os := m.os
    refine fin h' tk' hS2 fun b o hb e => m.heap b o (fun z => ?_) (Heap.get?_push_of_some _ e)
    rcases List.mem_cons.mp z with y | y
    · exact hb y
    · exact absurd (Heap.lt_size e) (by rw [List.mem_singleton.mp y]; exact Nat.lt_irrefl _)
end
end Y

namespace Y
open PySem PySem.Spec PyProof.Rows
open L2 (SetIt SetAt Ris collect_set code_set_led1)
section
variable {P : Program} {w : World} {K : Type} [DecidableEq K] {A : Around} {E : Value → Shared → Prop} {s : Shared}
theorem calm_of {v : Value} (h : carriedByValue v = true) (n : Nat) : ofAClassStatement n v = pure false := by
  cases v <;> first | (cases n <;> rfl) | (simp [carriedByValue] at h)
theorem calm_hb {v : Value} (h : carriedByValue v = true) (n : Nat) : ∃ r, hashByValue n v = pure r := by
  cases v <;> first | (cases n <;> exact ⟨_, rfl⟩) | (simp [carriedByValue] at h)
theorem items_calm {kd : KeyKind P w K} {k : List K} {vs : List Value} (h : ItemsAre kd k vs) : ∀ v ∈ vs, carriedByValue v = true := by
  induction h with
  | nil => intro v hv; cases hv
  | cons h1 _ ih =>
    intro v hv
    rcases List.mem_cons.mp hv with e | hv
    · rw [e]; exact kd.byValue _ _ h1
    · exact ih v hv
/-- tuples of things that are carried by value are tame -/
theorem tame_tup (kd : KeyKind P w K) : Tame (tupleKind kd) where
  st := fun hk ⟨o, items, n, ho, hc, hd, hi⟩ => ⟨o, items, n, hk _ _ _ _ ho hd, hc, hd, hi⟩
  ofA := fun {A E s k b Q} hk h => by
    have hk : IsTupleKey kd s.heap k b := hk
    have hT := hk.typeIs
    obtain ⟨o, items, n, ho, _, hd, hi⟩ := hk
    unfold ofAClassStatement
    refine wpAny_bind (wpAny_typeOf hT ?_)
    dsimp only
    have e : (("tuple" : String) == "tuple") = true := by decide
    simp only [e, if_true, Bool.not_true, Bool.false_eq_true, if_false]
    try refine wpAny_bind (wpAny_pure ?_)
    try simp only [Bool.not_true, Bool.false_eq_true, if_false]
    show wpAny _ _ (seqItems? (.ref b) >>= _) _ _ s
    refine wpAny_bind (wpAny_seqItems ho hd ?_)
    dsimp only
    refine wpAny_bind ?_
    show wpAny _ _ (forIn items _ _) _ _ s
    rw [← Array.forIn_toList]
    refine wpAny_forIn_list _ (fun rest r s' => r.1 = none ∧ s' = s ∧ ∀ v ∈ rest, carriedByValue v = true) _ ?_ ?_ _ _ ⟨rfl, rfl, items_calm hi⟩
    · rintro v rest r s' ⟨hr, rfl, al⟩
      rw [calm_of (al v List.mem_cons_self)]
      refine wpAny_bind (wpAny_pure ?_)
      simp only [Bool.false_eq_true, if_false]
      exact wpAny_pure ⟨rfl, rfl, fun u hu => al u (List.mem_cons_of_mem _ hu)⟩
    · rintro ⟨r1, r2⟩ s' ⟨hr, rfl, _⟩
      simp only at hr
      subst hr
      exact wpAny_pure h
  hb := fun {A E s k b Q} hk h => by
    have hk : IsTupleKey kd s.heap k b := hk
    have hT := hk.typeIs
    obtain ⟨o, items, n, ho, _, hd, hi⟩ := hk
    unfold hashByValue
    refine wpAny_bind (wpAny_specialOf hT PySem.F.slot_tuple_hash.lookup ?_)
    show wpAny _ _ (seqItems? (.ref b) >>= _) _ _ s
    refine wpAny_bind (wpAny_seqItems ho hd ?_)
    refine wpAny_bind ?_
    show wpAny _ _ (forIn items _ _) _ _ s
    rw [← Array.forIn_toList]
    refine wpAny_forIn_list _ (fun rest r s' => s' = s ∧ r.1 = none ∧ ∀ v ∈ rest, carriedByValue v = true) _ ?_ ?_ _ _ ⟨rfl, rfl, items_calm hi⟩
    · rintro v rest r s' ⟨rfl, hr, al⟩
      obtain ⟨r0, er⟩ := calm_hb (al v List.mem_cons_self) 7
      rw [er]
      refine wpAny_bind (wpAny_pure ?_)
      cases r0
      · simp only [Bool.not_false, if_true]
        exact wpAny_pure (wpAny_pure (h _))
      · simp only [Bool.not_true, Bool.false_eq_true, if_false]
        exact wpAny_pure ⟨rfl, rfl, fun u hu => al u (List.mem_cons_of_mem _ hu)⟩
    · rintro ⟨r1, r2⟩ s' ⟨rfl, hr, _⟩
      simp only at hr
      subst hr
      exact wpAny_pure (h _)
end
section
variable {P : Program} {w : World} {K : Type} [DecidableEq K] {kd : KeyKind P w K} {A : Around} {E : Value → Shared → Prop} {s : Shared} {l : Addr} {items : Array Value} {ks : List (Addr × List K)} {Q : Value → Shared → Prop}
theorem call_setH (hh : A.handled = none) (hu : A.units + 8 < cLine) (hl : s.heap.IsList l items) (hi : items.toList = ks.map fun p => Value.ref p.1) (hb : ks.length < 64) (hk : ∀ p ∈ ks, IsTupleKey kd s.heap p.2 p.1)
    (fin : ∀ (h' : Heap) (tk : Nat), SetH (tupleKind kd) s.heap h' s.heap.objs.size (ddp (ks.map (·.2))) → (∀ b o, s.heap.get? b = some o → h'.get? b = some o) → Q (.ref s.heap.objs.size) { s with heap := h', toks := tk }) :
    wpAny (model P w) A (call (.type "set") [.ref l]) Q E s := by
  have none_of : ∀ b, s.heap.objs.size ≤ b → s.heap.get? b = none := fun b hb => by
    cases q : s.heap.get? b with
    | none => rfl
    | some o => exact absurd (Nat.lt_of_lt_of_le (Heap.lt_size q) hb) (Nat.lt_irrefl _)
  obtain ⟨mc, mt, mm⟩ := PySem.F.called_set.mro
  have k1 := PySem.F.called_set.made; have k2 := PySem.F.called_set.sub; have k3 := PySem.F.called_set.notType; have k4 := PySem.F.called_set.canCreate; have k5 := PySem.F.typeCall_set_1 (.ref l)
  refine wpAny_call (codeAny_of_tree ?_); show wpAny _ _ (callAny (.type "set") _) _ _ _
  refine wpAny_pure ⟨Code.quiet_builtin _ (by decide +kernel), codeAny_builtin PySem.F.entry_type_call ?_⟩; rw [Around.under_plain (weight_type_call_type "set" [.ref l] []) rfl]
  repeat (any_goals (first | assumption | wp_step))
  refine codeAny_mono (code_set_led1 (.ref l) (E := E) (Q₁ := fun obj s₁ => obj = .ref s.heap.objs.size ∧ s₁ = { s with heap := s.heap.push (set0 (ledW w)) }) ⟨rfl, rfl⟩) fun r s₁ hr => ?_
  match r, hr with
  | .error e, hr => exact hr
  | .ok .next, hr => exact hr.elim
  | .ok .brk, hr => exact hr.elim
  | .ok .cont, hr => exact hr.elim
  | .ok (.ret obj), hr =>
    obtain ⟨rfl, rfl⟩ := hr
    have hS : (s.heap.push (set0 (ledW w))).get? s.heap.objs.size = some (set0 (ledW w)) := Heap.get?_push_size _ rfl
    have hT : Shared.TypeIs { s with heap := s.heap.push (set0 (ledW w)) } (.ref s.heap.objs.size) "set" := ⟨_, hS, rfl⟩
    have k6 := PySem.F.called_set.init.lookup; have k7 := PySem.F.called_set.init.bind (.ref s.heap.objs.size)
    repeat (any_goals (first | assumption | wp_step))
    refine codeAny_mono (codeAny_call_builtin (R := wants (fun r s₂ => r = .none ∧ ∃ h' tk, s₂ = { s with heap := h', toks := tk } ∧ SetH (tupleKind kd) s.heap h' s.heap.objs.size (ddp (ks.map (·.2))) ∧ (∀ b o, s.heap.get? b = some o → h'.get? b = some o)) E)
      PySem.F.called_set.init.plain PySem.F.entry_set_init (check_set_init_1 hT ?_)) fun r₂ s₂ hr₂ => ?_
    · have ll : l < s.heap.objs.size := by obtain ⟨o, ho, _⟩ := hl; exact Heap.lt_size ho
      obtain ⟨⟨oc, od, odt, osl⟩, ho, hc, nl, hd⟩ := hl
      simp only at hc hd; subst hc; subst hd
      have ho' : (s.heap.push (set0 (ledW w))).get? l = some { cls := .type "list", dict := od, data := .seq items nl, slots := osl } := Heap.get?_push_of_some _ ho
      have k8 := PySem.F.sub_list_set; have k9 := PySem.F.sub_list_frozenset; have k10 : (Value.type "list" == Value.type "dict") = false := by decide
      have hl1 : (s.heap.push (set0 (ledW w))).IsList l items := ⟨_, ho', rfl, nl, rfl⟩
      unfold Builtin.«set.__init__» noKeywords Builtin.Frozenset.updateFrom; generalize hPI : pyIter = PI
      wp_walk
      subst hPI
      refine wpAny_pyIter_list hl1 ?_; refine wpAny_bind (wpAny_runValue ?_)
      refine setH_fill (knd := tupleKind kd) (s := { s with heap := s.heap.push (set0 (ledW w)) }) (tame_tup kd) (by simp [hh]) ?hroom hl1 hi hb s.heap hk (none_of _ (Nat.le_refl _)) (none_of _ (by rw [Heap.size_push]; exact Nat.le_succ _)) (fun b o e => Heap.get?_push_of_some _ e) hS (by rw [Heap.size_push]; exact Nat.lt_succ_self _) (Nat.ne_of_lt ll) fun h' tk hS2 k => ?_
      case hroom => show _ < cLine; first | (simp only [Around.units_in1]; omega) | omega | (simp; omega)
      show wpAny _ _ _ _ _ _; refine wpAny_pure ?_
      show wpAny _ _ (ret Value.none) _ _ _
      exact wpAny_pure ⟨rfl, h', tk, rfl, hS2, fun b o e => k b o (Nat.ne_of_lt (Heap.lt_size e)) (Heap.get?_push_of_some _ e)⟩
    · match r₂, hr₂ with
      | .error e, hr₂ => exact hr₂
      | .ok .next, hr₂ => exact hr₂.elim
      | .ok .brk, hr₂ => exact hr₂.elim
      | .ok .cont, hr₂ => exact hr₂.elim
      | .ok (.ret r), hr₂ =>
        obtain ⟨rfl, h', tk, rfl, hS2, k⟩ := hr₂
        repeat (any_goals (first | assumption | wp_step))
        exact fin _ _ hS2 k
end
end Y

namespace Y
open PySem PySem.Spec PyProof.Rows
theorem entry_set_ne : entryFor table "set.__ne__" = some Builtin.«frozenset.__ne__» := entryFor_alias (id' := "frozenset.__ne__") (by kernel_rfl) rfl (by decide +kernel) (by kernel_rfl)
section
variable {P : Program} {w : World} {A : Around} {E : Value → Shared → Prop} {s : Shared}
theorem quiet_scan {v : Value} (h : v.scannable = true) : Builtin.Frozenset.quietEq v = pure true := by
  cases v <;> first | rfl | (simp [Value.scannable] at h)
theorem walk_scan {a b : Addr} {oa ob : Obj} {es es' : Array (Int × Value)} {ep ep' : Nat} {t t' : SetTable} {Q : List (Int × Value) → Shared → Prop} (ha : s.heap.get? a = some oa) (da : oa.data = .set es ep t) (fa : t.fits es.size = true)
    (hb : s.heap.get? b = some ob) (db : ob.data = .set es' ep' t') (fb : t'.fits es'.size = true) (sa : ∀ e ∈ es.toList, e.2.scannable = true) (sb : ∀ e ∈ es'.toList, e.2.scannable = true) (h : Q es.toList s) :
    wpAny (model P w) A (Builtin.Frozenset.walkUnseen a b) Q E s := by
  unfold Builtin.Frozenset.walkUnseen
  refine wpAny_bind (wpAny_setEntries_of ha da fa ?_)
  refine wpAny_bind (wpAny_setEntries_of hb db fb ?_)
  refine wpAny_bind (wpAny_forIn_list _ (fun rest r s' => r.1 = none ∧ s' = s ∧ ∀ e ∈ rest, e.2.scannable = true) _ ?_ ?_ _ _ ⟨rfl, rfl, fun e he => (List.mem_append.mp he).elim (sa e) (sb e)⟩)
  · rintro v rest r s' ⟨hr, rfl, al⟩
    have hv := al v List.mem_cons_self
    obtain ⟨v1, v2⟩ := v
    dsimp only
    show wpAny _ _ (Builtin.Frozenset.quietEq v2 >>= _) _ _ _
    rw [quiet_scan hv]
    refine wpAny_bind (wpAny_pure ?_)
    simp only [Bool.not_true, Bool.false_eq_true, if_false]
    exact wpAny_pure ⟨rfl, rfl, fun u hu => al u (List.mem_cons_of_mem _ hu)⟩
  · rintro ⟨r1, r2⟩ s' ⟨hr, rfl, _⟩
    simp only at hr
    subst hr
    exact wpAny_pure h
theorem sub_scan {nm : String} {a b : Addr} {S1 S2 : Str → Bool} {n m : Nat} {Q : Bool → Shared → Prop} (h1 : s.heap.SetOf (PySem.strKind P w) a S1 n) (h2 : s.heap.SetOf (PySem.strKind P w) b S2 m)
    (h : ∀ r : Bool, (r = true ↔ n ≤ m ∧ ∀ k, S1 k = true → S2 k = true) → Q r s) : wpAny (model P w) A (Builtin.Frozenset.subsetOf nm a b) Q E s := by
  obtain ⟨o, es, ep, t, ho, hx, hd, hel, hmem, hb, hf, hn⟩ := h1
  obtain ⟨o', es', ep', t', ho', hx', hd', hel', hmem', hb', hf', hn'⟩ := id h2
  unfold Builtin.Frozenset.subsetOf Builtin.Frozenset.sizeOf
  refine wpAny_bind (wpAny_bind (wpAny_setEntries_of ho hd hf (wpAny_pure ?_)))
  refine wpAny_bind (wpAny_bind (wpAny_setEntries_of ho' hd' hf' (wpAny_pure ?_)))
  by_cases hle : es.size > es'.size
  · refine L2.wp_if_pos hle (wpAny_pure (h false ⟨fun z => (nomatch z), fun z => ?_⟩))
    omega
  refine L2.wp_if_neg hle (wpAny_bind (wpAny_setEpoch_of ho hd hf ?_))
  refine wpAny_bind (walk_scan ho hd hf ho' hd' hf' (fun e he => (hel e he).2) (fun e he => (hel' e he).2) ?_)
  refine wpAny_bind (wpAny_forIn_list _ (fun rest r s' => r.1 = none ∧ s' = s ∧ (∀ e ∈ rest, e ∈ es.toList) ∧ ∀ e ∈ es.toList, e ∈ rest ∨ ∃ k, (PySem.strKind P w).is k e.2 = true ∧ S2 k = true) _ ?_ ?_ _ _ ⟨rfl, rfl, fun e he => he, fun e he => .inl he⟩)
  · rintro v rest r s' ⟨hr, rfl, al, dn⟩
    have hv := al v List.mem_cons_self
    obtain ⟨⟨k, hk, hh⟩, hsc⟩ := hel v hv
    obtain ⟨v1, v2⟩ := v
    dsimp only at hk hh hsc ⊢
    subst hh
    refine wpAny_bind (wpAny_holding (wpAny_setFind_of hk hsc h2 fun r0 hr0 => ?_))
    cases r0 with
    | none =>
      refine L2.wp_if_pos rfl (wpAny_pure (wpAny_pure (h false ⟨fun z => (nomatch z), fun z => ?_⟩)))
      have := z.2 k ((hmem k).mpr ⟨_, hv, hk⟩)
      rw [this] at hr0
      exact nomatch hr0
    | some j =>
      refine L2.wp_if_neg (fun z => nomatch z) ?_
      unfold Builtin.Frozenset.unchanged
      refine wpAny_bind (wpAny_bind (wpAny_setEpoch_of ho hd hf ?_))
      refine L2.wp_if_neg (by simp) (wpAny_pure (wpAny_pure ⟨rfl, rfl, fun u hu => al u (List.mem_cons_of_mem _ hu), fun e he => ?_⟩))
      rcases dn e he with z | z
      · rcases List.mem_cons.mp z with y | y
        · exact .inr ⟨k, by rw [y]; exact hk, hr0.symm⟩
        · exact .inl y
      · exact .inr z
  · rintro ⟨r1, r2⟩ s' ⟨hr, rfl, _, dn⟩
    simp only at hr
    subst hr
    refine wpAny_pure (h true ⟨fun _ => ⟨by omega, fun k hk => ?_⟩, fun _ => rfl⟩)
    obtain ⟨e, he, hk2⟩ := (hmem k).mp hk
    rcases dn e he with z | ⟨k', z1, z2⟩
    · exact nomatch z
    · rw [(PySem.strKind P w).inj e.2 k k' hk2 z1]
      exact z2
theorem set_ne_run {a b : Addr} {S1 S2 : Str → Bool} {n m : Nat} {Q : Value → Shared → Prop} (h1 : s.heap.SetOf (PySem.strKind P w) a S1 n) (h2 : s.heap.SetOf (PySem.strKind P w) b S2 m) (hu : A.units < cLine)
    (h : ∀ r : Bool, (r = false ↔ n = m ∧ ∀ k, S1 k = true → S2 k = true) → Q (.bool r) s) : wpAny (model P w) A (compareOp .NotEq (.ref a) (.ref b)) Q E s := by
  refine wpAny_richCompare_same_room (op := .NotEq) h1.typeIs h2.typeIs PySem.F.slot_set_ne (wpAny_call_entry PySem.F.slot_set_ne h1.typeIs entry_set_ne ?_ (PySem.F.args_set_ne_2 _ _)) hu
  show wpAny _ _ (Builtin.Frozenset.slot1 "__ne__" ⟨[.ref a, .ref b], []⟩ >>= _) _ _ s
  refine wpAny_bind ?_
  unfold Builtin.Frozenset.slot1
  show wpAny _ _ (pure (Value.ref a, Value.ref b)) _ _ s
  refine wpAny_pure ?_
  dsimp only
  refine wpAny_bind ?_
  unfold Builtin.Frozenset.isAnySet
  refine wpAny_bind (wpAny_isInstance (T := "set") h2.typeIs PySem.F.sub_set_set ?_)
  refine wpAny_pure ?_
  refine L2.wp_if_neg (fun z => nomatch z) ?_
  unfold Builtin.Frozenset.addrOf Builtin.Frozenset.sizeOf
  refine wpAny_bind (wpAny_pure ?_)
  refine wpAny_bind (wpAny_pure ?_)
  obtain ⟨o, es, ep, t, ho, hx, hd, hel, hmem, hb, hf, hn⟩ := id h1
  obtain ⟨o', es', ep', t', ho', hx', hd', hel', hmem', hb', hf', hn'⟩ := id h2
  refine wpAny_bind (wpAny_bind (wpAny_setEntries_of ho hd hf (wpAny_pure ?_)))
  refine wpAny_bind (wpAny_bind (wpAny_setEntries_of ho' hd' hf' (wpAny_pure ?_)))
  rw [hn, hn']
  have fin : ∀ r : Bool, (r = true ↔ n = m ∧ ∀ k, S1 k = true → S2 k = true) → wpAny (model P w) A.in1 (ret (Value.bool !r)) (fun fin s' => ∃ v, fin = Fin.done (Flow.ret v) ∧ v ≠ Value.notImplemented ∧ Q v s') E s := fun r hr =>
    wpAny_pure ⟨_, rfl, fun z => (nomatch z), h (!r) (by rw [← hr]; cases r <;> simp)⟩
  by_cases hnm : n = m
  · refine wpAny_bind (L2.wp_if_neg (by simp [hnm]) ?_)
    refine wpAny_bind (wpAny_bind (wpAny_isInstance (T := "set") h1.typeIs PySem.F.sub_set_frozenset (wpAny_pure ?_)))
    refine L2.wp_if_neg (fun z => nomatch z) ?_
    refine sub_scan h1 h2 fun r hr => fin r ?_
    rw [hr, hnm]
    exact ⟨fun z => ⟨rfl, z.2⟩, fun z => ⟨Nat.le_refl _, z.2⟩⟩
  · refine wpAny_bind (L2.wp_if_pos (by simp [hnm]) (wpAny_pure (fin false ⟨fun z => (nomatch z), fun z => absurd z.1 hnm⟩)))
end
end Y

namespace Y
open PySem PySem.Spec PyProof.Rows L2 RT RZ
section
variable {X : Cx} {W : Wld} {a : Expr} {ta : TE} {pa : PE'} {p p2 q pos : Pos}
def keT : L2.Key → T
  | .inl i => .int i
  | .inr s => .str s
theorem refs_vals {α : Type} : ∀ {ks : List (Addr × α)} {us : List Value}, Vals (ks.map fun p => V.ref p.1) us → us = ks.map fun p => Value.ref p.1
  | [], _, h => by cases h; rfl
  | p :: ks, _, h => by
    cases h with
    | cons h1 h2 => rw [List.map_cons, refs_vals h2, show _ = Value.ref p.1 from h1]
theorem isK_of {pins : List (Addr × Obj)} {σ : L2.St} {H : Hp} {s : Shared} {b : Addr} {k : List L2.Key} (I : Inv X pins σ H s) (h : SqT X.K H b (k.map kV)) : IsTupleKey (mixKind X.prog X.w) s.heap k b := by
  obtain ⟨its, r, ⟨o, ho, hc, n, hd⟩, _⟩ := I.tuple h
  exact ⟨o, its.toArray, n, ho, hc, hd, by simpa using items_are r⟩
/-- len(set(xs)) of tuples of ints and texts in a list -/
def tLenSk (K : PySem.W.Frag) (ta : TE) : TE := fun σ H Q => ta σ H fun x H1 => ∃ (l : Addr) (ks : List (Addr × List L2.Key)), x = .ref l ∧ SqL K H1 l (ks.map fun p => V.ref p.1) ∧ (∀ p ∈ ks, SqT K H1 p.1 (p.2.map kV)) ∧ ks.length < 64 ∧ Q (.int (ddp (ks.map (·.2))).length) H1
theorem pe_lenSk (hc : X.calm = true) (hu : X.A.units + 64 < cLine) (hg : Gl X "len") (hm : X.mg "len" = none) (hg2 : Gl X "set") (hm2 : X.mg "set" = none) (ha : PE X a ta)
    (na : starEach [a] X.env = (false, eval a X.env) :: starEach [] X.env := by rfl) : PE X (.Call (.Name "len" p) [.Call (.Name "set" p2) [a] [] q] [] pos) (tLenSk X.K ta) := by
  refine ⟨fun pins s σ H Q I h => Call_ (ld_blt I hg hm boot_len (PyProof.Rows.callWith_builtin1 (PyProof.Rows.args_cons (Call_ (ld_blt I hg2 hm2 boot_set ?_)) rfl) rfl rfl))⟩
  refine PyProof.Rows.callWith_type1 (PyProof.Rows.args_cons (thn (ha.run pins s σ H _ I h) fun v s1 ⟨x, H1, I1, r1, q1⟩ => PyProof.Rows.args_nil ?_) na) na rfl
  obtain ⟨l, ks, rfl, hq, hk, hb, q1⟩ := q1
  obtain rfl : v = Value.ref l := r1
  obtain ⟨its, r, pl, hz⟩ := I1.list hq
  refine call_setH (kd := mixKind X.prog X.w) (I1.ok.hd hc) (by omega) pl.isList (by simpa using refs_vals r) hb (fun p hp => isK_of I1 (hk p hp)) fun h' tk hS hkp => PyProof.Rows.args_nil ?_
  obtain ⟨L, o, es, ep, t, R, pm, _⟩ := hS
  have I2 : Inv X pins σ H1 { s1 with heap := h', toks := tk } := I1.kept hkp
  have hz2 : es.size = (ddp (ks.map (·.2))).length := by rw [rows_size R.rows, ← pm.length_eq, List.length_map]
  have few := R.few
  have hz3 := rows_size R.rows
  exact call_len_set R.ho R.ex R.dt (SetD.fits (s := { s1 with heap := h', toks := tk }) R) (by omega) ⟨.int (ddp (ks.map (·.2))).length, H1, I2.tok _, ⟨_, by rw [hz2]⟩, q1⟩
def pLenSk (pa : PE') : PE' := fun ρ Φ => pa ρ fun t _ ρ' => ∃ ks : List (List L2.Key), t = .lst (ks.map fun k => T.tup (k.map keT)) ∧ ks.length < 64 ∧ Φ (.int ((ddp ks).length : Nat)) false ρ'
theorem keT_vals {K : PySem.W.Frag} {F : Hp} : ∀ {k : List L2.Key} {vs : List V}, TvL K F (k.map keT) vs → vs = k.map kV
  | [], _, h => h
  | .inl i :: k, _, h => by
    obtain ⟨x, r, rfl, h1, h2⟩ := h
    rw [keT_vals h2, show x = _ from h1]
    rfl
  | .inr i :: k, _, h => by
    obtain ⟨x, r, rfl, h1, h2⟩ := h
    rw [keT_vals h2, show x = _ from h1]
    rfl
theorem tups_at {K : PySem.W.Frag} {F : Hp} : ∀ {ks : List (List L2.Key)} {vs : List V}, TvL K F (ks.map fun k => T.tup (k.map keT)) vs → ∃ ps : List (Addr × List L2.Key), vs = ps.map (fun p => V.ref p.1) ∧ ps.map (·.2) = ks ∧ ∀ p ∈ ps, SqN K F p.1 (p.2.map kV)
  | [], _, h => ⟨[], h, rfl, fun p hp => nomatch hp⟩
  | k :: ks, _, h => by
    obtain ⟨x, r, rfl, ⟨a, zs, rfl, h1, h3⟩, h2⟩ := h
    obtain ⟨ps, rfl, e, h4⟩ := tups_at h2
    refine ⟨(a, k) :: ps, rfl, by rw [List.map_cons, e], fun p hp => ?_⟩
    rcases List.mem_cons.mp hp with y | y
    · rw [y, ← keT_vals h3]; exact h1
    · exact h4 p y
theorem qe_lenSk (hc : X.calm = true) (hu : X.A.units + 65 < cLine) (hg : Gl X "len") (hm : X.mg "len" = none) (hg2 : Gl X "set") (hm2 : X.mg "set" = none) (ha : QE X W a pa)
    (na : starEach [a] X.env = (false, eval a X.env) :: starEach [] X.env := by rfl) : QE X W (.Call (.Name "len" p) [.Call (.Name "set" p2) [a] [] q] [] pos) (pLenSk pa) := by
  obtain ⟨t, h1, h2⟩ := ha.ex
  refine ⟨_, pe_lenSk hc (by omega) hg hm hg2 hm2 h1 na, fun B F0 ρ σ F H Φ Q R hp k => ?_⟩
  refine h2.fz R hp fun τ ρ1 v F1 H1 R1 le1 tv q1 => ?_
  obtain ⟨ks, rfl, hb, q1⟩ := q1
  obtain ⟨a, ys, rfl, h5, h6⟩ := tv
  obtain ⟨ps, rfl, e, h7⟩ := tups_at h6
  refine ⟨a, ps, rfl, .of (R1.fh _ _ h5), fun p hp => sqt_le R1.fh (h7 p hp), by rw [← e, List.length_map] at hb; exact hb, ?_⟩
  rw [e]
  exact k _ false ρ1 _ F1 H1 R1 le1 VR.int q1
/-! ### set(xs) != set(ys) of texts -/
def SetSO (P : Program) (w : World) (a : Addr) (xs : List Str) : HO := .ext fun h => h.SetOf (PySem.strKind P w) a (fun y => decide (y ∈ xs)) (dif xs xs.length)
theorem setSO_at {P : Program} {w : World} {h h' : Heap} {a : Addr} {S : Str → Bool} {n : Nat} (R : h.SetOf (PySem.strKind P w) a S n) (k : ∀ o, h.get? a = some o → h'.get? a = some o) : h'.SetOf (PySem.strKind P w) a S n := by
  obtain ⟨o, es, ep, t, ho, r⟩ := R
  exact ⟨o, es, ep, t, k o ho, r⟩
theorem setSO_new {w : World} {P : Program} {H : Hp} {h : Heap} {a : Addr} {xs : List Str} (R : h.SetOf (PySem.strKind P w) a (fun y => decide (y ∈ xs)) (dif xs xs.length)) : ObjOk P w H h a (SetSO P w a xs) := by
  have ⟨o, _, _, _, ho, _⟩ := R
  exact ⟨R, ⟨o, ho⟩, fun h1 h2 p k => setSO_at p k⟩
theorem setSO_get {pins : List (Addr × Obj)} {σ : L2.St} {H : Hp} {s : Shared} {a : Addr} {xs : List Str} (I : Inv X pins σ H s) (ha : H a = some (SetSO X.prog X.w a xs)) : s.heap.SetOf (PySem.strKind X.prog X.w) a (fun y => decide (y ∈ xs)) (dif xs xs.length) := (I.hok a _ ha).1
def tSetX (X : Cx) (ta : TE) : TE := fun σ H Q => ta σ H fun x H1 => ∃ l, ∃ xs : List Str, x = .ref l ∧ SqL X.K H1 l (xs.map V.str) ∧ xs.length + 1 < scanBound ∧ ∀ c, H1 c = none → Q (.ref c) (upd H1 c (SetSO X.prog X.w c xs))
theorem pe_setX (hc : X.calm = true) (hg2 : Gl X "set") (hm2 : X.mg "set" = none) (ha : PE X a ta)
    (na : starEach [a] X.env = (false, eval a X.env) :: starEach [] X.env := by rfl) : PE X (.Call (.Name "set" p2) [a] [] q) (tSetX X ta) := by
  refine ⟨fun pins s σ H Q I h => Call_ (ld_blt I hg2 hm2 boot_set ?_)⟩
  refine PyProof.Rows.callWith_type1 (PyProof.Rows.args_cons (thn (ha.run pins s σ H _ I h) fun v s1 ⟨x, H1, I1, r1, q1⟩ => PyProof.Rows.args_nil ?_) na) na rfl
  obtain ⟨l, xs, rfl, hq, hb, q1⟩ := q1
  obtain rfl : v = Value.ref l := r1
  obtain ⟨its, r, pl, hz⟩ := I1.list hq
  refine call_setL (I1.ok.hd hc) pl.isList (by simpa using strsAre_of r) hb fun h' tk hS hk => ?_
  exact ⟨.ref _, upd H1 s1.heap.objs.size (SetSO X.prog X.w s1.heap.objs.size xs), I1.laid (t' := tk) hk (Nat.le_refl _) (setSO_new hS), rfl, q1 _ (I1.hok.fresh (Nat.le_refl _))⟩
/-- != of two sets of texts -/
def rNeSt (X : Cx) : R2 := fun x y H Q => ∃ (a b : Addr) (xs ys : List Str), x = .ref a ∧ y = .ref b ∧ H a = some (SetSO X.prog X.w a xs) ∧ H b = some (SetSO X.prog X.w b ys) ∧ Q (.bl (!decide (∀ z : Str, z ∈ xs ++ ys → (z ∈ xs ∧ z ∈ ys)))) H
theorem dif_ddp (xs : List Str) : ∀ i, i ≤ xs.length → dif xs i = (ddp (xs.take i)).length
  | 0, _ => by simp [dif, ddp]
  | i + 1, h => by
    have hi : i < xs.length := h
    have eg : xs.getD i Str.empty = xs[i] := by simp [List.getD_eq_getElem?_getD, List.getElem?_eq_getElem hi]
    rw [List.take_succ, List.getElem?_eq_getElem hi, Option.toList_some, ddp_snoc]
    unfold dif
    rw [eg, dif_ddp xs i (Nat.le_of_lt hi)]
    by_cases z : xs[i] ∈ xs.take i
    · rw [if_pos z, if_pos (((ddp_spec _ _ rfl).2.1 _).mpr z), Nat.add_zero]
    · rw [if_neg z, if_neg (fun y => z (((ddp_spec _ _ rfl).2.1 _).mp y)), List.length_cons]
theorem dif_len (xs : List Str) : dif xs xs.length = (ddp xs).length := by rw [dif_ddp xs _ (Nat.le_refl _), List.take_length]
theorem ddp_nodup {K : Type} [DecidableEq K] : ∀ (n : Nat) (xs : List K), xs.length = n → (ddp xs).Nodup
  | 0, xs, h => by
    rw [List.length_eq_zero_iff.mp h]
    exact List.nodup_nil
  | n + 1, xs, h => by
    have hne : xs ≠ [] := fun z => by rw [z] at h; cases h
    obtain ⟨ys, x, rfl⟩ : ∃ ys x, xs = ys ++ [x] := ⟨xs.dropLast, xs.getLast hne, (List.dropLast_concat_getLast hne).symm⟩
    have hy : ys.length = n := by rw [List.length_append, List.length_singleton] at h; omega
    rw [ddp_snoc]
    split
    · exact ddp_nodup n ys hy
    · rename_i z
      exact List.nodup_cons.mpr ⟨z, ddp_nodup n ys hy⟩
theorem sub_len {K : Type} [DecidableEq K] : ∀ (l m : List K), l.Nodup → (∀ x ∈ l, x ∈ m) → l.length ≤ m.length
  | [], _, _, _ => Nat.zero_le _
  | x :: l, m, h, s => by
    obtain ⟨h1, h2⟩ := List.nodup_cons.mp h
    have := sub_len l (m.erase x) h2 fun y hy => (List.mem_erase_of_ne (fun (z : y = x) => h1 (by rw [← z]; exact hy))).mpr (s y (List.mem_cons_of_mem _ hy))
    rw [List.length_erase_of_mem (s x List.mem_cons_self)] at this
    have hp : 0 < m.length := List.length_pos_of_mem (s x List.mem_cons_self)
    rw [List.length_cons]
    omega
/-- lists without doubles, as long, one within the other -/
theorem sub_back {K : Type} [DecidableEq K] {l m : List K} (h : l.Nodup) (e : m.length ≤ l.length) (s : ∀ x ∈ l, x ∈ m) : ∀ x ∈ m, x ∈ l := fun x hx => by
  by_cases z : x ∈ l
  · exact z
  · have := sub_len (x :: l) m (List.nodup_cons.mpr ⟨z, h⟩) fun y hy => (List.mem_cons.mp hy).elim (fun q => q ▸ hx) (s y)
    rw [List.length_cons] at this
    omega
theorem same_sets (xs ys : List Str) : ((ddp xs).length = (ddp ys).length ∧ ∀ k, k ∈ xs → k ∈ ys) ↔ ∀ z : Str, z ∈ xs ++ ys → (z ∈ xs ∧ z ∈ ys) := by
  have hx := (ddp_spec _ xs rfl).2.1
  have hy := (ddp_spec _ ys rfl).2.1
  refine ⟨fun ⟨h1, h2⟩ z hz => ?_, fun h => ⟨?_, fun k hk => (h k (List.mem_append_left _ hk)).2⟩⟩
  · have back := sub_back (ddp_nodup _ xs rfl) (Nat.le_of_eq h1.symm) fun x q => (hy x).mpr (h2 x ((hx x).mp q))
    rcases List.mem_append.mp hz with q | q
    · exact ⟨q, h2 z q⟩
    · exact ⟨(hx z).mp (back z ((hy z).mpr q)), q⟩
  · refine Nat.le_antisymm (sub_len _ _ (ddp_nodup _ xs rfl) fun x q => (hy x).mpr (h x (List.mem_append_left _ ((hx x).mp q))).2) (sub_len _ _ (ddp_nodup _ ys rfl) fun x q => (hx x).mpr (h x (List.mem_append_right _ ((hy x).mp q))).1)
theorem op_neSt (hu : X.A.units + 64 < cLine) : OpR X (compareOp .NotEq) (rNeSt X) := by
  intro pins s σ H x y v u Q I rx ry h
  obtain ⟨a, b, xs, ys, rfl, rfl, ha, hb, q⟩ := h
  obtain rfl : v = Value.ref a := rx
  obtain rfl : u = Value.ref b := ry
  refine set_ne_run (setSO_get I ha) (setSO_get I hb) (by omega) fun r hr => ⟨.bl _, H, I, rfl, ?_⟩
  have e : r = !decide (∀ z : Str, z ∈ xs ++ ys → (z ∈ xs ∧ z ∈ ys)) := by
    rw [dif_len, dif_len] at hr
    simp only [decide_eq_true_eq] at hr
    rw [same_sets] at hr
    cases r
    · rw [decide_eq_true (hr.mp rfl)]; rfl
    · rw [decide_eq_false (fun z => nomatch hr.mpr z)]; rfl
  rw [e]
  exact q
def pNeSt (pa pb : PE') : PE' := fun ρ Φ => pa ρ fun t _ ρ1 => ∃ xs : List Str, t = .lst (xs.map T.str) ∧ xs.length + 1 < scanBound ∧ pb ρ1 fun u _ ρ2 => ∃ ys : List Str, u = .lst (ys.map T.str) ∧ ys.length + 1 < scanBound ∧
  Φ (.bl (!decide (∀ z : Str, z ∈ xs ++ ys → (z ∈ xs ∧ z ∈ ys)))) false ρ2
theorem sm_neSt {tb ta : TE} {pb : PE'} (h2 : SmE X.K W ta pa) (h4 : SmE X.K W tb pb) : SmE X.K W (tOp (rNeSt X) (tSetX X ta) (tSetX X tb)) (pNeSt pa pb) := by
  intro B F0 ρ σ F H Φ Q R hp k
  refine h2.fz R hp fun τ ρ1 v F1 H1 R1 le1 tv q1 => ?_
  obtain ⟨xs, rfl, hb, q1⟩ := q1
  obtain ⟨a, ys, rfl, h5, h6⟩ := tv
  rw [TvL.strs xs rfl h6] at h5
  refine ⟨a, xs, rfl, .of (R1.fh _ _ h5), hb, fun c hc => ?_⟩
  have hA : ¬ W.A c := fun z => W.al H1 c R1.ok z hc
  have hsl : ∀ (i : Nat) (l : T), ρ1[i]? = some (Sl.own l) → σ[i]? ≠ some (some (V.ref c)) := fun i l e z => by
    obtain ⟨b, o, e1, e2, _⟩ := R1.own i l e
    rw [e1] at z
    cases z
    rw [hc] at e2
    cases e2
  have RP := (R1.grow (o := SetSO X.prog X.w c xs) hc).prot upd_same (none_of_le R1.fh hc) hA hsl
  refine h4.fz RP q1 fun τ ρ2 v F2 H2 R2 le2 tv2 q2 => ?_
  obtain ⟨ys, rfl, hb2, q2⟩ := q2
  obtain ⟨a2, zs, rfl, h7, h8⟩ := tv2
  rw [TvL.strs ys rfl h8] at h7
  have e2 : H2 c = some (SetSO X.prog X.w c xs) := R2.bh c _ upd_same
  have R3 := R2.unprot (none_of_le R1.bh hc) hA
  refine ⟨a2, ys, rfl, .of (R2.fh _ _ h7), hb2, fun c2 hc2 => ?_⟩
  refine ⟨c, c2, xs, ys, rfl, rfl, ?_, upd_same, k _ false ρ2 _ F2 _ (R3.grow hc2) (le1.trans le2) VR.bl q2⟩
  rw [upd_ne (fun (z : c = c2) => by rw [z, hc2] at e2; cases e2)]
  exact e2
theorem qe_neSt {b : Expr} {pb : PE'} {p3 q3 : Pos} (hc : X.calm = true) (hu : X.A.units + 65 < cLine) (hg2 : Gl X "set") (hm2 : X.mg "set" = none) (ha : QE X W a pa) (hb : QE X W b pb)
    (na : starEach [a] X.env = (false, eval a X.env) :: starEach [] X.env := by rfl) (nb : starEach [b] X.env = (false, eval b X.env) :: starEach [] X.env := by rfl) :
    QE X W (.Compare (.Call (.Name "set" p2) [a] [] q) [.NotEq] [.Call (.Name "set" p3) [b] [] q3] pos) (pNeSt pa pb) := by
  obtain ⟨t1, h1, h2⟩ := ha.ex
  obtain ⟨t2, h3, h4⟩ := hb.ex
  exact ⟨_, pe_cmpR (op_neSt (by omega)) (pe_setX hc hg2 hm2 h1 na) (pe_setX hc hg2 hm2 h3 nb) rfl, sm_neSt h2 h4⟩
theorem qt_neSt {b : Expr} {pb : PE'} {p3 q3 : Pos} (hc : X.calm = true) (hu : X.A.units + 65 < cLine) (hg2 : Gl X "set") (hm2 : X.mg "set" = none) (ha : QE X W a pa) (hb : QE X W b pb)
    (na : starEach [a] X.env = (false, eval a X.env) :: starEach [] X.env := by rfl) (nb : starEach [b] X.env = (false, eval b X.env) :: starEach [] X.env := by rfl) :
    QT X W (.Compare (.Call (.Name "set" p2) [a] [] q) [.NotEq] [.Call (.Name "set" p3) [b] [] q3] pos) (pTB (pNeSt pa pb)) := by
  obtain ⟨t1, h1, h2⟩ := ha.ex
  obtain ⟨t2, h3, h4⟩ := hb.ex
  refine ⟨_, pt_cmpR (op_neSt (by omega)) (pe_setX hc hg2 hm2 h1 na) (pe_setX hc hg2 hm2 h3 nb) rfl, fun B F0 ρ σ F H Φ Q R hp k => ?_⟩
  refine (sm_neSt h2 h4).fz R hp fun τ ρ1 v F1 H1 R1 le1 tv q1 => ?_
  obtain ⟨c, rfl, q1⟩ := q1
  exact ⟨c, tv, k c ρ1 F1 H1 R1 le1 q1⟩
end
end Y

namespace Y
open PySem PySem.Spec PyProof.Rows L2
/-! ### list(d): the keys of a dict -/
section
variable {X : Cx} {W : Wld}
theorem keys_zip : ∀ (ks : List Key) (xs : List V), ks.length = xs.length → (ks.zip xs).map (fun kv => kV kv.1) = ks.map kV
  | [], [], _ => rfl
  | k :: ks, x :: xs, h => by rw [List.zip_cons_cons, List.map_cons, List.map_cons, keys_zip ks xs (by simpa using h)]
  | _ :: _, [], h => by simp at h
  | [], _ :: _, h => by simp at h
theorem keys_tv {K : PySem.W.Frag} {F : Hp} : ∀ ks : List Key, TvL K F (ks.map keyT) (ks.map kV)
  | [] => rfl
  | .inl _ :: ks => ⟨_, _, rfl, rfl, keys_tv ks⟩
  | .inr _ :: ks => ⟨_, _, rfl, rfl, keys_tv ks⟩
theorem cq_listD (hc : X.calm = true) : CallQ X W (.type "list") (fun l Φ => ∃ ks vs, l = [.dct ks vs] ∧ Φ (.lst (ks.map keyT)) true) := by
  intro B F0 ρ σ F H l vs Φ Q R tv hp k
  obtain ⟨ks, us, rfl, hp⟩ := hp
  obtain ⟨v, rfl, a, xs, rfl, h2, h0, h3⟩ := tvl1 tv
  refine rSC.of (call_list_dK hc) ⟨a, _, rfl, R.fh _ _ h2, fun z nz => ?_⟩
  rw [keys_zip ks xs (by rw [h0, TvL.length h3])]
  obtain ⟨R2, vr⟩ := R.newL nz (keys_tv (K := X.K) (F := F) ks)
  exact k _ true _ F _ R2 (Le.refl _) vr hp
theorem keys_str (ws : List Str) : (ws.map (fun w => (Sum.inr w : Key))).map keyT = ws.map T.str := by rw [List.map_map]; rfl
end
end Y

namespace Y
open PySem PySem.Spec PyProof.Rows
section
variable {prog : Program} {w : World} {A : Around} {E : Value → Shared → Prop} {s : Shared} {l : Addr} {xs : Array (Int × Tok)}
theorem max_intTup {Q : Value → Shared → Prop} (hh : A.handled = none) (hl : s.heap.IsTuple l (intItems xs)) (hne : 0 < xs.size)
    (h : ∀ v h' tk, (intItems xs)[argBest (fun i j => decide (numAt xs i > numAt xs j)) (xs.size - 1)]? = some v → (∀ b o, s.heap.get? b = some o → h'.get? b = some o) → Q v { s with heap := h', toks := tk }) :
    wpAny (model prog w) A (call (.builtin "max") [.ref l]) Q E s := by
  have ll : l < s.heap.objs.size := by obtain ⟨o, ho, _⟩ := hl; exact Heap.lt_size ho
  refine call_max_walk (wpAny_pyIter_tuple hl ?_)
  refine ⟨_, _, _, _, _, _, _, rfl, Walks.tuple (A := A.in1) hh _ l (Nat.ne_of_lt ll) (intItems xs), ⟨⟨_, Heap.get?_push_size _ rfl, rfl, rfl⟩, hl.push _⟩, fun b hb => ?_, by simpa [intItems] using hne, CmpOf.ints_gt (numAt xs) (fun _ _ => intItems_at), fun v h' tk hP hk => ?_⟩
  · rw [Heap.size_push]
    rcases List.mem_cons.mp hb with e | e
    · rw [e]; exact Nat.lt_succ_self _
    · rw [List.mem_singleton.mp e]; exact Nat.lt_succ_of_lt ll
  · refine h v h' tk (by simpa [intItems] using hP) fun b o e => hk b o (fun z => ?_) (Heap.get?_push_of_some _ e)
    rw [List.mem_singleton.mp z] at e
    exact absurd (Heap.lt_size e) (Nat.lt_irrefl _)
end
section
open L2
variable {X : Cx} {W : Wld}
theorem max_rawT {prog : Program} {w : World} {A : Around} {E : Value → Shared → Prop} {s : Shared} {l : Addr} {its : List Value} {ns : List Int} {Q : Value → Shared → Prop} (hh : A.handled = none) (hl : s.heap.IsTuple l its.toArray) (hi : IntsAre its ns) (hne : 0 < ns.length)
    (h : ∀ h' tk M t', (∀ b o, s.heap.get? b = some o → h'.get? b = some o) → M ∈ ns → (∀ a, a ∈ ns → a ≤ M) → Q (.int M t') { s with heap := h', toks := tk }) : wpAny (model prog w) A (call (.builtin "max") [.ref l]) Q E s := by
  obtain ⟨xs, e⟩ := hi.allInts.items
  have hn : numsOf (intItems xs).toList = ns := by rw [← e]; exact hi.numsOf
  rw [nums_intItems] at hn
  subst hn
  rw [e] at hl
  have hsz : 0 < xs.size := by simpa using hne
  refine max_intTup hh hl hsz fun v h' tk hv hk => ?_
  obtain ⟨t, rfl⟩ := intItems_at hv
  obtain ⟨h1, h2⟩ := argBest_gt (numAt xs) (xs.size - 1)
  refine h h' tk _ t hk ?_ fun a ha => ?_
  · rw [numAt_eq]; exact PySem.getD_mem (by rw [List.length_map, Array.length_toList]; omega)
  · obtain ⟨j, hj, rfl⟩ := mem_getD ha
    rw [List.length_map, Array.length_toList] at hj
    rw [← numAt_eq]; exact h2 j (by omega)
theorem cr_maxT (hc : X.calm = true) : CallR X (.builtin "max") (fun vs H Q => ∃ (a : Addr) (ns : List Int), vs = [V.ref a] ∧ SqT X.K H a (ns.map V.int) ∧ 0 < ns.length ∧ ∀ m, m ∈ ns → (∀ y, y ∈ ns → y ≤ m) → Q (.int m) H) := by
  intro pins s σ H vs us Q I r h
  obtain ⟨a, ns, rfl, hs, hne, q⟩ := h
  obtain ⟨its, rv, hl, _⟩ := I.tuple hs
  rw [Vals.ref1 r]
  exact max_rawT (I.ok.hd hc) hl rv.ints hne fun h' tk m t' hk h1 h2 => ⟨.int _, H, I.kept hk, ⟨_, rfl⟩, q m h1 h2⟩
theorem cq_maxT (hc : X.calm = true) : CallQ X W (.builtin "max") (fun l Φ => ∃ ns : List Int, l = [.tup (ns.map T.int)] ∧ 0 < ns.length ∧ ∀ m, m ∈ ns → (∀ y, y ∈ ns → y ≤ m) → Φ (.int m) false) := by
  intro B F0 ρ σ F H l vs Φ Q R tv hp k
  obtain ⟨ns, rfl, h0, hp⟩ := hp
  obtain ⟨v, rfl, a, xs, rfl, h2, h3⟩ := tvl1 tv
  rw [TvL.ints ns rfl h3] at h2
  exact rSC.of (cr_maxT hc) ⟨a, ns, rfl, sqt_le R.fh h2, h0, fun m h4 h5 => k _ false _ F H R (Le.refl _) VR.int (hp m h4 h5)⟩
end
end Y

namespace Y
open PySem PySem.Spec PyProof.Rows L2
/-! ### raise, where it is never reached -/
section
variable {X : Cx} {W : Wld}
def sRaise : PSt := fun _ _ => False
theorem qs_raise {a b : Option Expr} {pos : Pos} : QS X W (.Raise a b pos) sRaise := ⟨fun _ _ _ => False, ⟨fun pins s σ H D I h => h.elim⟩, fun B F0 ρ σ F H Δ D R hp k => hp⟩
end
end Y

namespace Y
open PySem PySem.Spec PyProof.Rows L2
/-! ### an own exception with one field: class x(..), def __init__(self, f): self.f = f -/
structure XCl (K : PySem.W.Frag) (mg : Str → Option Value) (x f : Str) (C fI : Addr) : Prop where
  gC : mg x = some (.ref C)
  oex : OexC K C
  xf : XfC K C
  no : PySem.W.findIn K (.ref C) f = some none
  iC : PySem.W.findIn K (.ref C) "__init__" = some (some (.ref fI))
  tI : PySem.W.typeIn K (.ref fI) = some (.type "function")
  ec : ExcC K C
def spInit (K : PySem.W.Frag) (C : Addr) (f : Str) : Sp := fun vs H Q _ => ∃ (a : Addr) (v : V), vs = [.ref a, v] ∧ H a = some (exo a C none) ∧ OexC K C ∧ PySem.W.findIn K (.ref C) f = some none ∧
  ∀ dx, H dx = none → dx ≠ a → Q .non (upd (upd H dx (exd dx [(f, v)])) a (exo a C (some dx)))
section
variable {X : Cx} {W : WX} {C fI : Addr} {fd : FuncData} {x f m : Str} {k : Nat} {p p2 pos pos2 : Pos} {j : Nat}
/-- raise x("..") -/
theorem ps_raiseF (hc : X.calm = true) (T : XCl X.K X.mg x f C fI) (F1 : FnOk X.prog X.w X.K X.mg X.base CX0 k fI fd ["self", f] (spInit X.K C f)) (hb : Binds X.K fd ["self", f] []) (hr : Room (k + 1) X.A) (tk : Takes X W) (hg : Gl X x)
    (hdb : (x == ("__debug__" : Str)) = false := by decide) :
    PS X (.Raise (some (.Call (.Name x p) [.Constant (.str m) j p2] [] pos)) none pos2) (fun _ σ H => ∀ d, H d = none → W (.ref C) (some d) σ (upd H d (.xd [(f, .str m)]))) := by
  have P := ps_raise (pos := pos2) hc tk (pmk_oex (p := p) (pos := pos) T.oex T.iC T.tI F1 hr hb .nil pass0 hg T.gC (pa_cons (pe_str (X := X) (x := m) (j := j) (pos := p2)) pa_nil) hdb rfl rfl)
  refine ⟨fun pins s σ H D I h => P.run pins s σ H D I ?_⟩
  refine ⟨by show 1 ≤ 1000; decide, fun a ha => ?_⟩
  refine ⟨a, .str m, rfl, upd_same, T.oex, T.no, fun dx hd ne => ?_⟩
  have hd1 : H dx = none := by rwa [upd_ne ne] at hd
  refine ⟨rfl, dx, [(f, .str m)], upd_same, ?_, hd1, ?_⟩
  · rw [upd_ne ne]
    exact upd_same
  have e : upd (del (upd (upd (upd H a (exo a C none)) dx (exd dx [(f, .str m)])) a (exo a C (some dx))) a) dx (.xd [(f, .str m)]) = upd H dx (.xd [(f, .str m)]) := by
    funext b
    by_cases z : b = dx
    · rw [z, upd_same, upd_same]
    · rw [upd_ne z, upd_ne z]
      by_cases y : b = a
      · rw [y, del_same, ha]
      · rw [del_ne y, upd_ne y, upd_ne z, upd_ne y]
  show W (.ref C) (some dx) σ (upd (del (upd (upd (upd H a (exo a C none)) dx (exd dx [(f, .str m)])) a (exo a C (some dx))) a) dx (.xd [(f, .str m)]))
  rw [e]
  exact h dx hd1
end
end Y

namespace Y
open PySem PySem.Spec PyProof.Rows L2
/-! ### a def that raises the own exception, by data -/
def spBig (K : PySem.W.Frag) (W : Wld) (C : Addr) (f : Str) (v : V) (px : List T → Prop) : Sp := fun vs H _ E => ∃ ts F, Le F H ∧ W.ok H ∧ (∀ a, W.D a → F a = none) ∧ TvL K F ts vs ∧ px ts ∧
  ∀ F' H' d, After K W F H F' H' → H' d = some (.xd [(f, v)]) → E (.ref C) (some d) H'
def CalB (P : Program) (w : World) (K : PySem.W.Frag) (mg : Str → Option Value) (base : Heap) (W : Wld) (x : Str) (k : Nat) (ps : List Str) (C : Addr) (f : Str) (v : V) (px : List T → Prop) : Prop :=
  ∃ g fd, mg x = some (.ref g) ∧ PySem.W.keepIn K (.ref g) = true ∧ Binds K fd ps [] ∧ FnOk P w K mg base (L2.CX P w) k g fd ps (spBig K W C f v px)
theorem CalB.mono {P : Program} {w : World} {K : PySem.W.Frag} {mg : Str → Option Value} {base : Heap} {W : Wld} {x : Str} {j k : Nat} {ps : List Str} {C : Addr} {f : Str} {v : V} {px : List T → Prop} (h : CalB P w K mg base W x j ps C f v px) (l : j ≤ k) : CalB P w K mg base W x k ps C f v px := by
  obtain ⟨g, fd, h1, h2, h3, h4⟩ := h
  exact ⟨g, fd, h1, h2, h3, h4.mono l⟩
section
variable {K : PySem.W.Frag} {W : Wld} {F H : Hp}
open Classical in
theorem rep_start {N : List Str} {ts : List T} {vs : List V} (q2 : Le F H) (q3 : W.ok H) (q4 : ∀ a, W.D a → F a = none) (q5 : TvL K F ts vs) : Rep K W (fun a => if W.D a then none else H a) F (startP N ts) (L2.start N vs) F H := by
  have lv := q5.length
  refine ⟨q2, Le.refl _, fun a e => .inl e, fun a o e => ?_, q3, q4, fun a e => if_pos e, ?_, fun i t e => ?_, fun i l e => ?_, fun i j l m e => ?_⟩
  · have e : (if W.D a then none else H a) = some o := e
    split at e
    · cases e
    · exact e
  · unfold startP L2.start
    rw [List.length_append, List.length_append, List.length_map, List.length_map, List.length_replicate, List.length_replicate, lv]
  · unfold startP at e
    unfold L2.start
    by_cases hi : i < ts.length
    · rw [List.getElem?_append_left (by simpa using hi), List.getElem?_map, List.getElem?_eq_getElem hi] at e
      have e2 : ts[i] = t := Sl.fz.inj (Option.some.inj e)
      obtain ⟨v, e3, e4⟩ := q5.get (List.getElem?_eq_getElem hi)
      refine ⟨v, ?_, e2 ▸ e4⟩
      rw [List.getElem?_append_left (by rw [List.length_map]; omega), List.getElem?_map, e3]
      rfl
    · rw [List.getElem?_append_right (by simpa using hi), List.getElem?_replicate] at e
      split at e <;> cases e
  · unfold startP at e
    by_cases hi : i < ts.length
    · rw [List.getElem?_append_left (by simpa using hi), List.getElem?_map, List.getElem?_eq_getElem hi] at e
      cases e
    · rw [List.getElem?_append_right (by simpa using hi), List.getElem?_replicate] at e
      split at e <;> cases e
  · unfold startP at e
    by_cases hi : i < ts.length
    · rw [List.getElem?_append_left (by simpa using hi), List.getElem?_map, List.getElem?_eq_getElem hi] at e
      cases e
    · rw [List.getElem?_append_right (by simpa using hi), List.getElem?_replicate] at e
      split at e <;> cases e
open Classical in
theorem after_rep {ρ : PS'} {σ : L2.St} {F' H' : Hp} (R : Rep K W (fun a => if W.D a then none else H a) F ρ σ F' H') : After K W F H F' H' := by
  have bn : ∀ a, ¬ W.D a → (if W.D a then none else H a) = none → H a = none := fun a hd e => by rwa [if_neg hd] at e
  refine ⟨R.f0, R.fh, fun a e => ?_, fun a o e hd => R.bh a o (by show (if W.D a then none else H a) = some o; rw [if_neg hd]; exact e), R.ok⟩
  rcases R.fd a e with z | z
  · exact .inl z
  · exact .inr (bn a (fun hd => e (R.wf a hd)) z)
theorem After.put {F' H' : Hp} (A : After K W F H F' H') {d : Addr} {o : HO} (hd : H' d = none) : After K W F H F' (upd H' d o) := by
  refine ⟨A.le, fun a u e => ?_, A.fd, fun a u e nd => ?_, W.stb H' _ (fun a ha => ?_) A.ok⟩
  · have z : a ≠ d := fun z => by
      have := A.fh a u e
      rw [z, hd] at this
      cases this
    rw [upd_ne z]
    exact A.fh a u e
  · have y := A.kp a u e nd
    have z : a ≠ d := fun z => by rw [z, hd] at y; cases y
    rw [upd_ne z]
    exact y
  · have z : a ≠ d := fun z => W.al H' a A.ok ha (by rw [z, hd])
    rw [upd_ne z]
theorem After.trans {F1 H1 F2 H2 : Hp} (A : After K W F H F1 H1) (A2 : After K W F1 H1 F2 H2) : After K W F H F2 H2 := by
  refine ⟨A.le.trans A2.le, A2.fh, fun a e => ?_, fun a o e nd => A2.kp a o (A.kp a o e nd) nd, A2.ok⟩
  rcases A2.fd a e with z | z
  · exact A.fd a z
  · refine .inr ?_
    cases y : H a with
    | none => rfl
    | some o =>
      by_cases nd : W.D a
      · exact absurd z (W.al H1 a A.ok (W.sub a nd))
      · rw [A.kp a o y nd] at z
        cases z
end
theorem takesNo {X : Cx} : L2.Takes X (fun _ _ _ _ => False) := fun _ _ x => by
  obtain ⟨_, _, _, _, _, _, _, _, _, _, _, _, _, _, _, _, z⟩ := x
  exact z.elim
/-! ### isinstance(e, c), e the caught exception with a dict of its own -/
def rIsED (K : PySem.W.Frag) (D a : Addr) (cls : Value) (d : Option Addr) : List V → Hp → VK → Prop := fun xs H Q => ∃ (c : V) (cv : Value) (b : Bool) (dd : Addr) (fs : List (Str × V)), cls = .ref D ∧ d = some dd ∧ H dd = some (.xd fs) ∧ xs = [.ref a, c] ∧ (∀ u, RelV c u → u = cv) ∧ PySem.W.kitOne K (.ref D) cv = some b ∧ Q (.bl b) H
theorem call_isED {X : Cx} {a D : Addr} {oe : Obj} {cls : Value} {d : Option Addr} {pn : List (Addr × Obj)} (C : ExcC X.K D) (hz : Zc cls d oe) (hf : ∃ vs, oe.data = .fields vs) : CallR (X.suite a ((a, oe) :: pn)) (.builtin "isinstance") (rIsED X.K D a cls d) := by
  intro pins s σ H xs us Q I r h
  obtain ⟨c, cv, b, dd, fs, ec, ed, ea, rfl, hcv, e, q⟩ := h
  subst ec ed
  cases r with
  | cons rx rr =>
    cases rr with
    | cons rt rr =>
      cases rr
      cases rx
      have ec := hcv _ rt
      subst ec
      obtain ⟨ha, _⟩ := I.pin (a, oe) (List.mem_append.mpr (.inl List.mem_cons_self))
      obtain ⟨vs, hd⟩ := hf
      have hx : ObjOk X.prog X.w H s.heap dd (.xd fs) := I.hok dd _ ea
      obtain ⟨mA, hns, hr⟩ := hx
      obtain ⟨od, ho, hl⟩ := lookIn_ns hns
      have J : PySem.W.InstAt s.heap a oe D (some od) := ⟨ha, hz.1, by unfold PySem.W.notCls; rw [hd] <;> rfl, by rw [hz.2]; exact ho⟩
      have hcl : (PySem.W.clsIn X.K D).isSome = true := by
        obtain ⟨cd, hc, _⟩ := PySem.W.any_some C.hd
        rw [hc]
        rfl
      exact PySem.W.kia_one (PySem.W.kitx_exc (od := some od) hcl C.hg C.hk C.hs C.ha C.hn C.ht C.hm) I.kIn J e (fun z => nomatch z) fun tk => ⟨.bl b, H, I.kept (t' := tk) fun _ _ z => z, rfl, q⟩
end Y

namespace Y
open PySem PySem.Spec PyProof.Rows L2 RT RZ TL
def topS (i : Nat) : Stmt := PySem.Challenge.pw_telltrove_k70_disk.main.body.getD i (.Pass ⟨0, 0, 0, 0⟩)
/-! ### the callers' frame -/
/-- a def that can be called by its name, with what it promises -/
def Cal (P : Program) (w : World) (K : PySem.W.Frag) (mg : Str → Option Value) (base : Heap) (x : Str) (k : Nat) (ps : List Str) (sp : Sp) : Prop :=
  ∃ f fd, mg x = some (.ref f) ∧ PySem.W.keepIn K (.ref f) = true ∧ Binds K fd ps [] ∧ FnOk P w K mg base CX0 k f fd ps sp
theorem ixN_k {n j : Nat} (h : j < n) : ixN n (j : Int) = some j := by
  unfold ixN
  rw [if_pos (by omega), if_pos (by omega)]
  rfl
theorem small_le {n : Nat} (h : n ≤ 1000) : n ≤ sizeLine := Nat.le_of_lt (small1000 h)
/-- all but d stands -/
def Chg (d : Addr) (H H' : Hp) : Prop := ∀ b o, b ≠ d → H b = some o → H' b = some o
theorem Chg.refl (d : Addr) (H : Hp) : Chg d H H := fun _ _ _ h => h
theorem Chg.trans {d : Addr} {H H1 H2 : Hp} (a : Chg d H H1) (b : Chg d H1 H2) : Chg d H H2 := fun c o n h => b c o n (a c o n h)
theorem Chg.upd (d : Addr) (H : Hp) (o : HO) : Chg d H (upd H d o) := fun b u n h => by rw [upd_ne n]; exact h
theorem Chg.new {d : Addr} {H : Hp} {p : Addr} {o : HO} (h : H p = none) : Chg d H (L2.upd H p o) := fun b u _ e => by rw [upd_ne (ne_of_none e h)]; exact e
theorem Chg.of_same {d : Addr} {H H' : Hp} (s : Same H H') : Chg d H H' := fun b o _ h => s b o h
theorem same_upd {H : Hp} {p : Addr} {o : HO} (h : H p = none) : Same H (upd H p o) := fun b x e => by
  rw [upd_ne (ne_of_none e h)]
  exact e
/-- the draws' object at d: the list at l, the place, what is left of a great cell, the state, the number of mixes; then what else a law keeps there -/
def Dr (H : Hp) (d l : Addr) (rest : List V) : Prop := ∃ (ns : List Int) (at_ : Nat) (big st n : Int), H d = some (.lst (.ref l :: .int (at_ : Int) :: .int big :: .int st :: .int n :: rest)) ∧ H l = some (.lst (ns.map V.int)) ∧ ns.length ≤ 1000
theorem Dr.same {H H' : Hp} {d l : Addr} {rest : List V} (h : Dr H d l rest) (c : Same H H') : Dr H' d l rest := by
  obtain ⟨ns, a, big, st, m, h1, h2, h3⟩ := h
  exact ⟨ns, a, big, st, m, c _ _ h1, c _ _ h2, h3⟩
theorem Dr.lst {H : Hp} {d l : Addr} {rest : List V} (h : Dr H d l rest) : ∃ ys, H d = some (.lst ys) := let ⟨_, _, _, _, _, h, _⟩ := h; ⟨_, h⟩
theorem Dr.src {H : Hp} {d l : Addr} {rest : List V} (h : Dr H d l rest) : ∃ ys, H l = some (.lst ys) := let ⟨_, _, _, _, _, _, h, _⟩ := h; ⟨_, h⟩
theorem dr_ne {l : Addr} {ns : List Int} {x : V} {a : Addr} {rest : List V} : HO.lst (ns.map V.int) ≠ .lst (.ref a :: x :: rest) := by
  intro z
  cases ns with
  | nil => cases z
  | cons n ns => cases z
theorem Dr.ne {H : Hp} {d l : Addr} {rest : List V} (h : Dr H d l rest) : l ≠ d := by
  obtain ⟨ns, a, big, st, m, h1, h2, h3⟩ := h
  exact ne_of h2 h1 (dr_ne (l := l))
/-- an object that is neither of both is changed -/
theorem Dr.upd {H : Hp} {d l p : Addr} {rest : List V} {o : HO} (h : Dr H d l rest) (n1 : p ≠ d) (n2 : p ≠ l) : Dr (upd H p o) d l rest := by
  obtain ⟨ns, a, big, st, m, h1, h2, h3⟩ := h
  exact ⟨ns, a, big, st, m, by rw [upd_ne n1.symm]; exact h1, by rw [upd_ne n2.symm]; exact h2, h3⟩
def spBegin (K : PySem.W.Frag) : Sp := fun vs H Q _ => ∃ (a : Addr) (ns : List Int), vs = [.ref a] ∧ SqL K H a (ns.map V.int) ∧ ns.length ≤ 1000 ∧ ∀ H' d l, Same H H' → H d = none → Dr H' d l [] → Q (.ref d) H'
def spStart (K : PySem.W.Frag) : Sp := fun vs H Q _ => ∃ (a : Addr) (ns : List Int) (x y : Int), vs = [.ref a, .int x, .int y] ∧ SqL K H a (ns.map V.int) ∧ ns.length ≤ 1000 ∧ ∀ H' d l, Same H H' → H d = none → Dr H' d l [.int x, .int y, .int 0] → Q (.ref d) H'
def spMix : Sp := fun vs H Q _ => ∃ (d : Addr) (x y z : V) (st n k : Int) (rest : List V), vs = [.ref d, .int k] ∧ H d = some (.lst (x :: y :: z :: .int st :: .int n :: rest)) ∧
  ∀ st' n', Q .non (L2.upd H d (.lst (x :: y :: z :: .int st' :: .int n' :: rest)))
def spDraw : Sp := fun vs H Q _ => ∃ (d l : Addr) (k : Int) (rest : List V), vs = [.ref d, .int k] ∧ 0 < k ∧ k < 1152921504606846976 ∧ Dr H d l rest ∧ ∀ r H', 0 ≤ r → r < k → Dr H' d l rest → Chg d H H' → Q (.int r) H'
abbrev s_begin : Stmt := topS 8
theorem sc_begin : FnScope ["_law_script"] ["_law_script"] (defScope s_begin) := ⟨rfl, rfl, rfl, by decide +kernel, rfl, by decide +kernel, by decide +kernel⟩
abbrev s_mix : Stmt := topS 9
theorem sc_mix : FnScope ["_law_d", "_law_number", "_law_word"] ["_law_d", "_law_number"] (defScope s_mix) := ⟨rfl, rfl, rfl, by decide +kernel, rfl, by decide +kernel, by decide +kernel⟩
abbrev s_draw : Stmt := topS 10
theorem sc_draw : FnScope ["_law_d", "_law_many", "_law_cell", "_law_left", "_law_digit"] ["_law_d", "_law_many"] (defScope s_draw) := ⟨rfl, rfl, rfl, by decide +kernel, rfl, by decide +kernel, by decide +kernel⟩
abbrev s_alike : Stmt := topS 11
theorem sc_alike : FnScope ["_law_told", "_law_due", "_law_one", "_law_two"] ["_law_told", "_law_due"] (defScope s_alike) := ⟨rfl, rfl, rfl, by decide +kernel, rfl, by decide +kernel, by decide +kernel⟩
abbrev s_block : Stmt := topS 12
theorem sc_block : FnScope ["_law_d", "_law_count", "_law_place"] ["_law_d"] (defScope s_block) := ⟨rfl, rfl, rfl, by decide +kernel, rfl, by decide +kernel, by decide +kernel⟩
abbrev s_begun : Stmt := topS 13
theorem sc_begun : FnScope ["_law_d", "_law_rows", "_law_limit", "_law_way", "_law_number"] ["_law_d"] (defScope s_begun) := ⟨rfl, rfl, rfl, by decide +kernel, rfl, by decide +kernel, by decide +kernel⟩
abbrev s_write_right : Stmt := topS 14
theorem sc_write_right : FnScope ["_law_disk", "_law_own", "_law_number", "_law_block_here", "_law_told", "e"] ["_law_disk", "_law_own", "_law_number", "_law_block_here"] (defScope s_write_right) := ⟨rfl, rfl, rfl, by decide +kernel, rfl, by decide +kernel, by decide +kernel⟩
abbrev s_law : Stmt := topS 15
theorem sc_law : FnScope ["_law_script", "_law_d", "_law_pairs", "_law_turn", "_law_disk", "_law_own", "_law_number", "_law_block_here", "_law_elder", "_law_due", "_law_one", "_law_kept", "_law_other", "_law_rows"] ["_law_script"] (defScope s_law) := ⟨rfl, rfl, rfl, by decide +kernel, rfl, by decide +kernel, by decide +kernel⟩
section
variable {P : Program} {w : World} {K : PySem.W.Frag} {mg : Str → Option Value} {base : Heap}
theorem ok_mix (D : Df K mg "_law_mix" s_mix) (m_int : mg "int" = none) : Cal P w K mg base "_law_mix" 1 ["_law_d", "_law_number"] spMix := by
  obtain ⟨f, fd, F, g⟩ := D
  refine ⟨f, fd, g, F.kp, F.bindsN fun _ _ _ _ _ _ us hl => match us, hl with | [_, _], _ => rfl, ?_⟩
  refine F.ok sc_mix (fun vs H Q E h => ?_) (fun cdv A outer s H vs Q E hr h => ?_)
  · obtain ⟨d, x, y, z, st, n, k, rest, rfl, _⟩ := h
    rfl
  · obtain ⟨d, x, y, z, st, n, k, rest, rfl, hd, q⟩ := h
    refine ⟨_, pss_cons (ps_asg (pe_op op_add (pe_ix ix_list (pv 0) pe_int (fun _ _ => rfl)) pe_int) (pg_sub (pv 0) pe_int set_list))
      (pss_cons (ps_set (i := 2) sc_mix.nd rfl (.inl rfl) (pe_op op_mod (pe_callTy call_int1 (by rfl) m_int (by decide +kernel) (pa_cons (pe_op op_add (pe_op op_add (pe_op op_add (pe_op op_mul (pe_ix ix_list (pv 0) pe_int (fun _ _ => rfl)) pe_int) (pe_op op_mul (pv 1) pe_int)) (pe_op op_mul (pe_ix ix_list (pv 0) pe_int (fun _ _ => rfl)) pe_int)) pe_int) pa_nil)) pe_int))
      (pss_cons (ps_set (i := 2) sc_mix.nd rfl (.inl rfl) (pe_op op_mod (pe_callTy call_int1 (by rfl) m_int (by decide +kernel) (pa_cons (pe_op op_add (pe_op op_mul (pe_op op_xor (pv 2) (pe_op op_shr (pv 2) pe_int)) pe_int) (pe_op op_mul (pe_ix ix_list (pv 0) pe_int (fun _ _ => rfl)) pe_int)) pa_nil)) pe_int))
      (pss_cons (ps_set (i := 2) sc_mix.nd rfl (.inl rfl) (pe_op op_mod (pe_callTy call_int1 (by rfl) m_int (by decide +kernel) (pa_cons (pe_op op_add (pe_op op_mul (pe_op op_xor (pv 2) (pe_op op_shr (pv 2) pe_int)) pe_int) pe_int) pa_nil)) pe_int))
      (pss_one (ps_asg (pe_op op_xor (pv 2) (pe_op op_shr (pv 2) pe_int)) (pg_sub (pv 0) pe_int set_list)))))), ?_⟩
    refine ⟨_, rfl, d, _, 4, _, rfl, rfl, SqL.of hd, atI_nat (j := 4) rfl, _, _, rfl, rfl, _, rfl, d, _, 4, 4, rfl, rfl, hd, ixN_k (by simp), ?_⟩
    have h1 : upd H d (.lst (x :: y :: z :: .int st :: .int (n + 1) :: rest)) d = some (.lst (x :: y :: z :: .int st :: .int (n + 1) :: rest)) := upd_same
    refine ⟨_, rfl, d, _, 3, _, rfl, rfl, SqL.of h1, atI_nat (j := 3) rfl, _, _, rfl, rfl, .inr (by decide), _, rfl, _, _, rfl, rfl, .inr (by decide), _, _, rfl, rfl, _, rfl, d, _, 4, _, rfl, rfl, SqL.of h1, atI_nat (j := 4) rfl, _, _, rfl, rfl, .inr (by decide), _, _, rfl, rfl, _, _, rfl, rfl, .inl ⟨_, rfl, _, _, rfl, rfl, (by show (0:Int) < _; decide), ?_⟩⟩
    refine ⟨_, rfl, _, rfl, _, _, rfl, rfl, (by show (0:Int) ≤ _; decide), _, _, rfl, rfl, _, _, rfl, rfl, .inr (by decide), _, rfl, d, _, 4, _, rfl, rfl, SqL.of h1, atI_nat (j := 4) rfl, _, _, rfl, rfl, .inr (by decide), _, _, rfl, rfl, .inl ⟨_, rfl, _, _, rfl, rfl, (by show (0:Int) < _; decide), ?_⟩⟩
    refine ⟨_, rfl, _, rfl, _, _, rfl, rfl, (by show (0:Int) ≤ _; decide), _, _, rfl, rfl, _, _, rfl, rfl, .inr (by decide), _, _, rfl, rfl, .inl ⟨_, rfl, _, _, rfl, rfl, (by show (0:Int) < _; decide), ?_⟩⟩
    refine ⟨_, rfl, _, rfl, _, _, rfl, rfl, (by show (0:Int) ≤ _; decide), _, _, rfl, rfl, _, rfl, d, _, 3, 3, rfl, rfl, h1, ixN_k (by simp), ?_⟩
    show Q .non (upd (upd H d _) d (.lst (x :: y :: z :: .int _ :: .int _ :: rest)))
    rw [upd_upd]
    exact q _ _
theorem seq_by {t u : TS} {D : Ends} {σ : L2.St} {H : Hp} (Pv : L2.St → Hp → Prop) (h1 : ∀ nx' : L2.St → Hp → Prop, (∀ σ H, Pv σ H → nx' σ H) → t { D with nx := nx' } σ H) (h2 : ∀ σ H, Pv σ H → u D σ H) : tSeq t u D σ H := h1 (u D) h2
theorem seq_nx {t u : TS} {D D' : Ends} {σ : L2.St} {H : Hp} (e : D'.nx = tSeq t u D) (Pv : L2.St → Hp → Prop) (h1 : ∀ nx' : L2.St → Hp → Prop, (∀ σ H, Pv σ H → nx' σ H) → t { D with nx := nx' } σ H) (h2 : ∀ σ H, Pv σ H → u D σ H) : D'.nx σ H := by
  rw [e]
  exact h1 (u D) h2
theorem ifCi {c : Bool} {i j : Int} {σ : L2.St} {H : Hp} {Q : VK} (h : ∀ m : Int, m = i ∨ m = j → Q (.int m) H) : if c = true then tC (.int i) σ H Q else tC (.int j) σ H Q := by
  split
  · exact h _ (.inl rfl)
  · exact h _ (.inr rfl)
/-- a divisor below 2 ^ 60 -/
theorem dv60 {i k : Int} (h : 0 < k) (h2 : k < 1152921504606846976) : CDivP i k := by
  refine ⟨h, PyProof.noPylong_of_log2 ?_⟩
  have e : (2 : Nat) ^ 60 = 1152921504606846976 := by decide
  have := (Nat.log2_lt (show k.natAbs ≠ 0 by omega)).mpr (show k.natAbs < 2 ^ 60 by rw [e]; omega)
  omega
theorem ok_draw (D : Df K mg "_law_draw" s_draw) (C_mix : Cal P w K mg base "_law_mix" 1 ["_law_d", "_law_number"] spMix) (m_int : mg "int" = none) (m_len : mg "len" = none) (m_abs : mg "abs" = none) (m_divmod : mg "divmod" = none) :
    Cal P w K mg base "_law_draw" 2 ["_law_d", "_law_many"] spDraw := by
  obtain ⟨f, fd, F, g⟩ := D
  obtain ⟨f_mix, fd_mix, g_mix, k_mix, b_mix, G_mix⟩ := C_mix
  refine ⟨f, fd, g, F.kp, F.bindsN fun _ _ _ _ _ _ us hl => match us, hl with | [_, _], _ => rfl, ?_⟩
  refine F.ok sc_draw (fun vs H Q E h => ?_) (fun cdv A outer s H vs Q E hr h => ?_)
  · obtain ⟨d, l, k, rest, rfl, _⟩ := h
    rfl
  · obtain ⟨d, l, k, rest, rfl, k0, k1, ⟨ns, a, big, st, n, hd, hl, hlen⟩, q⟩ := h
    have hne : l ≠ d := ne_of hl hd (dr_ne (l := l))
    refine ⟨_, pss_cons (ps_if (PW.pt (pw_and (pt_cmpR op_eq (pe_ix ix_list (pv 0) pe_int (fun _ _ => rfl)) pe_int (nomark _)) (pw_and1 (pt_cmpR op_lt (pe_ix ix_list (pv 0) pe_int (fun _ _ => rfl)) (pe_callB call_len (by rfl) m_len (by decide +kernel) (pa_cons (pe_ix ix_list (pv 0) pe_int (fun _ _ => rfl)) pa_nil)) (nomark _)))))
      (pss_cons (ps_set (i := 2) sc_draw.nd rfl (.inl rfl) (pe_op op_and (pe_callB call_abs (by rfl) m_abs (by decide +kernel) (pa_cons (pe_ix ix_list (pe_ix ix_list (pv 0) pe_int (fun _ _ => rfl)) (pe_ix ix_list (pv 0) pe_int (fun _ _ => rfl)) (fun _ _ => rfl)) pa_nil)) (pe_op op_sub (pe_op op_shl pe_int pe_int) pe_int)))
        (pss_cons (ps_expr (pe_call G_mix (hr.mono (by decide)) (by rfl) g_mix k_mix b_mix .nil pass0 (pa_cons (pv 0) (pa_cons (pe_op op_add (pe_op op_mul pe_int (pv 2)) (pe_ifExp (pt_cmpR op_lt (pe_ix ix_list (pe_ix ix_list (pv 0) pe_int (fun _ _ => rfl)) (pe_ix ix_list (pv 0) pe_int (fun _ _ => rfl)) (fun _ _ => rfl)) pe_int (nomark _)) pe_int pe_int)) pa_nil))))
        (pss_cons (ps_asg (pe_op op_add (pe_ix ix_list (pv 0) pe_int (fun _ _ => rfl)) pe_int) (pg_sub (pv 0) pe_int set_list))
        (pss_one (ps_asg (pe_ifExp (pt_cmpR op_ge (pv 2) pe_int (nomark _)) (pv 2) pe_int) (pg_sub (pv 0) pe_int set_list))))))
      (pss_nil))
      (pss_cons (ps_if (pt_cmpR op_gt (pe_ix ix_list (pv 0) pe_int (fun _ _ => rfl)) pe_int (nomark _))
      (pss_cons (ps_asg (pe_callB call_divmodW (by rfl) m_divmod (by decide +kernel) (pa_cons (pe_ix ix_list (pv 0) pe_int (fun _ _ => rfl)) (pa_cons (pv 1) pa_nil))) (pg_tup (by rfl) (pgs_cons (pg_name (i := 3) sc_draw.nd rfl (.inl rfl)) (pgs_cons (pg_name (i := 4) sc_draw.nd rfl (.inl rfl)) pgs_nil))))
        (pss_cons (ps_asg (pv 3) (pg_sub (pv 0) pe_int set_list))
        (pss_one (ps_ret (pv 4)))))
      (pss_nil))
      (pss_cons (ps_expr (pe_call G_mix (hr.mono (by decide)) (by rfl) g_mix k_mix b_mix .nil pass0 (pa_cons (pv 0) (pa_cons (pv 1) pa_nil))))
      (pss_one (ps_ret (pe_op op_mod (pe_callTy call_int1 (by rfl) m_int (by decide +kernel) (pa_cons (pe_op op_shr (pe_ix ix_list (pv 0) pe_int (fun _ _ => rfl)) pe_int) pa_nil)) (pv 1)))))), ?_⟩
    refine seq_by (fun σ' H' => ∃ y a' big' st' n', σ' = [some (.ref d), some (.int k), y, none, none] ∧ H' d = some (.lst (.ref l :: .int ((a' : Nat) : Int) :: .int big' :: .int st' :: .int n' :: rest)) ∧ Chg d H H') (fun nx hnx => ?_) (fun σ' H' h => ?_)
    · refine ⟨_, rfl, d, _, 2, _, rfl, rfl, SqL.of hd, atI_nat (j := 2) rfl, rfl, _, rfl, ite2 (fun e => ?_) (fun e => iteF (hnx _ _ ⟨none, a, big, st, n, rfl, hd, Chg.refl _ _⟩))⟩
      refine ⟨_, rfl, d, _, 1, _, rfl, rfl, SqL.of hd, atI_nat (j := 1) rfl, _, rfl, d, _, 0, _, rfl, rfl, SqL.of hd, atI_nat (j := 0) rfl, _, _, rfl, .inl ⟨_, SqL.of hl, rfl⟩, _, _, rfl, rfl, _, rfl, ite2 (fun e2 => ?_) (fun e2 => hnx _ _ ⟨none, a, big, st, n, rfl, hd, Chg.refl _ _⟩)⟩
      have e3 := of_decide_eq_true e2
      rw [List.length_map] at e3
      have ha : a < ns.length := by omega
      have hx : (ns.map V.int)[a]? = some (.int ns[a]) := by
        rw [List.getElem?_map, List.getElem?_eq_getElem ha]
        rfl
      refine ⟨_, rfl, d, _, 0, _, rfl, rfl, SqL.of hd, atI_nat (j := 0) rfl, _, rfl, d, _, 1, _, rfl, rfl, SqL.of hd, atI_nat (j := 1) rfl, l, _, _, _, rfl, rfl, SqL.of hl, atI_nat hx, _, rfl, _, _, rfl, rfl, ⟨by decide, by decide, by decide⟩, _, _, rfl, rfl, _, _, rfl, rfl, ?_⟩
      refine ⟨_, rfl, _, rfl, _, _, rfl, rfl, .inl (by decide), _, rfl, d, _, 0, _, rfl, rfl, SqL.of hd, atI_nat (j := 0) rfl, _, rfl, d, _, 1, _, rfl, rfl, SqL.of hd, atI_nat (j := 1) rfl, l, _, _, _, rfl, rfl, SqL.of hl, atI_nat hx, _, _, rfl, rfl, _, rfl, ifCi fun m _ => ?_⟩
      refine ⟨_, _, rfl, rfl, d, _, _, _, _, _, _, rest, rfl, hd, fun st1 n1 => ?_⟩
      have h1 : upd H d (HO.lst (V.ref l :: V.int (a : Int) :: .int big :: .int st1 :: .int n1 :: rest)) d = some (.lst (.ref l :: .int (a : Int) :: .int big :: .int st1 :: .int n1 :: rest)) := upd_same
      refine ⟨_, rfl, d, _, 1, _, rfl, rfl, SqL.of h1, atI_nat (j := 1) rfl, _, _, rfl, rfl, _, rfl, d, _, 1, 1, rfl, rfl, h1, ixN_k (by simp), ?_⟩
      have h2 : upd (upd H d (HO.lst (V.ref l :: V.int (a : Int) :: V.int big :: V.int st1 :: V.int n1 :: rest))) d (HO.lst (V.ref l :: .int ((a : Int) + 1) :: .int big :: .int st1 :: .int n1 :: rest)) d = some (.lst (.ref l :: .int ((a : Int) + 1) :: .int big :: .int st1 :: .int n1 :: rest)) := upd_same
      refine ⟨_, rfl, _, _, rfl, rfl, _, rfl, ite2 (fun e4 => ?_) (fun e4 => ?_)⟩
      · refine ⟨_, rfl, _, rfl, d, _, 2, 2, rfl, rfl, h2, ixN_k (by simp), ?_⟩
        exact hnx _ _ ⟨_, a + 1, _, _, _, rfl, upd_same, ((Chg.upd _ _ _).trans (Chg.upd _ _ _)).trans (Chg.upd _ _ _)⟩
      · refine ⟨_, rfl, d, _, 2, 2, rfl, rfl, h2, ixN_k (by simp), ?_⟩
        exact hnx _ _ ⟨_, a + 1, _, _, _, rfl, upd_same, ((Chg.upd _ _ _).trans (Chg.upd _ _ _)).trans (Chg.upd _ _ _)⟩
    · obtain ⟨y, a1, big1, st1, n1, rfl, hd1, c1⟩ := h
      have hl1 := c1 _ _ hne hl
      refine ⟨_, rfl, d, _, 2, _, rfl, rfl, SqL.of hd1, atI_nat (j := 2) rfl, _, _, rfl, rfl, _, rfl, ite2 (fun e => ?_) (fun e => ?_)⟩
      · refine ⟨_, rfl, d, _, 2, _, rfl, rfl, SqL.of hd1, atI_nat (j := 2) rfl, _, rfl, _, _, rfl, dv60 k0 k1, fun p hp => ?_⟩
        have hpd : d ≠ p := ne_of_none hd1 hp
        have hd2 : upd H' p (.tup [.int (big1 / k), .int (big1 % k)]) d = some (.lst (.ref l :: .int ((a1 : Nat) : Int) :: .int big1 :: .int st1 :: .int n1 :: rest)) := by
          rw [upd_ne hpd]
          exact hd1
        refine ⟨p, _, rfl, SqT.of upd_same, rfl, _, _, rfl, _, _, rfl, rfl, ?_⟩
        refine ⟨_, rfl, _, rfl, d, _, 2, 2, rfl, rfl, hd2, ixN_k (by simp), _, rfl, ?_⟩
        have c2 : Chg d H' (upd H' p (.tup [.int (big1 / k), .int (big1 % k)])) := Chg.new hp
        refine q _ _ (Int.emod_nonneg _ (by omega)) (Int.emod_lt_of_pos _ k0) ⟨ns, a1, _, _, _, upd_same, ?_, hlen⟩ ((c1.trans c2).trans (Chg.upd _ _ _))
        exact ((c1.trans c2).trans (Chg.upd _ _ _)) _ _ hne hl
      · refine ⟨_, rfl, _, rfl, d, _, _, _, _, _, _, rest, rfl, hd1, fun st2 n2 => ?_⟩
        refine ⟨_, rfl, d, _, 3, _, rfl, rfl, SqL.of upd_same, atI_nat (j := 3) rfl, _, _, rfl, rfl, (by show (0:Int) ≤ _; decide), .inl ⟨_, rfl, _, rfl, _, _, rfl, rfl, k0, ?_⟩⟩
        refine q _ _ (Int.emod_nonneg _ (by omega)) (Int.emod_lt_of_pos _ k0) ⟨ns, a1, _, _, _, upd_same, ?_, hlen⟩ (c1.trans (Chg.upd _ _ _))
        exact (c1.trans (Chg.upd _ _ _)) _ _ hne hl
theorem ok_begin (D : Df K mg "_law_begin" s_begin) (m_list : mg "list" = none) : Cal P w K mg base "_law_begin" 1 ["_law_script"] (spBegin K) := by
  obtain ⟨f, fd, F, g⟩ := D
  refine ⟨f, fd, g, F.kp, F.bindsN fun _ _ _ _ _ _ us hl => match us, hl with | [_], _ => rfl, ?_⟩
  refine F.ok sc_begin (fun vs H Q E h => ?_) (fun cdv A outer s H vs Q E hr h => ?_)
  · obtain ⟨a, ns, rfl, _⟩ := h
    rfl
  · obtain ⟨a, ns, rfl, ha, hn, q⟩ := h
    refine ⟨_, pss_one (ps_ret (pe_lst (pa_cons (pe_callTy call_list_of (by rfl) m_list (by decide +kernel) (pa_cons (pv 0) pa_nil)) (pa_cons pe_int (pa_cons pe_int (pa_cons pe_int (pa_cons pe_int pa_nil))))))), ?_⟩
    refine ⟨_, rfl, a, _, rfl, .inl ha, fun l hl => ⟨by show 5 ≤ sizeLine; decide, fun d hd => ?_⟩⟩
    have hld : l ≠ d := ne_of_none upd_same hd
    have hd0 : H d = none := by
      rw [upd_ne hld.symm] at hd
      exact hd
    refine q _ _ l ((same_upd hl).trans (same_upd hd)) hd0 ⟨ns, 0, 0, 271828, 0, upd_same, ?_, hn⟩
    rw [upd_ne hld]
    exact upd_same
end
/-! ### the draws' world, with tables of code objects at Ps -/
def Dz (H : Hp) (d l : Addr) (m : Nat) : Prop := ∃ rs : List Int, rs.length = m ∧ Dr H d l (rs.map V.int)
def wt (d l : Addr) (m : Nat) (Ps : List Addr) : Wld where
  D a := a = d ∨ a ∈ Ps
  A a := a = d ∨ a = l ∨ a ∈ Ps
  ok H := Dz H d l m ∧ ∀ P ∈ Ps, GxR.TabG H P
  sub a h := h.elim .inl fun z => .inr (.inr z)
  stb H H' h ok := by
    obtain ⟨⟨rs, e, ns, a, big, st, n, h1, h2, h3⟩, tb⟩ := ok
    refine ⟨⟨rs, e, ns, a, big, st, n, by rw [h d (.inl rfl)]; exact h1, by rw [h l (.inr (.inl rfl))]; exact h2, h3⟩, fun P hP => ?_⟩
    obtain ⟨ps, e1, e2⟩ := tb P hP
    exact ⟨ps, by rw [h P (.inr (.inr hP))]; exact e1, e2⟩
  al H a ok h := by
    obtain ⟨⟨rs, e, ns, a', big, st, n, h1, h2, h3⟩, tb⟩ := ok
    rcases h with rfl | rfl | h
    · exact some_ne h1
    · exact some_ne h2
    · obtain ⟨ps, e1, _⟩ := tb a h
      exact some_ne e1
theorem wt_tab {d l : Addr} {m : Nat} {Ps : List Addr} {P : Addr} (h : P ∈ Ps) : TabW (wt d l m Ps) P where
  d := .inr h
  has H ok := ok.2 P h
  stay H H' ok t := by
    obtain ⟨⟨rs, e, ns, a, big, st, n, h1, h2, h3⟩, tb⟩ := ok
    obtain ⟨ps0, e0, _⟩ := tb P h
    have nd : d ≠ P := fun z => by rw [z, e0] at h1; cases h1
    have nl : l ≠ P := fun z => by rw [z, e0] at h2; cases h2
    refine ⟨⟨rs, e, ns, a, big, st, n, by rw [t.2 d nd]; exact h1, by rw [t.2 l nl]; exact h2, h3⟩, fun Q hQ => ?_⟩
    by_cases z : Q = P
    · rw [z]
      exact t.1
    · obtain ⟨ps, e1, e2⟩ := tb Q hQ
      exact ⟨ps, by rw [t.2 Q z]; exact e1, e2⟩
section
variable {X : Cx} {d l : Addr} {m : Nat} {Ps : List Addr} {a b : Expr} {pos : Pos} {K : PySem.W.Frag} {B F0 F H : Hp} {ρ : PS'} {σ : L2.St}
theorem Rep.dput (R : Rep K (wt d l m Ps) B F0 ρ σ F H) {o : HO} (ok : (wt d l m Ps).ok (upd H d o)) : Rep K (wt d l m Ps) B F0 ρ σ F (upd H d o) := by
  have nb : ∀ {G : Hp} (s : G d = none) {b : Addr} {u : HO}, G b = some u → b ≠ d := fun {G} s {b u} e z => by
    rw [z, s] at e
    cases e
  refine ⟨fun a u e => ?_, R.f0, R.fd, fun a u e => ?_, ok, R.wf, R.wb, R.ln, R.fz, fun i t e => ?_, R.ds⟩
  · rw [upd_ne (nb (R.wf d (.inl rfl)) e)]
    exact R.fh _ _ e
  · rw [upd_ne (nb (R.wb d (.inl rfl)) e)]
    exact R.bh _ _ e
  · obtain ⟨a, xs, e1, e2, e3, e4, e5, e6⟩ := R.own i t e
    have hn : a ≠ d := fun z => e6 (.inl z)
    exact ⟨a, xs, e1, by rw [upd_ne hn]; exact e2, e3, e4, e5, e6⟩
/-- what the draws' object holds behind its fifth item -/
def pDget (d : Addr) (pa pb : PE') (m : Nat) : PE' := fun ρ Φ => pa ρ fun t _ ρ1 => pb ρ1 fun y _ ρ2 => t = .adr d ∧ ∃ j : Int, y = .int j ∧ 5 ≤ j ∧ j < 5 + (m : Int) ∧ ∀ v : Int, Φ (.int v) false ρ2
theorem dr_at {rs : List Int} {x y z s n : V} {j : Nat} (h5 : 5 ≤ j) (hj : j < 5 + rs.length) : (x :: y :: z :: s :: n :: rs.map V.int)[j]? = some (.int (rs.getD (j - 5) 0)) := by
  obtain ⟨k, rfl⟩ : ∃ k, j = k + 5 := ⟨j - 5, by omega⟩
  show (rs.map V.int)[k]? = _
  have hk : k < rs.length := by omega
  rw [List.getElem?_map, List.getElem?_eq_getElem hk, show k + 5 - 5 = k from rfl, List.getD_eq_getElem?_getD, List.getElem?_eq_getElem hk]
  rfl
theorem qe_dget {pa pb : PE'} (ha : QE X (wt d l m Ps) a pa) (hb : QE X (wt d l m Ps) b pb) (hs : PlainIx b) : QE X (wt d l m Ps) (.Subscript a b pos) (pDget d pa pb m) := by
  obtain ⟨t, h1, h2⟩ := ha.ex
  obtain ⟨u, h3, h4⟩ := hb.ex
  refine ⟨_, pe_ix ix_list h1 h3 hs, fun B F0 ρ σ F H Φ Q R hp k => ?_⟩
  refine h2.fz R hp fun τ ρ1 v F1 H1 R1 le1 tv q1 => ?_
  refine h4.fz R1 q1 fun υ ρ2 w F2 H2 R2 le2 tw q2 => ?_
  obtain ⟨rfl, j', rfl, h5', hj', q2⟩ := q2
  obtain ⟨j, rfl⟩ := Int.eq_ofNat_of_zero_le (show 0 ≤ j' by omega)
  have h5 : 5 ≤ j := by omega
  have hj : j < 5 + m := by omega
  obtain ⟨⟨rs, e, ns, at_, big, st, n, e1, e2, e3⟩, tb⟩ := R2.ok
  exact ⟨d, _, _, _, show v = .ref d from tv, show w = .int (j : Int) from tw, SqL.of e1, atI_nat (dr_at h5 (by omega)), k _ false ρ2 _ F2 H2 R2 (le1.trans le2) VR.int (q2 _)⟩
/-- .. is set -/
def gDset (d : Addr) (m : Nat) (pa pb : PE') : PG' := fun τ _ ρ Φ => ∃ i, τ = .int i ∧ pa ρ fun t _ ρ1 => pb ρ1 fun y _ ρ2 => t = .adr d ∧ ∃ j : Int, y = .int j ∧ 5 ≤ j ∧ j < 5 + (m : Int) ∧ Φ ρ2
theorem dr_put {rs : List Int} {x y z s n : V} {j : Nat} {i : Int} (h5 : 5 ≤ j) : (x :: y :: z :: s :: n :: rs.map V.int).set j (V.int i) = x :: y :: z :: s :: n :: (rs.set (j - 5) i).map V.int := by
  obtain ⟨k, rfl⟩ : ∃ k, j = k + 5 := ⟨j - 5, by omega⟩
  show x :: y :: z :: s :: n :: (rs.map V.int).set k (V.int i) = _
  rw [List.map_set]
  rfl
theorem qg_dset {p2 : Pos} {pa pb : PE'} (ha : QE X (wt d l m Ps) a pa) (hb : QE X (wt d l m Ps) b pb)
    (hs : ∀ v, assign (.Subscript a b p2) X.env v = (do
      let ov ← holding [v] (eval a X.env)
      let iv ← holding [v, ov] (eval b X.env)
      standAt p2
      holding [v, ov, iv] (setItem ov iv v)
      release [v, ov, iv] []) := by intro _; rfl) : QG X (wt d l m Ps) (.Subscript a b p2) [] (gDset d m pa pb) := by
  obtain ⟨t, h1, h2⟩ := ha.ex
  obtain ⟨u, h3, h4⟩ := hb.ex
  refine ⟨_, pg_sub h1 h3 set_list hs, fun B F0 ρ σ F H τ f v Φ Q R vr hg k => ?_⟩
  obtain ⟨i, rfl, hg⟩ := hg
  have hv : v = .int i := by cases f with
    | false => exact vr
    | true => obtain ⟨_, _, _, z, _⟩ := vr; cases z
  refine h2.fz R hg fun τ ρ1 v1 F1 H1 R1 le1 tv q1 => ?_
  refine h4.fz R1 q1 fun υ ρ2 w F2 H2 R2 le2 tw q2 => ?_
  obtain ⟨rfl, j', rfl, h5', hj', q2⟩ := q2
  obtain ⟨j, rfl⟩ := Int.eq_ofNat_of_zero_le (show 0 ≤ j' by omega)
  have h5 : 5 ≤ j := by omega
  have hj : j < 5 + m := by omega
  obtain ⟨⟨rs, e, ns, at_, big, st, n, e1, e2, e3⟩, tb⟩ := R2.ok
  refine ⟨d, _, j, j, show v1 = .ref d from tv, show w = .int (j : Int) from tw, e1, ixN_k (by simp; omega), ?_⟩
  have hne : l ≠ d := ne_of e2 e1 (dr_ne (l := l))
  refine k ρ2 σ F2 _ (R2.dput ⟨⟨rs.set (j - 5) i, by rw [List.length_set]; exact e, ns, at_, big, st, n, by rw [upd_same, hv, dr_put h5], by rw [upd_ne hne]; exact e2, e3⟩, fun P hP => by
    obtain ⟨ps, f1, f2⟩ := tb P hP
    exact ⟨ps, by rw [upd_ne (fun z => by rw [z, e1] at f1; cases f1)]; exact f1, f2⟩⟩) (le1.trans le2) (fun _ _ => rfl) rfl q2
end
def pDraw (d : Addr) : PSp := fun ts Φ => ∃ k : Int, ts = [.adr d, .int k] ∧ 0 < k ∧ k < 1152921504606846976 ∧ ∀ r : Int, 0 ≤ r → r < k → Φ (.int r) false
theorem cq_draw {Ps : List Addr} {P : Program} {w : World} {K : PySem.W.Frag} {mg : Str → Option Value} {base : Heap} {x : Str} {k : Nat} {ps : List Str} (d l : Addr) (m : Nat) (C : Cal P w K mg base x k ps spDraw) : CalQ P w K mg base (wt d l m Ps) x k ps (pDraw d) := by
  obtain ⟨f, fd, h1, h2, h3, h4⟩ := C
  refine ⟨f, fd, h1, h2, h3, h4.imp fun vs H Q E q => ?_⟩
  obtain ⟨ts, F, Ψ, q2, q3, q4, q5, q6, q7⟩ := q
  obtain ⟨k, rfl, k0, k1, q6⟩ := q6
  obtain ⟨v, w', rfl, e1, e2⟩ := tvl2 q5
  obtain ⟨⟨rs, e, dr⟩, tb⟩ := q3
  refine ⟨d, l, k, _, by rw [show v = _ from e1, show w' = _ from e2], k0, k1, dr, fun r H' r0 r1 dr' c => ?_⟩
  refine q7 (.int r) false _ F H' (q6 r r0 r1) ⟨Le.refl _, fun a o ea => c a o (fun z => ?_) (q2 _ _ ea), fun a ea => .inl ea, fun a o ea hd => c a o (fun z => hd (.inl z)) ea, ⟨rs, e, dr'⟩, fun P hP => ?_⟩ rfl
  · rw [z, q4 d (.inl rfl)] at ea
    cases ea
  · obtain ⟨ps, f1, f2⟩ := tb P hP
    obtain ⟨ys, hd⟩ := dr.lst
    exact ⟨ps, c P _ (fun z => by rw [z, hd] at f1; cases f1) f1, f2⟩
/-! ### names of the top -/
def GlobQ (K : PySem.W.Frag) (mg : Str → Option Value) (x : Str) (t : T) : Prop := ∃ v u, mg x = some u ∧ RelV v u ∧ ∀ F, Tv K F t v
theorem qe_glb {X : Cx} {W : Wld} {x : Str} {t : T} {pos : Pos} (hg : Gl X x) (G : GlobQ X.K X.mg x t) (h : ∀ {v : V} {u : Value} (hg : Gl X x) (hm : X.mg x = some u) (r : RelV v u), PE X (.Name x pos) (tC v)) : QE X W (.Name x pos) (pC t) := by
  obtain ⟨v, u, h1, h2, h3⟩ := G
  exact qe_const (h hg h1 h2) h3
end Y

namespace Y
open PySem PySem.Spec PyProof.Rows L2 RT RZ TL PySem.NumText

/-! ### rules that draws and texts want -/
theorem str_inj (a b : String) : (Str.ofString a = Str.ofString b) = (a = b) := by
  refine propext ⟨fun h => ?_, fun h => by rw [h]⟩
  have h1 : tl (Str.ofString a) = tl (Str.ofString b) := by rw [h]
  rw [tl_ofString, tl_ofString] at h1
  have h2 : a.toList = b.toList := (List.map_inj_right (f := Char.toNat) (fun x y e => Char.toNat_inj.mp e)).mp h1
  have h3 := congrArg String.ofList h2
  rwa [String.ofList_toList, String.ofList_toList] at h3
theorem rng_get {lo : Int} {n i : Nat} {t : T} (e : (rngT lo n)[i]? = some t) : i < n ∧ t = .int (lo + (i : Nat)) := by
  have h := (List.getElem?_eq_some_iff.mp e).1
  rw [rngT, List.length_map, List.length_range] at h
  refine ⟨h, ?_⟩
  rw [rngT, List.getElem?_map, List.getElem?_range h] at e
  exact (Option.some.inj e).symm
theorem rng_len {lo : Int} {n : Nat} : (rngT lo n).length = n := by rw [rngT, List.length_map, List.length_range]
theorem at_pick {α : Type} {l : List α} {r : Int} (h0 : 0 ≤ r) (h1 : r < (l.length : Int)) : ∃ t, atI l r = some t ∧ t ∈ l := by
  obtain ⟨k, rfl⟩ := Int.eq_ofNat_of_zero_le h0
  have hk : k < l.length := by omega
  exact ⟨l[k], atI_nat (List.getElem?_eq_getElem hk), List.getElem_mem hk⟩
theorem at_nat0 {α : Type} {l : List α} {i : Nat} (h : i < l.length) : atI l (0 + (i : Int)) = some l[i] := by
  rw [Int.zero_add]
  exact atI_nat (List.getElem?_eq_getElem h)
theorem at_natI {α : Type} {l : List α} {i : Nat} (h : i < l.length) : atI l (i : Int) = some l[i] := atI_nat (List.getElem?_eq_getElem h)
section
variable {X : Cx} {W : Wld} {o e : Expr} {pa pb : PE'}
def pWords (pa : PE') : PE' := fun ρ Φ => pa ρ fun t _ ρ1 => ∃ a, t = .str a ∧ a.length ≤ 16000000 ∧ Φ (.lst ((Txt.words a).map T.str)) true ρ1
theorem qe_split0 {apos pos : Pos} (ho : QE X W o pa) (hbase : attributeBase o "split" X.env (eval o X.env) = eval o X.env := by rfl) (hline : (apos.endLine == pos.line) = true := by rfl) : QE X W (.Call (.Attribute o "split" apos) [] [] pos) (pWords pa) := by
  have hs := sl16
  obtain ⟨t, h1, h2⟩ := ho.ex
  refine ⟨_, pe_words h1 hbase hline, fun B F0 ρ σ F H Φ Q R hp k => ?_⟩
  refine h2.fz R hp fun τ ρ1 v F1 H1 R1 le1 tv q1 => ?_
  obtain ⟨a, rfl, hl, q1⟩ := q1
  refine ⟨⟨a, tv⟩, a, tv, rfl, by omega, fun p np => ?_⟩
  obtain ⟨R2, vr⟩ := R1.newL np (tvl_strs (K := X.K) (F := F1) (Txt.words a))
  exact k _ true ρ1 _ F1 _ R2 le1 vr q1
def pSplit (pa pb : PE') : PE' := fun ρ Φ => pa ρ fun t _ ρ1 => ∃ a, t = .str a ∧ pb ρ1 fun u _ ρ2 => ∃ b, u = .str b ∧ (b.length == 0) = false ∧ a.length ≤ 16000000 ∧ Φ (.lst ((Txt.split a b).map T.str)) true ρ2
theorem qe_split1 {apos pos : Pos} (ho : QE X W o pa) (he : QE X W e pb) (hs : starEach [e] X.env = [(false, eval e X.env)] := by rfl) (hbase : attributeBase o "split" X.env (eval o X.env) = eval o X.env := by rfl) (hline : (apos.endLine == pos.line) = true := by rfl) : QE X W (.Call (.Attribute o "split" apos) [e] [] pos) (pSplit pa pb) := by
  have hl16 := sl16
  obtain ⟨t, h1, h2⟩ := ho.ex
  obtain ⟨u, h3, h4⟩ := he.ex
  refine ⟨_, pe_split h1 h3 hs hbase hline, fun B F0 ρ σ F H Φ Q R hp k => ?_⟩
  refine h2.fz R hp fun τ ρ1 v F1 H1 R1 le1 tv q1 => ?_
  obtain ⟨a, rfl, q1⟩ := q1
  refine ⟨⟨a, tv⟩, ?_⟩
  refine h4.fz R1 q1 fun τ2 ρ2 v2 F2 H2 R2 le2 tv2 q2 => ?_
  obtain ⟨b, rfl, hb, hl, q2⟩ := q2
  refine ⟨a, b, tv, by rw [show v2 = _ from tv2], hb, by omega, fun p np => ?_⟩
  obtain ⟨R3, vr⟩ := R2.newL np (tvl_strs (K := X.K) (F := F2) (Txt.split a b))
  exact k _ true ρ2 _ F2 _ R3 (le1.trans le2) vr q2
end
/-! ### names, integers, values as tokens -/
open TL
def resS : Str := Str.ofString "open add from retire rule step to by none num pick opt row of one rec same rank clip table apart some must" ++ Str.ofString " each arms parts or and not has tag long"
def RS : List Str := [Str.ofString "open", Str.ofString "add", Str.ofString "from", Str.ofString "retire", Str.ofString "rule", Str.ofString "step", Str.ofString "to", Str.ofString "by", Str.ofString "none", Str.ofString "num", Str.ofString "pick", Str.ofString "opt", Str.ofString "row", Str.ofString "of", Str.ofString "one", Str.ofString "rec", Str.ofString "same", Str.ofString "rank", Str.ofString "clip", Str.ofString "table", Str.ofString "apart", Str.ofString "some", Str.ofString "must", Str.ofString "each", Str.ofString "arms", Str.ofString "parts", Str.ofString "or", Str.ofString "and", Str.ofString "not", Str.ofString "has", Str.ofString "tag", Str.ofString "long"]
theorem res_words : Txt.words resS = RS := by
  rw [KWd.words_scan]
  decide +kernel
theorem res_len : resS.length = 146 := by decide +kernel
def low (c : Nat) : Bool := decide (97 ≤ c) && decide (c ≤ 122)
def dig (c : Nat) : Bool := decide (48 ≤ c) && decide (c ≤ 57)
def nmL : List Nat → Bool
  | [] => false
  | c :: r => low c && r.all fun d => low d || dig d
def isNm (s : Str) : Bool := decide (1 ≤ s.length) && decide (s.length ≤ 8) && !RS.contains s && nmL (tl s)
def letS : Str := Str.ofString "abcdefghijklmnopqrstuvwxyz0123456789"
theorem let_len : letS.length = 36 := by decide +kernel
theorem let_low : ∀ (i : Nat) (h : i < (tl letS).length), (low (tl letS)[i] || dig (tl letS)[i]) = true ∧ (i < 26 → low (tl letS)[i] = true) := by decide +kernel
theorem res_more : ∀ w ∈ RS, ∀ c ∈ tl letS, isNm (w ++ ⟨#[c]⟩) = true := by
  have h : (RS.all fun w => (tl letS).all fun c => isNm (w ++ ⟨#[c]⟩)) = true := by decide +kernel
  intro w hw c hc
  exact List.all_eq_true.mp (List.all_eq_true.mp h w hw) c hc
/-- a name that is not reserved, or is made so -/
theorem nm_of {s : Str} (h1 : 1 ≤ s.length) (h2 : s.length ≤ 8) (h3 : nmL (tl s) = true) (h4 : s ∉ RS) : isNm s = true := by
  unfold isNm
  rw [decide_eq_true h1, decide_eq_true h2, h3]
  have e : RS.contains s = false := by
    cases h : RS.contains s with
    | false => rfl
    | true => exact absurd (List.contains_iff_mem.mp h) h4
  rw [e]
  rfl
theorem low_dig {c : Nat} (h : low c = true) : dig c = false := by
  unfold low at h
  unfold dig
  simp at h ⊢
  omega
/-- the text of an int -/
def istr (i : Int) : Str := Str.ofString (toString i)
def isIntL (l : List Nat) : Bool :=
  let d := if l.take 1 = [45] then l.drop 1 else l
  decide (1 ≤ d.length) && decide (d.length ≤ 4) && !(decide (d.head? = some 48) && decide (l ≠ [48])) && d.all dig
def isIn (s : Str) : Bool := isIntL (tl s)
theorem istr_nat (n : Nat) : tl (istr (n : Int)) = numL n := tl_num n
theorem istr_neg (n : Nat) : tl (istr (-((n + 1 : Nat) : Int))) = 45 :: numL (n + 1) := by
  have e : (-((n + 1 : Nat) : Int)) = Int.negSucc n := rfl
  have e2 : toString (Int.negSucc n) = "-" ++ toString (n + 1) := rfl
  have e3 : toString ((n + 1 : Nat) : Int) = toString (n + 1) := rfl
  have h := tl_num (n + 1)
  rw [e3] at h
  unfold istr
  rw [e, e2, tl_ofString, String.toList_append, List.map_append]
  rw [tl_ofString] at h
  rw [h]
  rfl
theorem numL_head (n : Nat) (h : n ≠ 0) : (numL n).head? ≠ some 48 := by
  induction n using Nat.strongRecOn with
  | _ n ih =>
    by_cases h9 : n < 10
    · rw [numL_lt h9]
      intro z
      have z2 : 48 + n = 48 := Option.some.inj z
      omega
    · rw [numL_step (by omega)]
      have hne := numL_ne (n / 10)
      have ih9 := ih (n / 10) (by omega) (by omega)
      cases e : numL (n / 10) with
      | nil => exact absurd e hne
      | cons c r =>
        rw [e] at ih9
        exact ih9
theorem numL_dig (n : Nat) : (numL n).all dig = true := List.all_eq_true.mpr fun c hc => by
  have := numL_digits n c hc
  unfold dig
  simp
  omega
theorem numL_no45 (n : Nat) : (numL n).take 1 ≠ [45] := by
  cases h : numL n with
  | nil => exact absurd h (numL_ne n)
  | cons c r =>
    intro z
    have z2 : c = 45 := by
      have z3 : [c] = [45] := z
      injection z3
    have := numL_digits n c (by rw [h]; exact List.mem_cons_self)
    omega
theorem isIn_istr {i : Int} (h1 : -9999 ≤ i) (h2 : i ≤ 9999) : isIn (istr i) = true := by
  unfold isIn isIntL
  rcases Int.lt_or_le i 0 with h | h
  · obtain ⟨n, rfl⟩ : ∃ n : Nat, i = -((n + 1 : Nat) : Int) := ⟨(-i).toNat - 1, by omega⟩
    rw [istr_neg]
    have hl := numL_len (n := n + 1) (k := 4) (by decide) (by omega)
    have hne := List.length_pos_iff.mpr (numL_ne (n + 1))
    have hh := numL_head (n + 1) (by omega)
    show (decide (1 ≤ (numL (n + 1)).length) && decide ((numL (n + 1)).length ≤ 4) && !(decide ((numL (n + 1)).head? = some 48) && _) && (numL (n + 1)).all dig) = true
    rw [decide_eq_true (show 1 ≤ (numL (n + 1)).length from hne), decide_eq_true hl, decide_eq_false hh, numL_dig]
    rfl
  · obtain ⟨n, rfl⟩ := Int.eq_ofNat_of_zero_le h
    rw [istr_nat]
    have hl := numL_len (n := n) (k := 4) (by decide) (by omega)
    have hne := List.length_pos_iff.mpr (numL_ne n)
    rw [if_neg (numL_no45 n)]
    show (decide (1 ≤ (numL n).length) && decide ((numL n).length ≤ 4) && !(decide ((numL n).head? = some 48) && decide (numL n ≠ [48])) && (numL n).all dig) = true
    rw [decide_eq_true (show 1 ≤ (numL n).length from hne), decide_eq_true hl, numL_dig]
    by_cases h0 : n = 0
    · subst h0
      rw [numL_lt (by omega)]
      rfl
    · rw [decide_eq_false (numL_head n h0)]
      rfl
theorem int_istr {i : Int} (h1 : -9999 ≤ i) (h2 : i ≤ 9999) : intText? (istr i) = some i := by
  rcases Int.lt_or_le i 0 with h | h
  · obtain ⟨n, rfl⟩ : ∃ n : Nat, i = -((n + 1 : Nat) : Int) := ⟨(-i).toNat - 1, by omega⟩
    have hl := numL_len (n := n + 1) (k := 4) (by decide) (by omega)
    have e := intText_neg (x := istr (-((n + 1 : Nat) : Int))) (cs := numL (n + 1)) (istr_neg n) (numL_digits _) (numL_ne _) (by rw [len_tl, istr_neg, List.length_cons]; omega)
    rw [e, numL_val]
  · obtain ⟨n, rfl⟩ := Int.eq_ofNat_of_zero_le h
    have hl := numL_len (n := n) (k := 4) (by decide) (by omega)
    exact int_num (n := n) (by omega)
theorem istr_len {i : Int} (h1 : -9999 ≤ i) (h2 : i ≤ 9999) : (istr i).length ≤ 5 := by
  rw [len_tl]
  rcases Int.lt_or_le i 0 with h | h
  · obtain ⟨n, rfl⟩ : ∃ n : Nat, i = -((n + 1 : Nat) : Int) := ⟨(-i).toNat - 1, by omega⟩
    have hl := numL_len (n := n + 1) (k := 4) (by decide) (by omega)
    rw [istr_neg, List.length_cons]
    omega
  · obtain ⟨n, rfl⟩ := Int.eq_ofNat_of_zero_le h
    have hl := numL_len (n := n) (k := 4) (by decide) (by omega)
    rw [istr_nat]
    omega
theorem istr_signs (i : Int) : ∀ c ∈ tl (istr i), c = 45 ∨ (48 ≤ c ∧ c ≤ 57) := by
  rcases Int.lt_or_le i 0 with h | h
  · obtain ⟨n, rfl⟩ : ∃ n : Nat, i = -((n + 1 : Nat) : Int) := ⟨(-i).toNat - 1, by omega⟩
    rw [istr_neg]
    intro c hc
    rcases List.mem_cons.mp hc with e | hc
    · exact .inl e
    · exact .inr (numL_digits _ c hc)
  · obtain ⟨n, rfl⟩ := Int.eq_ofNat_of_zero_le h
    rw [istr_nat]
    exact fun c hc => .inr (numL_digits _ c hc)
theorem nm_parts {s : Str} (h : isNm s = true) : 1 ≤ s.length ∧ s.length ≤ 8 ∧ s ∉ RS ∧ nmL (tl s) = true := by
  unfold isNm at h
  simp only [Bool.and_eq_true, decide_eq_true_eq, Bool.not_eq_true'] at h
  obtain ⟨⟨⟨a, b⟩, c⟩, d⟩ := h
  refine ⟨a, b, fun z => ?_, d⟩
  rw [List.contains_iff_mem.mpr z] at c
  cases c
theorem nm_signs {s : Str} (h : isNm s = true) : ∀ c ∈ tl s, (97 ≤ c ∧ c ≤ 122) ∨ (48 ≤ c ∧ c ≤ 57) := by
  obtain ⟨_, _, _, h⟩ := nm_parts h
  cases e : tl s with
  | nil =>
    intro c hc
    cases hc
  | cons d r =>
    rw [e] at h
    simp only [nmL, Bool.and_eq_true, List.all_eq_true, Bool.or_eq_true, low, dig, decide_eq_true_eq] at h
    intro c hc
    rcases List.mem_cons.mp hc with e2 | hc
    · rw [e2]
      exact .inl h.1
    · exact h.2 c hc
theorem nm_notIn {s : Str} (h : isNm s = true) : isIn s = false := by
  obtain ⟨_, _, _, h⟩ := nm_parts h
  unfold isIn isIntL
  cases e : tl s with
  | nil =>
    rw [e] at h
    cases h
  | cons d r =>
    rw [e] at h
    simp only [nmL, Bool.and_eq_true] at h
    have hd := low_dig h.1
    have h45 : ¬ (d :: r).take 1 = [45] := by
      intro z
      have z3 : [d] = [45] := z
      injection z3 with z4 _
      rw [z4] at h
      exact absurd h.1 (by decide)
    rw [if_neg h45]
    show (_ && (dig d && r.all dig)) = false
    rw [hd]
    simp
/-- a value's atoms are right -/
def Aok : Nat → T → Prop
  | _, .non => False
  | _, .int i => -9999 ≤ i ∧ i ≤ 9999
  | _, .str s => isNm s = true
  | 0, .tup _ => False
  | n + 1, .tup l => ∀ t ∈ l, Aok n t
  | _, _ => False
abbrev sO : Str := Str.ofString "["
abbrev sC : Str := Str.ofString "]"
abbrev sK : Str := Str.ofString ","
/-- items with commas between them -/
def listed : List (List Str) → List Str
  | [] => []
  | x :: r => x ++ r.flatMap fun y => sK :: y
theorem listed_snoc (l : List (List Str)) (y : List Str) : listed (l ++ [y]) = if l = [] then y else listed l ++ sK :: y := by
  cases l with
  | nil => simp [listed]
  | cons x r => simp [listed, List.append_assoc]

theorem listed_app (a b : List (List Str)) : listed (a ++ b) = listed a ++ (if a = [] then listed b else b.flatMap fun y => sK :: y) := by
  cases a with
  | nil => rfl
  | cons x r => simp [listed, List.append_assoc]
theorem listed_mem {l : List (List Str)} {y : List Str} (h : y ∈ l) : y.length ≤ (listed l).length := by
  cases l with
  | nil => cases h
  | cons x r =>
    show y.length ≤ (x ++ r.flatMap fun y => sK :: y).length
    rw [List.length_append]
    rcases List.mem_cons.mp h with e | h
    · rw [e]
      omega
    · have h2 : ∀ r : List (List Str), y ∈ r → y.length ≤ (r.flatMap fun y => sK :: y).length := by
        intro r
        induction r with
        | nil =>
          intro h
          cases h
        | cons z r ih =>
          intro h
          rw [List.flatMap_cons, List.length_append, List.length_cons]
          rcases List.mem_cons.mp h with e | h
          · rw [e]
            omega
          · have := ih h
            omega
      have := h2 r h
      omega
theorem listed_num (l : List (List Str)) (h : ∀ y ∈ l, 1 ≤ y.length) : l.length ≤ (listed l).length := by
  cases l with
  | nil => exact Nat.zero_le _
  | cons x r =>
    show r.length + 1 ≤ (x ++ r.flatMap fun y => sK :: y).length
    rw [List.length_append]
    have h1 := h x List.mem_cons_self
    have h2 : ∀ r : List (List Str), r.length ≤ (r.flatMap fun y => sK :: y).length := by
      intro r
      induction r with
      | nil => exact Nat.zero_le _
      | cons z r ih =>
        rw [List.flatMap_cons, List.length_append, List.length_cons, List.length_cons]
        omega
    have := h2 r
    omega
mutual
def vt : T → List Str
  | .non => []
  | .int i => [istr i]
  | .str s => [s]
  | .tup l => sO :: (listed (vtL l) ++ [sC])
  | _ => []
def vtL : List T → List (List Str)
  | [] => []
  | t :: l => vt t :: vtL l
end
theorem vtL_map : ∀ l : List T, vtL l = l.map vt
  | [] => rfl
  | t :: l => by
    show vt t :: vtL l = vt t :: l.map vt
    rw [vtL_map l]
theorem vt_tup (l : List T) : vt (.tup l) = sO :: (listed (l.map vt) ++ [sC]) := by
  show sO :: (listed (vtL l) ++ [sC]) = _
  rw [vtL_map]
theorem listed_len (l : List (List Str)) : (listed l).length + 1 ≤ (l.map fun x => x.length + 1).sum + 1 := by
  cases l with
  | nil => exact Nat.le_refl _
  | cons x r =>
    have h : ∀ r : List (List Str), (r.flatMap fun y => sK :: y).length = (r.map fun x => x.length + 1).sum := by
      intro r
      induction r with
      | nil => rfl
      | cons y r ih =>
        rw [List.flatMap_cons, List.length_append, ih, List.map_cons, List.sum_cons]
        rfl
    show (x ++ r.flatMap fun y => sK :: y).length + 1 ≤ _
    rw [List.length_append, h, List.map_cons, List.sum_cons]
    omega
theorem sum_le {l : List Nat} {b : Nat} (h : ∀ x ∈ l, x ≤ b) : l.sum ≤ l.length * b := by
  induction l with
  | nil => simp
  | cons x l ih =>
    have h1 := h x List.mem_cons_self
    have h2 := ih fun y hy => h y (List.mem_cons_of_mem _ hy)
    rw [List.sum_cons, List.length_cons, Nat.add_mul]
    omega
theorem vt_len {l : List T} {b : Nat} (h : ∀ t ∈ l, (vt t).length ≤ b) : (vt (.tup l)).length ≤ 2 + l.length * (b + 1) := by
  have h1 := listed_len (l.map vt)
  have h2 := sum_le (l := (l.map vt).map fun x => x.length + 1) (b := b + 1) (fun x hx => by
    rw [List.map_map] at hx
    obtain ⟨t, ht, rfl⟩ := List.mem_map.mp hx
    have := h t ht
    show (vt t).length + 1 ≤ b + 1
    omega)
  rw [List.length_map, List.length_map] at h2
  rw [vt_tup, List.length_cons, List.length_append, List.length_singleton]
  omega
theorem vt_pos : ∀ (n : Nat) (t : T), Aok n t → 1 ≤ (vt t).length
  | n, .non, h => by cases n <;> exact h.elim
  | n, .bl _, h => by cases n <;> exact h.elim
  | n, .lst _, h => by cases n <;> exact h.elim
  | n, .adr _, h => by cases n <;> exact h.elim
  | n, .wtp _, h => by cases n <;> exact h.elim
  | n, .dct _ _, h => by cases n <;> exact h.elim
  | _, .int _, _ => Nat.le_refl _
  | _, .str _, _ => Nat.le_refl _
  | _, .tup l, _ => by
    rw [vt_tup, List.length_cons]
    omega
/-- all tokens of a right value: short, without blanks -/
def tkOk (s : Str) : Prop := s.length ≤ 8 ∧ 32 ∉ tl s
theorem vt_ok : ∀ (n : Nat) (t : T), Aok n t → ∀ s ∈ vt t, tkOk s
  | n, .non, h => by cases n <;> exact h.elim
  | n, .bl _, h => by cases n <;> exact h.elim
  | n, .lst _, h => by cases n <;> exact h.elim
  | n, .adr _, h => by cases n <;> exact h.elim
  | n, .wtp _, h => by cases n <;> exact h.elim
  | n, .dct _ _, h => by cases n <;> exact h.elim
  | n, .int i, h => fun s hs => by
    have h : -9999 ≤ i ∧ i ≤ 9999 := by cases n <;> exact h
    rw [List.mem_singleton.mp hs]
    have h1 := istr_len h.1 h.2
    refine ⟨by omega, fun z => ?_⟩
    have := istr_signs i 32 z
    omega
  | n, .str x, h => fun s hs => by
    have h : isNm x = true := by cases n <;> exact h
    rw [List.mem_singleton.mp hs]
    refine ⟨(nm_parts h).2.1, fun z => ?_⟩
    have := nm_signs h 32 z
    omega
  | 0, .tup l, h => h.elim
  | n + 1, .tup l, h => fun s hs => by
    have ih : ∀ t ∈ l, ∀ s ∈ vt t, tkOk s := fun t ht => vt_ok n t (h t ht)
    rw [vt_tup] at hs
    have hO : tkOk sO := ⟨by decide +kernel, by decide +kernel⟩
    have hC : tkOk sC := ⟨by decide +kernel, by decide +kernel⟩
    have hK : tkOk sK := ⟨by decide +kernel, by decide +kernel⟩
    rcases List.mem_cons.mp hs with e | hs
    · rw [e]
      exact hO
    rcases List.mem_append.mp hs with hs | hs
    · have key : ∀ (m : List T), (∀ t ∈ m, t ∈ l) → ∀ s ∈ ((m.map vt).flatMap fun y => sK :: y), tkOk s := fun m hm s hs => by
        obtain ⟨y, hy, hs⟩ := List.mem_flatMap.mp hs
        obtain ⟨t, ht, rfl⟩ := List.mem_map.mp hy
        rcases List.mem_cons.mp hs with e | hs
        · rw [e]
          exact hK
        · exact ih t (hm t ht) s hs
      cases l with
      | nil => cases hs
      | cons t l =>
        rcases List.mem_append.mp hs with hs | hs
        · exact ih t List.mem_cons_self s hs
        · exact key l (fun u hu => List.mem_cons_of_mem _ hu) s hs
    · rw [List.mem_singleton.mp hs]
      exact hC

def cb : Nat → Nat
  | 0 => 1
  | n + 1 => 2 + 3 * (cb n + 1)
def Gd (n : Nat) (t : T) : Prop := Aok n t ∧ (vt t).length ≤ cb n
theorem aok_up : ∀ (n : Nat) (t : T), Aok n t → Aok (n + 1) t
  | n, .non, h => by cases n <;> exact h.elim
  | n, .bl _, h => by cases n <;> exact h.elim
  | n, .lst _, h => by cases n <;> exact h.elim
  | n, .adr _, h => by cases n <;> exact h.elim
  | n, .wtp _, h => by cases n <;> exact h.elim
  | n, .dct _ _, h => by cases n <;> exact h.elim
  | n, .int i, h => by cases n <;> exact h
  | n, .str s, h => by cases n <;> exact h
  | 0, .tup l, h => h.elim
  | n + 1, .tup l, h => fun t ht => aok_up n t (h t ht)
theorem aok_le {n m : Nat} (h : n ≤ m) {t : T} (ha : Aok n t) : Aok m t := by
  obtain ⟨k, rfl⟩ := Nat.exists_eq_add_of_le h
  induction k with
  | zero => exact ha
  | succ k ih => exact aok_up _ _ (ih (by omega))
theorem gd_atom {n : Nat} {t : T} (h : Aok 0 t) (h2 : (vt t).length = 1) : Gd n t := ⟨aok_le (Nat.zero_le _) h, by
  rw [h2]
  cases n with
  | zero => exact Nat.le_refl _
  | succ n =>
    show 1 ≤ 2 + 3 * (cb n + 1)
    omega⟩
theorem gd_up {n : Nat} {l : List T} (h : ∀ t ∈ l, Gd n t) (hl : l.length ≤ 3) : Gd (n + 1) (.tup l) := ⟨fun t ht => (h t ht).1, by
  have h1 := vt_len fun t ht => (h t ht).2
  have h2 : l.length * (cb n + 1) ≤ 3 * (cb n + 1) := Nat.mul_le_mul_right _ hl
  show _ ≤ 2 + 3 * (cb n + 1)
  omega⟩
theorem let_pick {r : Int} {b : Nat} (h0 : 0 ≤ r) (h1 : r < (b : Int)) (hb : b ≤ 36) : ∃ c, atI letS.cps.toList r = some c ∧ (low c || dig c) = true ∧ c ∈ tl letS ∧ (b ≤ 26 → low c = true) := by
  obtain ⟨k, rfl⟩ := Int.eq_ofNat_of_zero_le h0
  have hl : (tl letS).length = 36 := by rw [← len_tl]; exact let_len
  have hk : k < (tl letS).length := by omega
  have h := let_low k hk
  exact ⟨(tl letS)[k], atI_nat (List.getElem?_eq_getElem hk), h.1, List.getElem_mem hk, fun hb => h.2 (by omega)⟩
theorem nmL_snoc {l : List Nat} {c : Nat} (h : nmL l = true) (hc : (low c || dig c) = true) : nmL (l ++ [c]) = true := by
  cases l with
  | nil => cases h
  | cons a r =>
    simp only [nmL, Bool.and_eq_true] at h
    show (low a && (r ++ [c]).all _) = true
    rw [List.all_append, h.1, h.2]
    simp [hc]
end Y

namespace Y
open PySem PySem.Spec PyProof.Rows L2 RT RZ TL PySem.NumText
/-- integers, tuples of them, .. -/
inductive Dp : Nat → T → Prop
  | int (n : Nat) (i : Int) : Dp (n + 1) (.int i)
  | tup (n : Nat) (l : List T) : l.length ≤ 1000 → (∀ x ∈ l, Dp n x) → Dp (n + 1) (.tup l)
section
variable {P : Program} {w : World} {K : PySem.W.Frag} {mg : Str → Option Value} {base : Heap}
def pfAlk (N : Nat) : PSp := fun ts Φ => ∃ t : T, ts = [t, t] ∧ Dp N t ∧ Φ (.bl true) false
theorem ok_alike {W : Wld} {k : Nat} {N : Nat} (D : Df K mg "_law_alike" s_alike)
    (C_alike : CalQ P w K mg base (W) "_law_alike" k ["_law_told", "_law_due"] (pfAlk N)) (m_isinstance : mg "isinstance" = none) (m_tuple : mg "tuple" = none) (m_len : mg "len" = none) (m_all : mg "all" = none) (m_zip : mg "zip" = none) (m_bool : mg "bool" = none) (m_int : mg "int" = none) (m_str : mg "str" = none) :
    CalQ P w K mg base (W) "_law_alike" (k + 1) ["_law_told", "_law_due"] (pfAlk (N + 1)) := by
  refine CalQ.mk D sc_alike (fun _ _ _ _ _ _ us h => match us, h with | [_, _], _ => rfl) (fun ts Φ h => by first | (obtain ⟨rfl, _⟩ := h; rfl) | (obtain ⟨_, rfl, _⟩ := h; rfl) | (obtain ⟨_, _, rfl, _⟩ := h; rfl) | (obtain ⟨_, _, _, rfl, _⟩ := h; rfl) | (obtain ⟨_, _, _, _, rfl, _⟩ := h; rfl)) (fun f cdv A outer s H E hr => ?_)
  refine ⟨_, qss_cons (qs_if (qt_truth (qr_of (qe_isi (is := isB "tuple") (by rfl) m_isinstance (qe_name (pv 1)) (pe_bltn (v := .ty "tuple") (by rfl) m_tuple (by decide +kernel) rfl) (kitN (by decide +kernel)))) (by intro _; rfl))
    (qss_cons (qs_if (QW.qt (qw_or (qt_not (qt_truth (qr_of (qe_isi (is := isB "tuple") (by rfl) m_isinstance (qe_name (pv 0)) (pe_bltn (v := .ty "tuple") (by rfl) m_tuple (by decide +kernel) rfl) (kitN (by decide +kernel)))) (by intro _; rfl))) (qw_or1 (qt_cmp (oq_ne hr.units) (qe_len (by rfl) m_len (qr_name (pv 0))) (qe_len (by rfl) m_len (qr_name (pv 1))) (nomark _)))))
      (qss_one (qs_ret qe_bl))
      (qss_nil))
      (qss_one (qs_ret (qe_callB (cq_all rfl) (by rfl) m_all (by decide +kernel) (qa_cons (qe_lc rfl (own := [("_law_one", 2), ("_law_two", 3)]) sc_alike.nd (by decide) (qi_zipA (by rfl) m_zip (qe_name (pv 0)) (qe_name (pv 1))) (blkOk_by (N := ["_law_told", "_law_due", "_law_one", "_law_two"]) (sc := defScope s_alike) (by decide +kernel)) (fun _ _ _ _ _ => (qg_tup rfl (qgs_cons (qg_name (pg_name (i := 2) sc_alike.nd rfl (.inl rfl))) (qgs_cons (qg_name (pg_name (i := 3) sc_alike.nd rfl (.inl rfl))) qgs_nil)) (len_cons ex_name (len_cons ex_name len_nil)))) (fun _ _ _ _ _ => qts_nil) (fun _ _ _ _ _ => (qe_call C_alike (hr.mono (by omega)) (by rfl) (qa_cons (qe_name (pv 2)) (qa_cons (qe_name (pv 3)) qa_nil))))) qa_nil)))))
    (qss_nil))
    (qss_cons (qs_if (QW.qt (qw_or (qt_truth (qr_of (qe_isi (is := isB "bool") (by rfl) m_isinstance (qe_name (pv 1)) (pe_bltn (v := .ty "bool") (by rfl) m_bool (by decide +kernel) rfl) (kitN (by decide +kernel)))) (by intro _; rfl)) (qw_or1 (qt_truth (qr_of (qe_isi (is := isB "bool") (by rfl) m_isinstance (qe_name (pv 0)) (pe_bltn (v := .ty "bool") (by rfl) m_bool (by decide +kernel) rfl) (kitN (by decide +kernel)))) (by intro _; rfl)))))
    (qss_one (qs_ret (qe_and (qe_isi (is := isB "bool") (by rfl) m_isinstance (qe_name (pv 1)) (pe_bltn (v := .ty "bool") (by rfl) m_bool (by decide +kernel) rfl) (kitN (by decide +kernel))) (qe_and (qe_isi (is := isB "bool") (by rfl) m_isinstance (qe_name (pv 0)) (pe_bltn (v := .ty "bool") (by rfl) m_bool (by decide +kernel) rfl) (kitN (by decide +kernel))) (qe_one (qe_cmp (oq_eq hr.units) (qe_name (pv 0)) (qe_name (pv 1)) (nomark _)))))))
    (qss_nil))
    (qss_cons (qs_if (qt_truth (qr_of (qe_isi (is := isB "int") (by rfl) m_isinstance (qe_name (pv 1)) (pe_bltn (v := .ty "int") (by rfl) m_int (by decide +kernel) rfl) (kitN (by decide +kernel)))) (by intro _; rfl))
    (qss_one (qs_ret (qe_and (qe_isi (is := isB "int") (by rfl) m_isinstance (qe_name (pv 0)) (pe_bltn (v := .ty "int") (by rfl) m_int (by decide +kernel) rfl) (kitN (by decide +kernel))) (qe_one (qe_cmp (oq_eq hr.units) (qe_name (pv 0)) (qe_name (pv 1)) (nomark _))))))
    (qss_nil))
    (qss_cons (qs_if (qt_truth (qr_of (qe_isi (is := isB "str") (by rfl) m_isinstance (qe_name (pv 1)) (pe_bltn (v := .ty "str") (by rfl) m_str (by decide +kernel) rfl) (kitN (by decide +kernel)))) (by intro _; rfl))
    (qss_one (qs_ret (qe_and (qe_isi (is := isB "str") (by rfl) m_isinstance (qe_name (pv 0)) (pe_bltn (v := .ty "str") (by rfl) m_str (by decide +kernel) rfl) (kitN (by decide +kernel))) (qe_one (qe_cmp (oq_eq hr.units) (qe_name (pv 0)) (qe_name (pv 1)) (nomark _))))))
    (qss_nil))
    (qss_one (qs_ret (qe_and (qe_cmp oq_is (qe_name (pv 1)) qe_non (nomark _)) (qe_one (qe_cmp oq_is (qe_name (pv 0)) qe_non (nomark _))))))))), ?_⟩
  intro ts Φ h
  obtain ⟨t, rfl, ht, h⟩ := h
  cases ht with
  | int n i =>
    simp only [↓reduceIte, ↓sSeq, ↓sAsg, ↓sIf, ↓sRet, ↓sRetN, ↓sExpr, ↓sNext, ↓sBreak, ↓sCont, ↓sAug, ↓sFor, ↓gN, ↓pIx, ↓pC, ↓pTup, ↓pLst, ↓pCons, ↓pNil, ↓pStar, ↓pOp, ↓pTB, ↓pTru, ↓pTAnd, ↓pTOr, ↓pTNot, ↓pAndV, ↓pOrV, ↓pNotV, ↓pIf, ↓pCall, ↓pLen, ↓pIsi, ↓pDget, ↓gDset, ↓gSubT, ↓PEq, ↓PNe, ↓pChain, ↓pNeg, ↓pSl, ↓pNoPart, ↓pPart, ↓pIter, ↓pRng1, ↓pRng2, ↓pEnum, ↓pRev, ↓pZip, ↓pMet, ↓pMet0, ↓pMut, ↓pLc, ↓pLRng1, ↓pLRng2, ↓pYes, ↓pRE, ↓startP, ↓pWords, ↓pSplit, ↓pGen, ↓pSum, ↓pLenSt, ↓pDIx, ↓pCallV, ↓pCallM, ↓PInT, ↓gLt, ↓gLe, ↓gGt, ↓gGe, ↓pV_f0, ↓pV_o0, ↓pRV_f0, ↓pRV_o0, ↓lk_f0, ↓lk_o0, ↓sRV_f0, ↓sRV_o0, ↓pV_f1, ↓pV_o1, ↓pRV_f1, ↓pRV_o1, ↓lk_f1, ↓lk_o1, ↓sRV_f1, ↓sRV_o1, ↓pV_f2, ↓pV_o2, ↓pRV_f2, ↓pRV_o2, ↓lk_f2, ↓lk_o2, ↓sRV_f2, ↓sRV_o2, ↓pV_f3, ↓pV_o3, ↓pRV_f3, ↓pRV_o3, ↓lk_f3, ↓lk_o3, ↓sRV_f3, ↓sRV_o3, ↓pV_f4, ↓pV_o4, ↓pRV_f4, ↓pRV_o4, ↓lk_f4, ↓lk_o4, ↓sRV_f4, ↓sRV_o4, ↓pV_f5, ↓pV_o5, ↓pRV_f5, ↓pRV_o5, ↓lk_f5, ↓lk_o5, ↓sRV_f5, ↓sRV_o5, ↓pV_f6, ↓pV_o6, ↓pRV_f6, ↓pRV_o6, ↓lk_f6, ↓lk_o6, ↓sRV_f6, ↓sRV_o6, ↓pV_f7, ↓pV_o7, ↓pRV_f7, ↓pRV_o7, ↓lk_f7, ↓lk_o7, ↓sRV_f7, ↓sRV_o7, ↓pV_f8, ↓pV_o8, ↓pRV_f8, ↓pRV_o8, ↓lk_f8, ↓lk_o8, ↓sRV_f8, ↓sRV_o8, ↓pV_f9, ↓pV_o9, ↓pRV_f9, ↓pRV_o9, ↓lk_f9, ↓lk_o9, ↓sRV_f9, ↓sRV_o9, ↓pV_f10, ↓pV_o10, ↓pRV_f10, ↓pRV_o10, ↓lk_f10, ↓lk_o10, ↓sRV_f10, ↓sRV_o10, ↓pV_f11, ↓pV_o11, ↓pRV_f11, ↓pRV_o11, ↓lk_f11, ↓lk_o11, ↓sRV_f11, ↓sRV_o11, ↓pV_f12, ↓pV_o12, ↓pRV_f12, ↓pRV_o12, ↓lk_f12, ↓lk_o12, ↓sRV_f12, ↓sRV_o12, ↓pV_f13, ↓pV_o13, ↓pRV_f13, ↓pRV_o13, ↓lk_f13, ↓lk_o13, ↓sRV_f13, ↓sRV_o13, ↓lk_fz, ↓of_fn, ↓of_fb, ↓of_fi, ↓of_fs, ↓of_ft, ↓of_fl, ↓of_ol, ↓of_ff, ↓ad_i, ↓ad_s, ↓ad_l, ↓ad_t, ↓su_i, ↓mu_i, ↓mu_l, ↓mo_i, ↓fd_i, ↓pw_i, ↓an_i, ↓ci_i, ↓is_n, ↓is_nn, ↓in_t, ↓in_l, ↓in_s, ↓ix_l, ↓ix_t, ↓ix_s, ↓sl_l, ↓sl_t, ↓sl_s, ↓kn_i, ↓kp_i, ↓kr1, ↓kr2, ↓ke_l, ↓kz_l, ↓kz_t, ↓klr1, ↓klr2, ↓gt_e, ↓gt_w, ↓gs_n, ↓gs_c, ↓ltS_i, ↓ltS_s, ↓pChain3, ↓pRevL, ↓pEnumA, ↓kea_l, ↓kea_t, ↓pZipA, ↓kza_ll, ↓kza_lt, ↓kza_tl, ↓kza_tt, ↓pTR, ↓ktr_l, ↓ktr_t, ↓inA_t, ↓inA_l, ↓inA_s, ↓pDix, ↓pDNew, ↓gDsub, ↓pDc, ↓pDZip, ↓pSortSt, ↓dix_i, ↓dix_s, ↓din_i, ↓din_s, ↓kds_i, ↓kds_s, ↓of_od, ↓od_0, ↓od_1, ↓od_2, ↓od_3, ↓od_4, ↓od_5, ↓od_6, ↓od_7, ↓od_8, ↓od_9, ↓od_10, ↓od_11, ↓od_12, ↓od_13, nc_0, nc_1, nc_2, nc_3, nc_4, nc_5, nc_6, nc_7, nc_8, nc_9, nc_10, nc_11, nc_12, eq_ii, eq_ss, eq_nn, eq_bb, eq_st, eq_ts, eq_si, eq_is, eq_it, eq_ti, cmp_i, cmp_b, cmp_n, sc_i, sc_s, sc_b, sc_n, flat_i, flat_s, flat_b, flat_n, tru_n, tru_b, tru_i, tru_t, tru_l, items_t, items_l, len_t, len_l, len_w, iter_t, iter_l, iter_s, isN_n, isN_i, isN_s, isN_t, isN_l, isN_b, at_0, at_1, at_2, at_3, ib_tn, ib_tb, ib_ti, ib_ts, ib_tt, ib_tl, ib_sn, ib_sb, ib_si, ib_ss, ib_st, ib_sl, ib_in, ib_ib, ib_ii, ib_is, ib_it, ib_il, ib_bn, ib_bb, ib_bi, ib_bs, ib_bt, ib_bl, na_n, na_b, na_i, na_s, na_t, na_l, List.getElem?_cons_zero, List.getElem?_cons_succ, List.set_cons_zero, List.set_cons_succ, List.map_cons, List.map_nil, List.length_cons, List.length_nil, List.replicate_succ, List.replicate_zero, List.cons_append, List.nil_append, List.append_nil, List.isEmpty_nil, List.isEmpty_cons, List.cons.injEq, Option.some.injEq, T.int.injEq, T.str.injEq, T.bl.injEq, T.tup.injEq, T.lst.injEq, T.adr.injEq, Sl.fz.injEq, Sl.own.injEq, T.dct.injEq, T.wtp.injEq, exists_eq_left, exists_eq_left', exists_eq_right, exists_eq_right', exists_eq, exists_eq', exists_and_left, exists_and_right, exists_const, exists_false, and_true, true_and, and_false, false_and, or_true, true_or, or_false, false_or, not_true_eq_false, not_false_eq_true, if_true, if_false, ite_true, ite_false, Bool.not_true, Bool.not_false, Bool.true_or, Bool.or_true, Bool.false_or, Bool.or_false, Bool.true_and, Bool.and_true, Bool.false_and, Bool.and_false, Bool.false_eq_true, Bool.true_eq_false, eq_self, decide_eq_true_eq, decide_true, decide_false, Bool.decide_eq_true, Bool.not_eq_true, decide_eq_false_iff_not, Bool.and_eq_true, Bool.or_eq_true, Bool.not_eq_true', reduceCtorEq, ne_eq, Nat.le_refl, Nat.reduceAdd, Nat.reduceSub, Nat.reduceLeDiff, Nat.reduceLT, implies_true, forall_const, List.any_cons, List.any_nil, List.all_cons, List.all_nil, wipeP, restore, List.getD_eq_getElem?_getD, Option.getD_some, List.mem_singleton, forall_eq, Int.reduceLT, Int.reduceLE, Int.reduceNeg, Int.reduceSub, Int.reduceAdd, Int.reduceToNat, Int.reduceEq, Int.reduceNe, String.reduceEq, and_self, or_self]
    exact h
  | tup n l hl hk =>
    have lz : (List.zipWith (fun x y => T.wtp [x, y]) l l) = l.map fun x => T.wtp [x, x] := by
      rw [List.zipWith_self]
    simp only [↓reduceIte, ↓sSeq, ↓sAsg, ↓sIf, ↓sRet, ↓sRetN, ↓sExpr, ↓sNext, ↓sBreak, ↓sCont, ↓sAug, ↓sFor, ↓gN, ↓pIx, ↓pC, ↓pTup, ↓pLst, ↓pCons, ↓pNil, ↓pStar, ↓pOp, ↓pTB, ↓pTru, ↓pTAnd, ↓pTOr, ↓pTNot, ↓pAndV, ↓pOrV, ↓pNotV, ↓pIf, ↓pCall, ↓pLen, ↓pIsi, ↓pDget, ↓gDset, ↓gSubT, ↓PEq, ↓PNe, ↓pChain, ↓pNeg, ↓pSl, ↓pNoPart, ↓pPart, ↓pIter, ↓pRng1, ↓pRng2, ↓pEnum, ↓pRev, ↓pZip, ↓pMet, ↓pMet0, ↓pMut, ↓pLc, ↓pLRng1, ↓pLRng2, ↓pYes, ↓pRE, ↓startP, ↓pWords, ↓pSplit, ↓pGen, ↓pSum, ↓pLenSt, ↓pDIx, ↓pCallV, ↓pCallM, ↓PInT, ↓gLt, ↓gLe, ↓gGt, ↓gGe, ↓pV_f0, ↓pV_o0, ↓pRV_f0, ↓pRV_o0, ↓lk_f0, ↓lk_o0, ↓sRV_f0, ↓sRV_o0, ↓pV_f1, ↓pV_o1, ↓pRV_f1, ↓pRV_o1, ↓lk_f1, ↓lk_o1, ↓sRV_f1, ↓sRV_o1, ↓pV_f2, ↓pV_o2, ↓pRV_f2, ↓pRV_o2, ↓lk_f2, ↓lk_o2, ↓sRV_f2, ↓sRV_o2, ↓pV_f3, ↓pV_o3, ↓pRV_f3, ↓pRV_o3, ↓lk_f3, ↓lk_o3, ↓sRV_f3, ↓sRV_o3, ↓pV_f4, ↓pV_o4, ↓pRV_f4, ↓pRV_o4, ↓lk_f4, ↓lk_o4, ↓sRV_f4, ↓sRV_o4, ↓pV_f5, ↓pV_o5, ↓pRV_f5, ↓pRV_o5, ↓lk_f5, ↓lk_o5, ↓sRV_f5, ↓sRV_o5, ↓pV_f6, ↓pV_o6, ↓pRV_f6, ↓pRV_o6, ↓lk_f6, ↓lk_o6, ↓sRV_f6, ↓sRV_o6, ↓pV_f7, ↓pV_o7, ↓pRV_f7, ↓pRV_o7, ↓lk_f7, ↓lk_o7, ↓sRV_f7, ↓sRV_o7, ↓pV_f8, ↓pV_o8, ↓pRV_f8, ↓pRV_o8, ↓lk_f8, ↓lk_o8, ↓sRV_f8, ↓sRV_o8, ↓pV_f9, ↓pV_o9, ↓pRV_f9, ↓pRV_o9, ↓lk_f9, ↓lk_o9, ↓sRV_f9, ↓sRV_o9, ↓pV_f10, ↓pV_o10, ↓pRV_f10, ↓pRV_o10, ↓lk_f10, ↓lk_o10, ↓sRV_f10, ↓sRV_o10, ↓pV_f11, ↓pV_o11, ↓pRV_f11, ↓pRV_o11, ↓lk_f11, ↓lk_o11, ↓sRV_f11, ↓sRV_o11, ↓pV_f12, ↓pV_o12, ↓pRV_f12, ↓pRV_o12, ↓lk_f12, ↓lk_o12, ↓sRV_f12, ↓sRV_o12, ↓pV_f13, ↓pV_o13, ↓pRV_f13, ↓pRV_o13, ↓lk_f13, ↓lk_o13, ↓sRV_f13, ↓sRV_o13, ↓lk_fz, ↓of_fn, ↓of_fb, ↓of_fi, ↓of_fs, ↓of_ft, ↓of_fl, ↓of_ol, ↓of_ff, ↓ad_i, ↓ad_s, ↓ad_l, ↓ad_t, ↓su_i, ↓mu_i, ↓mu_l, ↓mo_i, ↓fd_i, ↓pw_i, ↓an_i, ↓ci_i, ↓is_n, ↓is_nn, ↓in_t, ↓in_l, ↓in_s, ↓ix_l, ↓ix_t, ↓ix_s, ↓sl_l, ↓sl_t, ↓sl_s, ↓kn_i, ↓kp_i, ↓kr1, ↓kr2, ↓ke_l, ↓kz_l, ↓kz_t, ↓klr1, ↓klr2, ↓gt_e, ↓gt_w, ↓gs_n, ↓gs_c, ↓ltS_i, ↓ltS_s, ↓pChain3, ↓pRevL, ↓pEnumA, ↓kea_l, ↓kea_t, ↓pZipA, ↓kza_ll, ↓kza_lt, ↓kza_tl, ↓kza_tt, ↓pTR, ↓ktr_l, ↓ktr_t, ↓inA_t, ↓inA_l, ↓inA_s, ↓pDix, ↓pDNew, ↓gDsub, ↓pDc, ↓pDZip, ↓pSortSt, ↓dix_i, ↓dix_s, ↓din_i, ↓din_s, ↓kds_i, ↓kds_s, ↓of_od, ↓od_0, ↓od_1, ↓od_2, ↓od_3, ↓od_4, ↓od_5, ↓od_6, ↓od_7, ↓od_8, ↓od_9, ↓od_10, ↓od_11, ↓od_12, ↓od_13, nc_0, nc_1, nc_2, nc_3, nc_4, nc_5, nc_6, nc_7, nc_8, nc_9, nc_10, nc_11, nc_12, eq_ii, eq_ss, eq_nn, eq_bb, eq_st, eq_ts, eq_si, eq_is, eq_it, eq_ti, cmp_i, cmp_b, cmp_n, sc_i, sc_s, sc_b, sc_n, flat_i, flat_s, flat_b, flat_n, tru_n, tru_b, tru_i, tru_t, tru_l, items_t, items_l, len_t, len_l, len_w, iter_t, iter_l, iter_s, isN_n, isN_i, isN_s, isN_t, isN_l, isN_b, at_0, at_1, at_2, at_3, ib_tn, ib_tb, ib_ti, ib_ts, ib_tt, ib_tl, ib_sn, ib_sb, ib_si, ib_ss, ib_st, ib_sl, ib_in, ib_ib, ib_ii, ib_is, ib_it, ib_il, ib_bn, ib_bb, ib_bi, ib_bs, ib_bt, ib_bl, na_n, na_b, na_i, na_s, na_t, na_l, List.getElem?_cons_zero, List.getElem?_cons_succ, List.set_cons_zero, List.set_cons_succ, List.map_cons, List.map_nil, List.length_cons, List.length_nil, List.replicate_succ, List.replicate_zero, List.cons_append, List.nil_append, List.append_nil, List.isEmpty_nil, List.isEmpty_cons, List.cons.injEq, Option.some.injEq, T.int.injEq, T.str.injEq, T.bl.injEq, T.tup.injEq, T.lst.injEq, T.adr.injEq, Sl.fz.injEq, Sl.own.injEq, T.dct.injEq, T.wtp.injEq, exists_eq_left, exists_eq_left', exists_eq_right, exists_eq_right', exists_eq, exists_eq', exists_and_left, exists_and_right, exists_const, exists_false, and_true, true_and, and_false, false_and, or_true, true_or, or_false, false_or, not_true_eq_false, not_false_eq_true, if_true, if_false, ite_true, ite_false, Bool.not_true, Bool.not_false, Bool.true_or, Bool.or_true, Bool.false_or, Bool.or_false, Bool.true_and, Bool.and_true, Bool.false_and, Bool.and_false, Bool.false_eq_true, Bool.true_eq_false, eq_self, decide_eq_true_eq, decide_true, decide_false, Bool.decide_eq_true, Bool.not_eq_true, decide_eq_false_iff_not, Bool.and_eq_true, Bool.or_eq_true, Bool.not_eq_true', reduceCtorEq, ne_eq, Nat.le_refl, Nat.reduceAdd, Nat.reduceSub, Nat.reduceLeDiff, Nat.reduceLT, implies_true, forall_const, List.any_cons, List.any_nil, List.all_cons, List.all_nil, wipeP, restore, List.getD_eq_getElem?_getD, Option.getD_some, List.mem_singleton, forall_eq, Int.reduceLT, Int.reduceLE, Int.reduceNeg, Int.reduceSub, Int.reduceAdd, Int.reduceToNat, Int.reduceEq, Int.reduceNe, String.reduceEq, and_self, or_self]
    rw [lz]
    refine lckT_map (fun _ => T.bl true) (by rw [List.length_map]; omega) (now2 rfl rfl) (fun t C D ht hC => ?_) ?_
    · obtain ⟨x, hx, rfl⟩ := List.mem_map.mp ht
      simp only [↓reduceIte, ↓sSeq, ↓sAsg, ↓sIf, ↓sRet, ↓sRetN, ↓sExpr, ↓sNext, ↓sBreak, ↓sCont, ↓sAug, ↓sFor, ↓gN, ↓pIx, ↓pC, ↓pTup, ↓pLst, ↓pCons, ↓pNil, ↓pStar, ↓pOp, ↓pTB, ↓pTru, ↓pTAnd, ↓pTOr, ↓pTNot, ↓pAndV, ↓pOrV, ↓pNotV, ↓pIf, ↓pCall, ↓pLen, ↓pIsi, ↓pDget, ↓gDset, ↓gSubT, ↓PEq, ↓PNe, ↓pChain, ↓pNeg, ↓pSl, ↓pNoPart, ↓pPart, ↓pIter, ↓pRng1, ↓pRng2, ↓pEnum, ↓pRev, ↓pZip, ↓pMet, ↓pMet0, ↓pMut, ↓pLc, ↓pLRng1, ↓pLRng2, ↓pYes, ↓pRE, ↓startP, ↓pWords, ↓pSplit, ↓pGen, ↓pSum, ↓pLenSt, ↓pDIx, ↓pCallV, ↓pCallM, ↓PInT, ↓gLt, ↓gLe, ↓gGt, ↓gGe, ↓pV_f0, ↓pV_o0, ↓pRV_f0, ↓pRV_o0, ↓lk_f0, ↓lk_o0, ↓sRV_f0, ↓sRV_o0, ↓pV_f1, ↓pV_o1, ↓pRV_f1, ↓pRV_o1, ↓lk_f1, ↓lk_o1, ↓sRV_f1, ↓sRV_o1, ↓pV_f2, ↓pV_o2, ↓pRV_f2, ↓pRV_o2, ↓lk_f2, ↓lk_o2, ↓sRV_f2, ↓sRV_o2, ↓pV_f3, ↓pV_o3, ↓pRV_f3, ↓pRV_o3, ↓lk_f3, ↓lk_o3, ↓sRV_f3, ↓sRV_o3, ↓pV_f4, ↓pV_o4, ↓pRV_f4, ↓pRV_o4, ↓lk_f4, ↓lk_o4, ↓sRV_f4, ↓sRV_o4, ↓pV_f5, ↓pV_o5, ↓pRV_f5, ↓pRV_o5, ↓lk_f5, ↓lk_o5, ↓sRV_f5, ↓sRV_o5, ↓pV_f6, ↓pV_o6, ↓pRV_f6, ↓pRV_o6, ↓lk_f6, ↓lk_o6, ↓sRV_f6, ↓sRV_o6, ↓pV_f7, ↓pV_o7, ↓pRV_f7, ↓pRV_o7, ↓lk_f7, ↓lk_o7, ↓sRV_f7, ↓sRV_o7, ↓pV_f8, ↓pV_o8, ↓pRV_f8, ↓pRV_o8, ↓lk_f8, ↓lk_o8, ↓sRV_f8, ↓sRV_o8, ↓pV_f9, ↓pV_o9, ↓pRV_f9, ↓pRV_o9, ↓lk_f9, ↓lk_o9, ↓sRV_f9, ↓sRV_o9, ↓pV_f10, ↓pV_o10, ↓pRV_f10, ↓pRV_o10, ↓lk_f10, ↓lk_o10, ↓sRV_f10, ↓sRV_o10, ↓pV_f11, ↓pV_o11, ↓pRV_f11, ↓pRV_o11, ↓lk_f11, ↓lk_o11, ↓sRV_f11, ↓sRV_o11, ↓pV_f12, ↓pV_o12, ↓pRV_f12, ↓pRV_o12, ↓lk_f12, ↓lk_o12, ↓sRV_f12, ↓sRV_o12, ↓pV_f13, ↓pV_o13, ↓pRV_f13, ↓pRV_o13, ↓lk_f13, ↓lk_o13, ↓sRV_f13, ↓sRV_o13, ↓lk_fz, ↓of_fn, ↓of_fb, ↓of_fi, ↓of_fs, ↓of_ft, ↓of_fl, ↓of_ol, ↓of_ff, ↓ad_i, ↓ad_s, ↓ad_l, ↓ad_t, ↓su_i, ↓mu_i, ↓mu_l, ↓mo_i, ↓fd_i, ↓pw_i, ↓an_i, ↓ci_i, ↓is_n, ↓is_nn, ↓in_t, ↓in_l, ↓in_s, ↓ix_l, ↓ix_t, ↓ix_s, ↓sl_l, ↓sl_t, ↓sl_s, ↓kn_i, ↓kp_i, ↓kr1, ↓kr2, ↓ke_l, ↓kz_l, ↓kz_t, ↓klr1, ↓klr2, ↓gt_e, ↓gt_w, ↓gs_n, ↓gs_c, ↓ltS_i, ↓ltS_s, ↓pChain3, ↓pRevL, ↓pEnumA, ↓kea_l, ↓kea_t, ↓pZipA, ↓kza_ll, ↓kza_lt, ↓kza_tl, ↓kza_tt, ↓pTR, ↓ktr_l, ↓ktr_t, ↓inA_t, ↓inA_l, ↓inA_s, ↓pDix, ↓pDNew, ↓gDsub, ↓pDc, ↓pDZip, ↓pSortSt, ↓dix_i, ↓dix_s, ↓din_i, ↓din_s, ↓kds_i, ↓kds_s, ↓of_od, ↓od_0, ↓od_1, ↓od_2, ↓od_3, ↓od_4, ↓od_5, ↓od_6, ↓od_7, ↓od_8, ↓od_9, ↓od_10, ↓od_11, ↓od_12, ↓od_13, nc_0, nc_1, nc_2, nc_3, nc_4, nc_5, nc_6, nc_7, nc_8, nc_9, nc_10, nc_11, nc_12, eq_ii, eq_ss, eq_nn, eq_bb, eq_st, eq_ts, eq_si, eq_is, eq_it, eq_ti, cmp_i, cmp_b, cmp_n, sc_i, sc_s, sc_b, sc_n, flat_i, flat_s, flat_b, flat_n, tru_n, tru_b, tru_i, tru_t, tru_l, items_t, items_l, len_t, len_l, len_w, iter_t, iter_l, iter_s, isN_n, isN_i, isN_s, isN_t, isN_l, isN_b, at_0, at_1, at_2, at_3, ib_tn, ib_tb, ib_ti, ib_ts, ib_tt, ib_tl, ib_sn, ib_sb, ib_si, ib_ss, ib_st, ib_sl, ib_in, ib_ib, ib_ii, ib_is, ib_it, ib_il, ib_bn, ib_bb, ib_bi, ib_bs, ib_bt, ib_bl, na_n, na_b, na_i, na_s, na_t, na_l, List.getElem?_cons_zero, List.getElem?_cons_succ, List.set_cons_zero, List.set_cons_succ, List.map_cons, List.map_nil, List.length_cons, List.length_nil, List.replicate_succ, List.replicate_zero, List.cons_append, List.nil_append, List.append_nil, List.isEmpty_nil, List.isEmpty_cons, List.cons.injEq, Option.some.injEq, T.int.injEq, T.str.injEq, T.bl.injEq, T.tup.injEq, T.lst.injEq, T.adr.injEq, Sl.fz.injEq, Sl.own.injEq, T.dct.injEq, T.wtp.injEq, exists_eq_left, exists_eq_left', exists_eq_right, exists_eq_right', exists_eq, exists_eq', exists_and_left, exists_and_right, exists_const, exists_false, and_true, true_and, and_false, false_and, or_true, true_or, or_false, false_or, not_true_eq_false, not_false_eq_true, if_true, if_false, ite_true, ite_false, Bool.not_true, Bool.not_false, Bool.true_or, Bool.or_true, Bool.false_or, Bool.or_false, Bool.true_and, Bool.and_true, Bool.false_and, Bool.and_false, Bool.false_eq_true, Bool.true_eq_false, eq_self, decide_eq_true_eq, decide_true, decide_false, Bool.decide_eq_true, Bool.not_eq_true, decide_eq_false_iff_not, Bool.and_eq_true, Bool.or_eq_true, Bool.not_eq_true', reduceCtorEq, ne_eq, Nat.le_refl, Nat.reduceAdd, Nat.reduceSub, Nat.reduceLeDiff, Nat.reduceLT, implies_true, forall_const, List.any_cons, List.any_nil, List.all_cons, List.all_nil, wipeP, restore, List.getD_eq_getElem?_getD, Option.getD_some, List.mem_singleton, forall_eq, Int.reduceLT, Int.reduceLE, Int.reduceNeg, Int.reduceSub, Int.reduceAdd, Int.reduceToNat, Int.reduceEq, Int.reduceNe, String.reduceEq, and_self, or_self]
      exact ⟨x, rfl, hk x hx, hC _ rfl⟩
    · refine ⟨l.map fun _ => true, by rw [List.map_map, List.map_map]; rfl, ?_⟩
      have : ((l.map fun _ => true).all id) = true := by rw [List.all_map]; exact List.all_eq_true.mpr fun _ _ => rfl
      rw [this]
      exact h
end
section
variable {P : Program} {w : World} {K : PySem.W.Frag} {mg : Str → Option Value} {base : Heap}
def pfBlk (d : Addr) : PSp := fun ts Φ => ts = [.adr d] ∧ ∀ ns : List Int, ns.length ≤ 250 → Φ (.tup (ns.map T.int)) false
theorem ok_block {d l : Addr} {m : Nat} {Ps : List Addr} {k : Nat}  (D : Df K mg "_law_block" s_block)
    (C_draw : CalQ P w K mg base (wt d l m Ps) "_law_draw" k ["_law_d", "_law_many"] (pDraw d)) (m_tuple : mg "tuple" = none) (m_range : mg "range" = none) :
    CalQ P w K mg base (wt d l m Ps) "_law_block" (k + 1) ["_law_d"] (pfBlk d) := by
  refine CalQ.mk D sc_block (fun _ _ _ _ _ _ us h => match us, h with | [_], _ => rfl) (fun ts Φ h => by obtain ⟨rfl, _⟩ := h; rfl) (fun f cdv A outer s H E hr => ?_)
  refine ⟨_, qss_cons (qs_set (i := 1) sc_block.nd rfl (.inl rfl) (qe_call C_draw (hr.mono (by omega)) (by rfl) (qa_cons (qe_name (pv 0)) (qa_cons qe_int qa_nil))))
    (qss_cons (qs_if (qt_cmp (oq_eq hr.units) (qe_call C_draw (hr.mono (by omega)) (by rfl) (qa_cons (qe_name (pv 0)) (qa_cons qe_int qa_nil))) qe_int (nomark _))
    (qss_one (qs_set (i := 1) sc_block.nd rfl (.inl rfl) qe_int))
    (qss_nil))
    (qss_one (qs_ret (qe_callTy cq_tuple (by rfl) m_tuple (by decide +kernel) (qa_cons (qe_lc rfl (own := [("_law_place", 2)]) sc_block.nd (by decide) (qi_range1 (by rfl) m_range (qe_name (pv 1))) (blkOk_by (N := ["_law_d", "_law_count", "_law_place"]) (sc := defScope s_block) (by decide +kernel)) (fun _ _ _ _ _ => (qg_name (pg_name (i := 2) sc_block.nd rfl (.inl rfl)))) (fun _ _ _ _ _ => qts_nil) (fun _ _ _ _ _ => (qe_call C_draw (hr.mono (by omega)) (by rfl) (qa_cons (qe_name (pv 0)) (qa_cons qe_int qa_nil))))) qa_nil))))), ?_⟩
  intro ts Φ h
  obtain ⟨rfl, h⟩ := h
  simp only [↓reduceIte, ↓sSeq, ↓sAsg, ↓sIf, ↓sRet, ↓sRetN, ↓sExpr, ↓sNext, ↓sBreak, ↓sCont, ↓sAug, ↓sFor, ↓gN, ↓pIx, ↓pC, ↓pTup, ↓pLst, ↓pCons, ↓pNil, ↓pStar, ↓pOp, ↓pTB, ↓pTru, ↓pTAnd, ↓pTOr, ↓pTNot, ↓pAndV, ↓pOrV, ↓pNotV, ↓pIf, ↓pCall, ↓pLen, ↓pIsi, ↓pDget, ↓gDset, ↓gSubT, ↓PEq, ↓PNe, ↓pChain, ↓pNeg, ↓pSl, ↓pNoPart, ↓pPart, ↓pIter, ↓pRng1, ↓pRng2, ↓pEnum, ↓pRev, ↓pZip, ↓pMet, ↓pMet0, ↓pMut, ↓pLc, ↓pLRng1, ↓pLRng2, ↓pYes, ↓pRE, ↓startP, ↓pWords, ↓pSplit, ↓pGen, ↓pSum, ↓pLenSt, ↓pDIx, ↓pCallV, ↓pCallM, ↓PInT, ↓gLt, ↓gLe, ↓gGt, ↓gGe, ↓pV_f0, ↓pV_o0, ↓pRV_f0, ↓pRV_o0, ↓lk_f0, ↓lk_o0, ↓sRV_f0, ↓sRV_o0, ↓pV_f1, ↓pV_o1, ↓pRV_f1, ↓pRV_o1, ↓lk_f1, ↓lk_o1, ↓sRV_f1, ↓sRV_o1, ↓pV_f2, ↓pV_o2, ↓pRV_f2, ↓pRV_o2, ↓lk_f2, ↓lk_o2, ↓sRV_f2, ↓sRV_o2, ↓pV_f3, ↓pV_o3, ↓pRV_f3, ↓pRV_o3, ↓lk_f3, ↓lk_o3, ↓sRV_f3, ↓sRV_o3, ↓pV_f4, ↓pV_o4, ↓pRV_f4, ↓pRV_o4, ↓lk_f4, ↓lk_o4, ↓sRV_f4, ↓sRV_o4, ↓pV_f5, ↓pV_o5, ↓pRV_f5, ↓pRV_o5, ↓lk_f5, ↓lk_o5, ↓sRV_f5, ↓sRV_o5, ↓pV_f6, ↓pV_o6, ↓pRV_f6, ↓pRV_o6, ↓lk_f6, ↓lk_o6, ↓sRV_f6, ↓sRV_o6, ↓pV_f7, ↓pV_o7, ↓pRV_f7, ↓pRV_o7, ↓lk_f7, ↓lk_o7, ↓sRV_f7, ↓sRV_o7, ↓pV_f8, ↓pV_o8, ↓pRV_f8, ↓pRV_o8, ↓lk_f8, ↓lk_o8, ↓sRV_f8, ↓sRV_o8, ↓pV_f9, ↓pV_o9, ↓pRV_f9, ↓pRV_o9, ↓lk_f9, ↓lk_o9, ↓sRV_f9, ↓sRV_o9, ↓pV_f10, ↓pV_o10, ↓pRV_f10, ↓pRV_o10, ↓lk_f10, ↓lk_o10, ↓sRV_f10, ↓sRV_o10, ↓pV_f11, ↓pV_o11, ↓pRV_f11, ↓pRV_o11, ↓lk_f11, ↓lk_o11, ↓sRV_f11, ↓sRV_o11, ↓pV_f12, ↓pV_o12, ↓pRV_f12, ↓pRV_o12, ↓lk_f12, ↓lk_o12, ↓sRV_f12, ↓sRV_o12, ↓pV_f13, ↓pV_o13, ↓pRV_f13, ↓pRV_o13, ↓lk_f13, ↓lk_o13, ↓sRV_f13, ↓sRV_o13, ↓lk_fz, ↓of_fn, ↓of_fb, ↓of_fi, ↓of_fs, ↓of_ft, ↓of_fl, ↓of_ol, ↓of_ff, ↓ad_i, ↓ad_s, ↓ad_l, ↓ad_t, ↓su_i, ↓mu_i, ↓mu_l, ↓mo_i, ↓fd_i, ↓pw_i, ↓an_i, ↓ci_i, ↓is_n, ↓is_nn, ↓in_t, ↓in_l, ↓in_s, ↓ix_l, ↓ix_t, ↓ix_s, ↓sl_l, ↓sl_t, ↓sl_s, ↓kn_i, ↓kp_i, ↓kr1, ↓kr2, ↓ke_l, ↓kz_l, ↓kz_t, ↓klr1, ↓klr2, ↓gt_e, ↓gt_w, ↓gs_n, ↓gs_c, ↓ltS_i, ↓ltS_s, ↓pChain3, ↓pRevL, ↓pEnumA, ↓kea_l, ↓kea_t, ↓pZipA, ↓kza_ll, ↓kza_lt, ↓kza_tl, ↓kza_tt, ↓pTR, ↓ktr_l, ↓ktr_t, ↓inA_t, ↓inA_l, ↓inA_s, ↓pDix, ↓pDNew, ↓gDsub, ↓pDc, ↓pDZip, ↓pSortSt, ↓dix_i, ↓dix_s, ↓din_i, ↓din_s, ↓kds_i, ↓kds_s, ↓of_od, ↓od_0, ↓od_1, ↓od_2, ↓od_3, ↓od_4, ↓od_5, ↓od_6, ↓od_7, ↓od_8, ↓od_9, ↓od_10, ↓od_11, ↓od_12, ↓od_13, nc_0, nc_1, nc_2, nc_3, nc_4, nc_5, nc_6, nc_7, nc_8, nc_9, nc_10, nc_11, nc_12, eq_ii, eq_ss, eq_nn, eq_bb, eq_st, eq_ts, eq_si, eq_is, eq_it, eq_ti, cmp_i, cmp_b, cmp_n, sc_i, sc_s, sc_b, sc_n, flat_i, flat_s, flat_b, flat_n, tru_n, tru_b, tru_i, tru_t, tru_l, items_t, items_l, len_t, len_l, len_w, iter_t, iter_l, iter_s, isN_n, isN_i, isN_s, isN_t, isN_l, isN_b, at_0, at_1, at_2, at_3, ib_tn, ib_tb, ib_ti, ib_ts, ib_tt, ib_tl, ib_sn, ib_sb, ib_si, ib_ss, ib_st, ib_sl, ib_in, ib_ib, ib_ii, ib_is, ib_it, ib_il, ib_bn, ib_bb, ib_bi, ib_bs, ib_bt, ib_bl, na_n, na_b, na_i, na_s, na_t, na_l, List.getElem?_cons_zero, List.getElem?_cons_succ, List.set_cons_zero, List.set_cons_succ, List.map_cons, List.map_nil, List.length_cons, List.length_nil, List.replicate_succ, List.replicate_zero, List.cons_append, List.nil_append, List.append_nil, List.isEmpty_nil, List.isEmpty_cons, List.cons.injEq, Option.some.injEq, T.int.injEq, T.str.injEq, T.bl.injEq, T.tup.injEq, T.lst.injEq, T.adr.injEq, Sl.fz.injEq, Sl.own.injEq, T.dct.injEq, T.wtp.injEq, exists_eq_left, exists_eq_left', exists_eq_right, exists_eq_right', exists_eq, exists_eq', exists_and_left, exists_and_right, exists_const, exists_false, and_true, true_and, and_false, false_and, or_true, true_or, or_false, false_or, not_true_eq_false, not_false_eq_true, if_true, if_false, ite_true, ite_false, Bool.not_true, Bool.not_false, Bool.true_or, Bool.or_true, Bool.false_or, Bool.or_false, Bool.true_and, Bool.and_true, Bool.false_and, Bool.and_false, Bool.false_eq_true, Bool.true_eq_false, eq_self, decide_eq_true_eq, decide_true, decide_false, Bool.decide_eq_true, Bool.not_eq_true, decide_eq_false_iff_not, Bool.and_eq_true, Bool.or_eq_true, Bool.not_eq_true', reduceCtorEq, ne_eq, Nat.le_refl, Nat.reduceAdd, Nat.reduceSub, Nat.reduceLeDiff, Nat.reduceLT, implies_true, forall_const, List.any_cons, List.any_nil, List.all_cons, List.all_nil, wipeP, restore, List.getD_eq_getElem?_getD, Option.getD_some, List.mem_singleton, forall_eq, Int.reduceLT, Int.reduceLE, Int.reduceNeg, Int.reduceSub, Int.reduceAdd, Int.reduceToNat, Int.reduceEq, Int.reduceNe, String.reduceEq, and_self, or_self]
  refine ⟨7, rfl, by decide, by decide, fun c c0 c1 => ?_⟩
  simp only [↓reduceIte, ↓sSeq, ↓sAsg, ↓sIf, ↓sRet, ↓sRetN, ↓sExpr, ↓sNext, ↓sBreak, ↓sCont, ↓sAug, ↓sFor, ↓gN, ↓pIx, ↓pC, ↓pTup, ↓pLst, ↓pCons, ↓pNil, ↓pStar, ↓pOp, ↓pTB, ↓pTru, ↓pTAnd, ↓pTOr, ↓pTNot, ↓pAndV, ↓pOrV, ↓pNotV, ↓pIf, ↓pCall, ↓pLen, ↓pIsi, ↓pDget, ↓gDset, ↓gSubT, ↓PEq, ↓PNe, ↓pChain, ↓pNeg, ↓pSl, ↓pNoPart, ↓pPart, ↓pIter, ↓pRng1, ↓pRng2, ↓pEnum, ↓pRev, ↓pZip, ↓pMet, ↓pMet0, ↓pMut, ↓pLc, ↓pLRng1, ↓pLRng2, ↓pYes, ↓pRE, ↓startP, ↓pWords, ↓pSplit, ↓pGen, ↓pSum, ↓pLenSt, ↓pDIx, ↓pCallV, ↓pCallM, ↓PInT, ↓gLt, ↓gLe, ↓gGt, ↓gGe, ↓pV_f0, ↓pV_o0, ↓pRV_f0, ↓pRV_o0, ↓lk_f0, ↓lk_o0, ↓sRV_f0, ↓sRV_o0, ↓pV_f1, ↓pV_o1, ↓pRV_f1, ↓pRV_o1, ↓lk_f1, ↓lk_o1, ↓sRV_f1, ↓sRV_o1, ↓pV_f2, ↓pV_o2, ↓pRV_f2, ↓pRV_o2, ↓lk_f2, ↓lk_o2, ↓sRV_f2, ↓sRV_o2, ↓pV_f3, ↓pV_o3, ↓pRV_f3, ↓pRV_o3, ↓lk_f3, ↓lk_o3, ↓sRV_f3, ↓sRV_o3, ↓pV_f4, ↓pV_o4, ↓pRV_f4, ↓pRV_o4, ↓lk_f4, ↓lk_o4, ↓sRV_f4, ↓sRV_o4, ↓pV_f5, ↓pV_o5, ↓pRV_f5, ↓pRV_o5, ↓lk_f5, ↓lk_o5, ↓sRV_f5, ↓sRV_o5, ↓pV_f6, ↓pV_o6, ↓pRV_f6, ↓pRV_o6, ↓lk_f6, ↓lk_o6, ↓sRV_f6, ↓sRV_o6, ↓pV_f7, ↓pV_o7, ↓pRV_f7, ↓pRV_o7, ↓lk_f7, ↓lk_o7, ↓sRV_f7, ↓sRV_o7, ↓pV_f8, ↓pV_o8, ↓pRV_f8, ↓pRV_o8, ↓lk_f8, ↓lk_o8, ↓sRV_f8, ↓sRV_o8, ↓pV_f9, ↓pV_o9, ↓pRV_f9, ↓pRV_o9, ↓lk_f9, ↓lk_o9, ↓sRV_f9, ↓sRV_o9, ↓pV_f10, ↓pV_o10, ↓pRV_f10, ↓pRV_o10, ↓lk_f10, ↓lk_o10, ↓sRV_f10, ↓sRV_o10, ↓pV_f11, ↓pV_o11, ↓pRV_f11, ↓pRV_o11, ↓lk_f11, ↓lk_o11, ↓sRV_f11, ↓sRV_o11, ↓pV_f12, ↓pV_o12, ↓pRV_f12, ↓pRV_o12, ↓lk_f12, ↓lk_o12, ↓sRV_f12, ↓sRV_o12, ↓pV_f13, ↓pV_o13, ↓pRV_f13, ↓pRV_o13, ↓lk_f13, ↓lk_o13, ↓sRV_f13, ↓sRV_o13, ↓lk_fz, ↓of_fn, ↓of_fb, ↓of_fi, ↓of_fs, ↓of_ft, ↓of_fl, ↓of_ol, ↓of_ff, ↓ad_i, ↓ad_s, ↓ad_l, ↓ad_t, ↓su_i, ↓mu_i, ↓mu_l, ↓mo_i, ↓fd_i, ↓pw_i, ↓an_i, ↓ci_i, ↓is_n, ↓is_nn, ↓in_t, ↓in_l, ↓in_s, ↓ix_l, ↓ix_t, ↓ix_s, ↓sl_l, ↓sl_t, ↓sl_s, ↓kn_i, ↓kp_i, ↓kr1, ↓kr2, ↓ke_l, ↓kz_l, ↓kz_t, ↓klr1, ↓klr2, ↓gt_e, ↓gt_w, ↓gs_n, ↓gs_c, ↓ltS_i, ↓ltS_s, ↓pChain3, ↓pRevL, ↓pEnumA, ↓kea_l, ↓kea_t, ↓pZipA, ↓kza_ll, ↓kza_lt, ↓kza_tl, ↓kza_tt, ↓pTR, ↓ktr_l, ↓ktr_t, ↓inA_t, ↓inA_l, ↓inA_s, ↓pDix, ↓pDNew, ↓gDsub, ↓pDc, ↓pDZip, ↓pSortSt, ↓dix_i, ↓dix_s, ↓din_i, ↓din_s, ↓kds_i, ↓kds_s, ↓of_od, ↓od_0, ↓od_1, ↓od_2, ↓od_3, ↓od_4, ↓od_5, ↓od_6, ↓od_7, ↓od_8, ↓od_9, ↓od_10, ↓od_11, ↓od_12, ↓od_13, nc_0, nc_1, nc_2, nc_3, nc_4, nc_5, nc_6, nc_7, nc_8, nc_9, nc_10, nc_11, nc_12, eq_ii, eq_ss, eq_nn, eq_bb, eq_st, eq_ts, eq_si, eq_is, eq_it, eq_ti, cmp_i, cmp_b, cmp_n, sc_i, sc_s, sc_b, sc_n, flat_i, flat_s, flat_b, flat_n, tru_n, tru_b, tru_i, tru_t, tru_l, items_t, items_l, len_t, len_l, len_w, iter_t, iter_l, iter_s, isN_n, isN_i, isN_s, isN_t, isN_l, isN_b, at_0, at_1, at_2, at_3, ib_tn, ib_tb, ib_ti, ib_ts, ib_tt, ib_tl, ib_sn, ib_sb, ib_si, ib_ss, ib_st, ib_sl, ib_in, ib_ib, ib_ii, ib_is, ib_it, ib_il, ib_bn, ib_bb, ib_bi, ib_bs, ib_bt, ib_bl, na_n, na_b, na_i, na_s, na_t, na_l, List.getElem?_cons_zero, List.getElem?_cons_succ, List.set_cons_zero, List.set_cons_succ, List.map_cons, List.map_nil, List.length_cons, List.length_nil, List.replicate_succ, List.replicate_zero, List.cons_append, List.nil_append, List.append_nil, List.isEmpty_nil, List.isEmpty_cons, List.cons.injEq, Option.some.injEq, T.int.injEq, T.str.injEq, T.bl.injEq, T.tup.injEq, T.lst.injEq, T.adr.injEq, Sl.fz.injEq, Sl.own.injEq, T.dct.injEq, T.wtp.injEq, exists_eq_left, exists_eq_left', exists_eq_right, exists_eq_right', exists_eq, exists_eq', exists_and_left, exists_and_right, exists_const, exists_false, and_true, true_and, and_false, false_and, or_true, true_or, or_false, false_or, not_true_eq_false, not_false_eq_true, if_true, if_false, ite_true, ite_false, Bool.not_true, Bool.not_false, Bool.true_or, Bool.or_true, Bool.false_or, Bool.or_false, Bool.true_and, Bool.and_true, Bool.false_and, Bool.and_false, Bool.false_eq_true, Bool.true_eq_false, eq_self, decide_eq_true_eq, decide_true, decide_false, Bool.decide_eq_true, Bool.not_eq_true, decide_eq_false_iff_not, Bool.and_eq_true, Bool.or_eq_true, Bool.not_eq_true', reduceCtorEq, ne_eq, Nat.le_refl, Nat.reduceAdd, Nat.reduceSub, Nat.reduceLeDiff, Nat.reduceLT, implies_true, forall_const, List.any_cons, List.any_nil, List.all_cons, List.all_nil, wipeP, restore, List.getD_eq_getElem?_getD, Option.getD_some, List.mem_singleton, forall_eq, Int.reduceLT, Int.reduceLE, Int.reduceNeg, Int.reduceSub, Int.reduceAdd, Int.reduceToNat, Int.reduceEq, Int.reduceNe, String.reduceEq, and_self, or_self]
  refine ⟨8, rfl, by decide, by decide, fun e e0 e1 => ?_⟩
  simp only [↓reduceIte, ↓sSeq, ↓sAsg, ↓sIf, ↓sRet, ↓sRetN, ↓sExpr, ↓sNext, ↓sBreak, ↓sCont, ↓sAug, ↓sFor, ↓gN, ↓pIx, ↓pC, ↓pTup, ↓pLst, ↓pCons, ↓pNil, ↓pStar, ↓pOp, ↓pTB, ↓pTru, ↓pTAnd, ↓pTOr, ↓pTNot, ↓pAndV, ↓pOrV, ↓pNotV, ↓pIf, ↓pCall, ↓pLen, ↓pIsi, ↓pDget, ↓gDset, ↓gSubT, ↓PEq, ↓PNe, ↓pChain, ↓pNeg, ↓pSl, ↓pNoPart, ↓pPart, ↓pIter, ↓pRng1, ↓pRng2, ↓pEnum, ↓pRev, ↓pZip, ↓pMet, ↓pMet0, ↓pMut, ↓pLc, ↓pLRng1, ↓pLRng2, ↓pYes, ↓pRE, ↓startP, ↓pWords, ↓pSplit, ↓pGen, ↓pSum, ↓pLenSt, ↓pDIx, ↓pCallV, ↓pCallM, ↓PInT, ↓gLt, ↓gLe, ↓gGt, ↓gGe, ↓pV_f0, ↓pV_o0, ↓pRV_f0, ↓pRV_o0, ↓lk_f0, ↓lk_o0, ↓sRV_f0, ↓sRV_o0, ↓pV_f1, ↓pV_o1, ↓pRV_f1, ↓pRV_o1, ↓lk_f1, ↓lk_o1, ↓sRV_f1, ↓sRV_o1, ↓pV_f2, ↓pV_o2, ↓pRV_f2, ↓pRV_o2, ↓lk_f2, ↓lk_o2, ↓sRV_f2, ↓sRV_o2, ↓pV_f3, ↓pV_o3, ↓pRV_f3, ↓pRV_o3, ↓lk_f3, ↓lk_o3, ↓sRV_f3, ↓sRV_o3, ↓pV_f4, ↓pV_o4, ↓pRV_f4, ↓pRV_o4, ↓lk_f4, ↓lk_o4, ↓sRV_f4, ↓sRV_o4, ↓pV_f5, ↓pV_o5, ↓pRV_f5, ↓pRV_o5, ↓lk_f5, ↓lk_o5, ↓sRV_f5, ↓sRV_o5, ↓pV_f6, ↓pV_o6, ↓pRV_f6, ↓pRV_o6, ↓lk_f6, ↓lk_o6, ↓sRV_f6, ↓sRV_o6, ↓pV_f7, ↓pV_o7, ↓pRV_f7, ↓pRV_o7, ↓lk_f7, ↓lk_o7, ↓sRV_f7, ↓sRV_o7, ↓pV_f8, ↓pV_o8, ↓pRV_f8, ↓pRV_o8, ↓lk_f8, ↓lk_o8, ↓sRV_f8, ↓sRV_o8, ↓pV_f9, ↓pV_o9, ↓pRV_f9, ↓pRV_o9, ↓lk_f9, ↓lk_o9, ↓sRV_f9, ↓sRV_o9, ↓pV_f10, ↓pV_o10, ↓pRV_f10, ↓pRV_o10, ↓lk_f10, ↓lk_o10, ↓sRV_f10, ↓sRV_o10, ↓pV_f11, ↓pV_o11, ↓pRV_f11, ↓pRV_o11, ↓lk_f11, ↓lk_o11, ↓sRV_f11, ↓sRV_o11, ↓pV_f12, ↓pV_o12, ↓pRV_f12, ↓pRV_o12, ↓lk_f12, ↓lk_o12, ↓sRV_f12, ↓sRV_o12, ↓pV_f13, ↓pV_o13, ↓pRV_f13, ↓pRV_o13, ↓lk_f13, ↓lk_o13, ↓sRV_f13, ↓sRV_o13, ↓lk_fz, ↓of_fn, ↓of_fb, ↓of_fi, ↓of_fs, ↓of_ft, ↓of_fl, ↓of_ol, ↓of_ff, ↓ad_i, ↓ad_s, ↓ad_l, ↓ad_t, ↓su_i, ↓mu_i, ↓mu_l, ↓mo_i, ↓fd_i, ↓pw_i, ↓an_i, ↓ci_i, ↓is_n, ↓is_nn, ↓in_t, ↓in_l, ↓in_s, ↓ix_l, ↓ix_t, ↓ix_s, ↓sl_l, ↓sl_t, ↓sl_s, ↓kn_i, ↓kp_i, ↓kr1, ↓kr2, ↓ke_l, ↓kz_l, ↓kz_t, ↓klr1, ↓klr2, ↓gt_e, ↓gt_w, ↓gs_n, ↓gs_c, ↓ltS_i, ↓ltS_s, ↓pChain3, ↓pRevL, ↓pEnumA, ↓kea_l, ↓kea_t, ↓pZipA, ↓kza_ll, ↓kza_lt, ↓kza_tl, ↓kza_tt, ↓pTR, ↓ktr_l, ↓ktr_t, ↓inA_t, ↓inA_l, ↓inA_s, ↓pDix, ↓pDNew, ↓gDsub, ↓pDc, ↓pDZip, ↓pSortSt, ↓dix_i, ↓dix_s, ↓din_i, ↓din_s, ↓kds_i, ↓kds_s, ↓of_od, ↓od_0, ↓od_1, ↓od_2, ↓od_3, ↓od_4, ↓od_5, ↓od_6, ↓od_7, ↓od_8, ↓od_9, ↓od_10, ↓od_11, ↓od_12, ↓od_13, nc_0, nc_1, nc_2, nc_3, nc_4, nc_5, nc_6, nc_7, nc_8, nc_9, nc_10, nc_11, nc_12, eq_ii, eq_ss, eq_nn, eq_bb, eq_st, eq_ts, eq_si, eq_is, eq_it, eq_ti, cmp_i, cmp_b, cmp_n, sc_i, sc_s, sc_b, sc_n, flat_i, flat_s, flat_b, flat_n, tru_n, tru_b, tru_i, tru_t, tru_l, items_t, items_l, len_t, len_l, len_w, iter_t, iter_l, iter_s, isN_n, isN_i, isN_s, isN_t, isN_l, isN_b, at_0, at_1, at_2, at_3, ib_tn, ib_tb, ib_ti, ib_ts, ib_tt, ib_tl, ib_sn, ib_sb, ib_si, ib_ss, ib_st, ib_sl, ib_in, ib_ib, ib_ii, ib_is, ib_it, ib_il, ib_bn, ib_bb, ib_bi, ib_bs, ib_bt, ib_bl, na_n, na_b, na_i, na_s, na_t, na_l, List.getElem?_cons_zero, List.getElem?_cons_succ, List.set_cons_zero, List.set_cons_succ, List.map_cons, List.map_nil, List.length_cons, List.length_nil, List.replicate_succ, List.replicate_zero, List.cons_append, List.nil_append, List.append_nil, List.isEmpty_nil, List.isEmpty_cons, List.cons.injEq, Option.some.injEq, T.int.injEq, T.str.injEq, T.bl.injEq, T.tup.injEq, T.lst.injEq, T.adr.injEq, Sl.fz.injEq, Sl.own.injEq, T.dct.injEq, T.wtp.injEq, exists_eq_left, exists_eq_left', exists_eq_right, exists_eq_right', exists_eq, exists_eq', exists_and_left, exists_and_right, exists_const, exists_false, and_true, true_and, and_false, false_and, or_true, true_or, or_false, false_or, not_true_eq_false, not_false_eq_true, if_true, if_false, ite_true, ite_false, Bool.not_true, Bool.not_false, Bool.true_or, Bool.or_true, Bool.false_or, Bool.or_false, Bool.true_and, Bool.and_true, Bool.false_and, Bool.and_false, Bool.false_eq_true, Bool.true_eq_false, eq_self, decide_eq_true_eq, decide_true, decide_false, Bool.decide_eq_true, Bool.not_eq_true, decide_eq_false_iff_not, Bool.and_eq_true, Bool.or_eq_true, Bool.not_eq_true', reduceCtorEq, ne_eq, Nat.le_refl, Nat.reduceAdd, Nat.reduceSub, Nat.reduceLeDiff, Nat.reduceLT, implies_true, forall_const, List.any_cons, List.any_nil, List.all_cons, List.all_nil, wipeP, restore, List.getD_eq_getElem?_getD, Option.getD_some, List.mem_singleton, forall_eq, Int.reduceLT, Int.reduceLE, Int.reduceNeg, Int.reduceSub, Int.reduceAdd, Int.reduceToNat, Int.reduceEq, Int.reduceNe, String.reduceEq, and_self, or_self]
  have iall : ∀ (n : Nat) (ys : List T), ys.length = (rngT 0 n).length → (∀ (i : Nat) (t y : T), (rngT 0 n)[i]? = some t → ys[i]? = some y → ∃ v : Int, y = .int v) → ∃ ns : List Int, ys = ns.map T.int ∧ ns.length = n := fun n ys e h => by
    have hl : (rngT 0 n).length = n := by simp [rngT]
    refine ⟨ys.map fun y => match y with | .int v => v | _ => 0, ?_, by rw [List.length_map, e, hl]⟩
    rw [List.map_map]
    refine (List.map_id ys).symm.trans (List.map_congr_left fun y hy => ?_)
    obtain ⟨i, hi, rfl⟩ := List.mem_iff_getElem.mp hy
    have hi2 : i < (rngT 0 n).length := by omega
    obtain ⟨v, ev⟩ := h i _ _ (List.getElem?_eq_getElem hi2) (List.getElem?_eq_getElem hi)
    rw [ev]
    rfl
  split
  · refine ⟨by decide, by decide, ?_⟩
    refine lckT_rel (fun t y => ∃ v : Int, y = .int v) (by simp [rngT]) (now1 rfl) (fun t C D ht hC => ?_) fun ys y1 y2 => ?_
    · simp only [↓reduceIte, ↓sSeq, ↓sAsg, ↓sIf, ↓sRet, ↓sRetN, ↓sExpr, ↓sNext, ↓sBreak, ↓sCont, ↓sAug, ↓sFor, ↓gN, ↓pIx, ↓pC, ↓pTup, ↓pLst, ↓pCons, ↓pNil, ↓pStar, ↓pOp, ↓pTB, ↓pTru, ↓pTAnd, ↓pTOr, ↓pTNot, ↓pAndV, ↓pOrV, ↓pNotV, ↓pIf, ↓pCall, ↓pLen, ↓pIsi, ↓pDget, ↓gDset, ↓gSubT, ↓PEq, ↓PNe, ↓pChain, ↓pNeg, ↓pSl, ↓pNoPart, ↓pPart, ↓pIter, ↓pRng1, ↓pRng2, ↓pEnum, ↓pRev, ↓pZip, ↓pMet, ↓pMet0, ↓pMut, ↓pLc, ↓pLRng1, ↓pLRng2, ↓pYes, ↓pRE, ↓startP, ↓pWords, ↓pSplit, ↓pGen, ↓pSum, ↓pLenSt, ↓pDIx, ↓pCallV, ↓pCallM, ↓PInT, ↓gLt, ↓gLe, ↓gGt, ↓gGe, ↓pV_f0, ↓pV_o0, ↓pRV_f0, ↓pRV_o0, ↓lk_f0, ↓lk_o0, ↓sRV_f0, ↓sRV_o0, ↓pV_f1, ↓pV_o1, ↓pRV_f1, ↓pRV_o1, ↓lk_f1, ↓lk_o1, ↓sRV_f1, ↓sRV_o1, ↓pV_f2, ↓pV_o2, ↓pRV_f2, ↓pRV_o2, ↓lk_f2, ↓lk_o2, ↓sRV_f2, ↓sRV_o2, ↓pV_f3, ↓pV_o3, ↓pRV_f3, ↓pRV_o3, ↓lk_f3, ↓lk_o3, ↓sRV_f3, ↓sRV_o3, ↓pV_f4, ↓pV_o4, ↓pRV_f4, ↓pRV_o4, ↓lk_f4, ↓lk_o4, ↓sRV_f4, ↓sRV_o4, ↓pV_f5, ↓pV_o5, ↓pRV_f5, ↓pRV_o5, ↓lk_f5, ↓lk_o5, ↓sRV_f5, ↓sRV_o5, ↓pV_f6, ↓pV_o6, ↓pRV_f6, ↓pRV_o6, ↓lk_f6, ↓lk_o6, ↓sRV_f6, ↓sRV_o6, ↓pV_f7, ↓pV_o7, ↓pRV_f7, ↓pRV_o7, ↓lk_f7, ↓lk_o7, ↓sRV_f7, ↓sRV_o7, ↓pV_f8, ↓pV_o8, ↓pRV_f8, ↓pRV_o8, ↓lk_f8, ↓lk_o8, ↓sRV_f8, ↓sRV_o8, ↓pV_f9, ↓pV_o9, ↓pRV_f9, ↓pRV_o9, ↓lk_f9, ↓lk_o9, ↓sRV_f9, ↓sRV_o9, ↓pV_f10, ↓pV_o10, ↓pRV_f10, ↓pRV_o10, ↓lk_f10, ↓lk_o10, ↓sRV_f10, ↓sRV_o10, ↓pV_f11, ↓pV_o11, ↓pRV_f11, ↓pRV_o11, ↓lk_f11, ↓lk_o11, ↓sRV_f11, ↓sRV_o11, ↓pV_f12, ↓pV_o12, ↓pRV_f12, ↓pRV_o12, ↓lk_f12, ↓lk_o12, ↓sRV_f12, ↓sRV_o12, ↓pV_f13, ↓pV_o13, ↓pRV_f13, ↓pRV_o13, ↓lk_f13, ↓lk_o13, ↓sRV_f13, ↓sRV_o13, ↓lk_fz, ↓of_fn, ↓of_fb, ↓of_fi, ↓of_fs, ↓of_ft, ↓of_fl, ↓of_ol, ↓of_ff, ↓ad_i, ↓ad_s, ↓ad_l, ↓ad_t, ↓su_i, ↓mu_i, ↓mu_l, ↓mo_i, ↓fd_i, ↓pw_i, ↓an_i, ↓ci_i, ↓is_n, ↓is_nn, ↓in_t, ↓in_l, ↓in_s, ↓ix_l, ↓ix_t, ↓ix_s, ↓sl_l, ↓sl_t, ↓sl_s, ↓kn_i, ↓kp_i, ↓kr1, ↓kr2, ↓ke_l, ↓kz_l, ↓kz_t, ↓klr1, ↓klr2, ↓gt_e, ↓gt_w, ↓gs_n, ↓gs_c, ↓ltS_i, ↓ltS_s, ↓pChain3, ↓pRevL, ↓pEnumA, ↓kea_l, ↓kea_t, ↓pZipA, ↓kza_ll, ↓kza_lt, ↓kza_tl, ↓kza_tt, ↓pTR, ↓ktr_l, ↓ktr_t, ↓inA_t, ↓inA_l, ↓inA_s, ↓pDix, ↓pDNew, ↓gDsub, ↓pDc, ↓pDZip, ↓pSortSt, ↓dix_i, ↓dix_s, ↓din_i, ↓din_s, ↓kds_i, ↓kds_s, ↓of_od, ↓od_0, ↓od_1, ↓od_2, ↓od_3, ↓od_4, ↓od_5, ↓od_6, ↓od_7, ↓od_8, ↓od_9, ↓od_10, ↓od_11, ↓od_12, ↓od_13, nc_0, nc_1, nc_2, nc_3, nc_4, nc_5, nc_6, nc_7, nc_8, nc_9, nc_10, nc_11, nc_12, eq_ii, eq_ss, eq_nn, eq_bb, eq_st, eq_ts, eq_si, eq_is, eq_it, eq_ti, cmp_i, cmp_b, cmp_n, sc_i, sc_s, sc_b, sc_n, flat_i, flat_s, flat_b, flat_n, tru_n, tru_b, tru_i, tru_t, tru_l, items_t, items_l, len_t, len_l, len_w, iter_t, iter_l, iter_s, isN_n, isN_i, isN_s, isN_t, isN_l, isN_b, at_0, at_1, at_2, at_3, ib_tn, ib_tb, ib_ti, ib_ts, ib_tt, ib_tl, ib_sn, ib_sb, ib_si, ib_ss, ib_st, ib_sl, ib_in, ib_ib, ib_ii, ib_is, ib_it, ib_il, ib_bn, ib_bb, ib_bi, ib_bs, ib_bt, ib_bl, na_n, na_b, na_i, na_s, na_t, na_l, List.getElem?_cons_zero, List.getElem?_cons_succ, List.set_cons_zero, List.set_cons_succ, List.map_cons, List.map_nil, List.length_cons, List.length_nil, List.replicate_succ, List.replicate_zero, List.cons_append, List.nil_append, List.append_nil, List.isEmpty_nil, List.isEmpty_cons, List.cons.injEq, Option.some.injEq, T.int.injEq, T.str.injEq, T.bl.injEq, T.tup.injEq, T.lst.injEq, T.adr.injEq, Sl.fz.injEq, Sl.own.injEq, T.dct.injEq, T.wtp.injEq, exists_eq_left, exists_eq_left', exists_eq_right, exists_eq_right', exists_eq, exists_eq', exists_and_left, exists_and_right, exists_const, exists_false, and_true, true_and, and_false, false_and, or_true, true_or, or_false, false_or, not_true_eq_false, not_false_eq_true, if_true, if_false, ite_true, ite_false, Bool.not_true, Bool.not_false, Bool.true_or, Bool.or_true, Bool.false_or, Bool.or_false, Bool.true_and, Bool.and_true, Bool.false_and, Bool.and_false, Bool.false_eq_true, Bool.true_eq_false, eq_self, decide_eq_true_eq, decide_true, decide_false, Bool.decide_eq_true, Bool.not_eq_true, decide_eq_false_iff_not, Bool.and_eq_true, Bool.or_eq_true, Bool.not_eq_true', reduceCtorEq, ne_eq, Nat.le_refl, Nat.reduceAdd, Nat.reduceSub, Nat.reduceLeDiff, Nat.reduceLT, implies_true, forall_const, List.any_cons, List.any_nil, List.all_cons, List.all_nil, wipeP, restore, List.getD_eq_getElem?_getD, Option.getD_some, List.mem_singleton, forall_eq, Int.reduceLT, Int.reduceLE, Int.reduceNeg, Int.reduceSub, Int.reduceAdd, Int.reduceToNat, Int.reduceEq, Int.reduceNe, String.reduceEq, and_self, or_self]
      exact ⟨256, rfl, by decide, by decide, fun v _ _ => hC _ _ ⟨v, rfl⟩ rfl⟩
    · obtain ⟨ns, rfl, hn⟩ := iall 250 ys y1 y2
      simp only [↓reduceIte, ↓sSeq, ↓sAsg, ↓sIf, ↓sRet, ↓sRetN, ↓sExpr, ↓sNext, ↓sBreak, ↓sCont, ↓sAug, ↓sFor, ↓gN, ↓pIx, ↓pC, ↓pTup, ↓pLst, ↓pCons, ↓pNil, ↓pStar, ↓pOp, ↓pTB, ↓pTru, ↓pTAnd, ↓pTOr, ↓pTNot, ↓pAndV, ↓pOrV, ↓pNotV, ↓pIf, ↓pCall, ↓pLen, ↓pIsi, ↓pDget, ↓gDset, ↓gSubT, ↓PEq, ↓PNe, ↓pChain, ↓pNeg, ↓pSl, ↓pNoPart, ↓pPart, ↓pIter, ↓pRng1, ↓pRng2, ↓pEnum, ↓pRev, ↓pZip, ↓pMet, ↓pMet0, ↓pMut, ↓pLc, ↓pLRng1, ↓pLRng2, ↓pYes, ↓pRE, ↓startP, ↓pWords, ↓pSplit, ↓pGen, ↓pSum, ↓pLenSt, ↓pDIx, ↓pCallV, ↓pCallM, ↓PInT, ↓gLt, ↓gLe, ↓gGt, ↓gGe, ↓pV_f0, ↓pV_o0, ↓pRV_f0, ↓pRV_o0, ↓lk_f0, ↓lk_o0, ↓sRV_f0, ↓sRV_o0, ↓pV_f1, ↓pV_o1, ↓pRV_f1, ↓pRV_o1, ↓lk_f1, ↓lk_o1, ↓sRV_f1, ↓sRV_o1, ↓pV_f2, ↓pV_o2, ↓pRV_f2, ↓pRV_o2, ↓lk_f2, ↓lk_o2, ↓sRV_f2, ↓sRV_o2, ↓pV_f3, ↓pV_o3, ↓pRV_f3, ↓pRV_o3, ↓lk_f3, ↓lk_o3, ↓sRV_f3, ↓sRV_o3, ↓pV_f4, ↓pV_o4, ↓pRV_f4, ↓pRV_o4, ↓lk_f4, ↓lk_o4, ↓sRV_f4, ↓sRV_o4, ↓pV_f5, ↓pV_o5, ↓pRV_f5, ↓pRV_o5, ↓lk_f5, ↓lk_o5, ↓sRV_f5, ↓sRV_o5, ↓pV_f6, ↓pV_o6, ↓pRV_f6, ↓pRV_o6, ↓lk_f6, ↓lk_o6, ↓sRV_f6, ↓sRV_o6, ↓pV_f7, ↓pV_o7, ↓pRV_f7, ↓pRV_o7, ↓lk_f7, ↓lk_o7, ↓sRV_f7, ↓sRV_o7, ↓pV_f8, ↓pV_o8, ↓pRV_f8, ↓pRV_o8, ↓lk_f8, ↓lk_o8, ↓sRV_f8, ↓sRV_o8, ↓pV_f9, ↓pV_o9, ↓pRV_f9, ↓pRV_o9, ↓lk_f9, ↓lk_o9, ↓sRV_f9, ↓sRV_o9, ↓pV_f10, ↓pV_o10, ↓pRV_f10, ↓pRV_o10, ↓lk_f10, ↓lk_o10, ↓sRV_f10, ↓sRV_o10, ↓pV_f11, ↓pV_o11, ↓pRV_f11, ↓pRV_o11, ↓lk_f11, ↓lk_o11, ↓sRV_f11, ↓sRV_o11, ↓pV_f12, ↓pV_o12, ↓pRV_f12, ↓pRV_o12, ↓lk_f12, ↓lk_o12, ↓sRV_f12, ↓sRV_o12, ↓pV_f13, ↓pV_o13, ↓pRV_f13, ↓pRV_o13, ↓lk_f13, ↓lk_o13, ↓sRV_f13, ↓sRV_o13, ↓lk_fz, ↓of_fn, ↓of_fb, ↓of_fi, ↓of_fs, ↓of_ft, ↓of_fl, ↓of_ol, ↓of_ff, ↓ad_i, ↓ad_s, ↓ad_l, ↓ad_t, ↓su_i, ↓mu_i, ↓mu_l, ↓mo_i, ↓fd_i, ↓pw_i, ↓an_i, ↓ci_i, ↓is_n, ↓is_nn, ↓in_t, ↓in_l, ↓in_s, ↓ix_l, ↓ix_t, ↓ix_s, ↓sl_l, ↓sl_t, ↓sl_s, ↓kn_i, ↓kp_i, ↓kr1, ↓kr2, ↓ke_l, ↓kz_l, ↓kz_t, ↓klr1, ↓klr2, ↓gt_e, ↓gt_w, ↓gs_n, ↓gs_c, ↓ltS_i, ↓ltS_s, ↓pChain3, ↓pRevL, ↓pEnumA, ↓kea_l, ↓kea_t, ↓pZipA, ↓kza_ll, ↓kza_lt, ↓kza_tl, ↓kza_tt, ↓pTR, ↓ktr_l, ↓ktr_t, ↓inA_t, ↓inA_l, ↓inA_s, ↓pDix, ↓pDNew, ↓gDsub, ↓pDc, ↓pDZip, ↓pSortSt, ↓dix_i, ↓dix_s, ↓din_i, ↓din_s, ↓kds_i, ↓kds_s, ↓of_od, ↓od_0, ↓od_1, ↓od_2, ↓od_3, ↓od_4, ↓od_5, ↓od_6, ↓od_7, ↓od_8, ↓od_9, ↓od_10, ↓od_11, ↓od_12, ↓od_13, nc_0, nc_1, nc_2, nc_3, nc_4, nc_5, nc_6, nc_7, nc_8, nc_9, nc_10, nc_11, nc_12, eq_ii, eq_ss, eq_nn, eq_bb, eq_st, eq_ts, eq_si, eq_is, eq_it, eq_ti, cmp_i, cmp_b, cmp_n, sc_i, sc_s, sc_b, sc_n, flat_i, flat_s, flat_b, flat_n, tru_n, tru_b, tru_i, tru_t, tru_l, items_t, items_l, len_t, len_l, len_w, iter_t, iter_l, iter_s, isN_n, isN_i, isN_s, isN_t, isN_l, isN_b, at_0, at_1, at_2, at_3, ib_tn, ib_tb, ib_ti, ib_ts, ib_tt, ib_tl, ib_sn, ib_sb, ib_si, ib_ss, ib_st, ib_sl, ib_in, ib_ib, ib_ii, ib_is, ib_it, ib_il, ib_bn, ib_bb, ib_bi, ib_bs, ib_bt, ib_bl, na_n, na_b, na_i, na_s, na_t, na_l, List.getElem?_cons_zero, List.getElem?_cons_succ, List.set_cons_zero, List.set_cons_succ, List.map_cons, List.map_nil, List.length_cons, List.length_nil, List.replicate_succ, List.replicate_zero, List.cons_append, List.nil_append, List.append_nil, List.isEmpty_nil, List.isEmpty_cons, List.cons.injEq, Option.some.injEq, T.int.injEq, T.str.injEq, T.bl.injEq, T.tup.injEq, T.lst.injEq, T.adr.injEq, Sl.fz.injEq, Sl.own.injEq, T.dct.injEq, T.wtp.injEq, exists_eq_left, exists_eq_left', exists_eq_right, exists_eq_right', exists_eq, exists_eq', exists_and_left, exists_and_right, exists_const, exists_false, and_true, true_and, and_false, false_and, or_true, true_or, or_false, false_or, not_true_eq_false, not_false_eq_true, if_true, if_false, ite_true, ite_false, Bool.not_true, Bool.not_false, Bool.true_or, Bool.or_true, Bool.false_or, Bool.or_false, Bool.true_and, Bool.and_true, Bool.false_and, Bool.and_false, Bool.false_eq_true, Bool.true_eq_false, eq_self, decide_eq_true_eq, decide_true, decide_false, Bool.decide_eq_true, Bool.not_eq_true, decide_eq_false_iff_not, Bool.and_eq_true, Bool.or_eq_true, Bool.not_eq_true', reduceCtorEq, ne_eq, Nat.le_refl, Nat.reduceAdd, Nat.reduceSub, Nat.reduceLeDiff, Nat.reduceLT, implies_true, forall_const, List.any_cons, List.any_nil, List.all_cons, List.all_nil, wipeP, restore, List.getD_eq_getElem?_getD, Option.getD_some, List.mem_singleton, forall_eq, Int.reduceLT, Int.reduceLE, Int.reduceNeg, Int.reduceSub, Int.reduceAdd, Int.reduceToNat, Int.reduceEq, Int.reduceNe, String.reduceEq, and_self, or_self]
      exact h ns (by omega)
  · obtain ⟨c', rfl⟩ := Int.eq_ofNat_of_zero_le c0
    refine ⟨by omega, by omega, ?_⟩
    refine lckT_rel (fun t y => ∃ v : Int, y = .int v) (by simp [rngT]; omega) (now1 rfl) (fun t C D ht hC => ?_) fun ys y1 y2 => ?_
    · simp only [↓reduceIte, ↓sSeq, ↓sAsg, ↓sIf, ↓sRet, ↓sRetN, ↓sExpr, ↓sNext, ↓sBreak, ↓sCont, ↓sAug, ↓sFor, ↓gN, ↓pIx, ↓pC, ↓pTup, ↓pLst, ↓pCons, ↓pNil, ↓pStar, ↓pOp, ↓pTB, ↓pTru, ↓pTAnd, ↓pTOr, ↓pTNot, ↓pAndV, ↓pOrV, ↓pNotV, ↓pIf, ↓pCall, ↓pLen, ↓pIsi, ↓pDget, ↓gDset, ↓gSubT, ↓PEq, ↓PNe, ↓pChain, ↓pNeg, ↓pSl, ↓pNoPart, ↓pPart, ↓pIter, ↓pRng1, ↓pRng2, ↓pEnum, ↓pRev, ↓pZip, ↓pMet, ↓pMet0, ↓pMut, ↓pLc, ↓pLRng1, ↓pLRng2, ↓pYes, ↓pRE, ↓startP, ↓pWords, ↓pSplit, ↓pGen, ↓pSum, ↓pLenSt, ↓pDIx, ↓pCallV, ↓pCallM, ↓PInT, ↓gLt, ↓gLe, ↓gGt, ↓gGe, ↓pV_f0, ↓pV_o0, ↓pRV_f0, ↓pRV_o0, ↓lk_f0, ↓lk_o0, ↓sRV_f0, ↓sRV_o0, ↓pV_f1, ↓pV_o1, ↓pRV_f1, ↓pRV_o1, ↓lk_f1, ↓lk_o1, ↓sRV_f1, ↓sRV_o1, ↓pV_f2, ↓pV_o2, ↓pRV_f2, ↓pRV_o2, ↓lk_f2, ↓lk_o2, ↓sRV_f2, ↓sRV_o2, ↓pV_f3, ↓pV_o3, ↓pRV_f3, ↓pRV_o3, ↓lk_f3, ↓lk_o3, ↓sRV_f3, ↓sRV_o3, ↓pV_f4, ↓pV_o4, ↓pRV_f4, ↓pRV_o4, ↓lk_f4, ↓lk_o4, ↓sRV_f4, ↓sRV_o4, ↓pV_f5, ↓pV_o5, ↓pRV_f5, ↓pRV_o5, ↓lk_f5, ↓lk_o5, ↓sRV_f5, ↓sRV_o5, ↓pV_f6, ↓pV_o6, ↓pRV_f6, ↓pRV_o6, ↓lk_f6, ↓lk_o6, ↓sRV_f6, ↓sRV_o6, ↓pV_f7, ↓pV_o7, ↓pRV_f7, ↓pRV_o7, ↓lk_f7, ↓lk_o7, ↓sRV_f7, ↓sRV_o7, ↓pV_f8, ↓pV_o8, ↓pRV_f8, ↓pRV_o8, ↓lk_f8, ↓lk_o8, ↓sRV_f8, ↓sRV_o8, ↓pV_f9, ↓pV_o9, ↓pRV_f9, ↓pRV_o9, ↓lk_f9, ↓lk_o9, ↓sRV_f9, ↓sRV_o9, ↓pV_f10, ↓pV_o10, ↓pRV_f10, ↓pRV_o10, ↓lk_f10, ↓lk_o10, ↓sRV_f10, ↓sRV_o10, ↓pV_f11, ↓pV_o11, ↓pRV_f11, ↓pRV_o11, ↓lk_f11, ↓lk_o11, ↓sRV_f11, ↓sRV_o11, ↓pV_f12, ↓pV_o12, ↓pRV_f12, ↓pRV_o12, ↓lk_f12, ↓lk_o12, ↓sRV_f12, ↓sRV_o12, ↓pV_f13, ↓pV_o13, ↓pRV_f13, ↓pRV_o13, ↓lk_f13, ↓lk_o13, ↓sRV_f13, ↓sRV_o13, ↓lk_fz, ↓of_fn, ↓of_fb, ↓of_fi, ↓of_fs, ↓of_ft, ↓of_fl, ↓of_ol, ↓of_ff, ↓ad_i, ↓ad_s, ↓ad_l, ↓ad_t, ↓su_i, ↓mu_i, ↓mu_l, ↓mo_i, ↓fd_i, ↓pw_i, ↓an_i, ↓ci_i, ↓is_n, ↓is_nn, ↓in_t, ↓in_l, ↓in_s, ↓ix_l, ↓ix_t, ↓ix_s, ↓sl_l, ↓sl_t, ↓sl_s, ↓kn_i, ↓kp_i, ↓kr1, ↓kr2, ↓ke_l, ↓kz_l, ↓kz_t, ↓klr1, ↓klr2, ↓gt_e, ↓gt_w, ↓gs_n, ↓gs_c, ↓ltS_i, ↓ltS_s, ↓pChain3, ↓pRevL, ↓pEnumA, ↓kea_l, ↓kea_t, ↓pZipA, ↓kza_ll, ↓kza_lt, ↓kza_tl, ↓kza_tt, ↓pTR, ↓ktr_l, ↓ktr_t, ↓inA_t, ↓inA_l, ↓inA_s, ↓pDix, ↓pDNew, ↓gDsub, ↓pDc, ↓pDZip, ↓pSortSt, ↓dix_i, ↓dix_s, ↓din_i, ↓din_s, ↓kds_i, ↓kds_s, ↓of_od, ↓od_0, ↓od_1, ↓od_2, ↓od_3, ↓od_4, ↓od_5, ↓od_6, ↓od_7, ↓od_8, ↓od_9, ↓od_10, ↓od_11, ↓od_12, ↓od_13, nc_0, nc_1, nc_2, nc_3, nc_4, nc_5, nc_6, nc_7, nc_8, nc_9, nc_10, nc_11, nc_12, eq_ii, eq_ss, eq_nn, eq_bb, eq_st, eq_ts, eq_si, eq_is, eq_it, eq_ti, cmp_i, cmp_b, cmp_n, sc_i, sc_s, sc_b, sc_n, flat_i, flat_s, flat_b, flat_n, tru_n, tru_b, tru_i, tru_t, tru_l, items_t, items_l, len_t, len_l, len_w, iter_t, iter_l, iter_s, isN_n, isN_i, isN_s, isN_t, isN_l, isN_b, at_0, at_1, at_2, at_3, ib_tn, ib_tb, ib_ti, ib_ts, ib_tt, ib_tl, ib_sn, ib_sb, ib_si, ib_ss, ib_st, ib_sl, ib_in, ib_ib, ib_ii, ib_is, ib_it, ib_il, ib_bn, ib_bb, ib_bi, ib_bs, ib_bt, ib_bl, na_n, na_b, na_i, na_s, na_t, na_l, List.getElem?_cons_zero, List.getElem?_cons_succ, List.set_cons_zero, List.set_cons_succ, List.map_cons, List.map_nil, List.length_cons, List.length_nil, List.replicate_succ, List.replicate_zero, List.cons_append, List.nil_append, List.append_nil, List.isEmpty_nil, List.isEmpty_cons, List.cons.injEq, Option.some.injEq, T.int.injEq, T.str.injEq, T.bl.injEq, T.tup.injEq, T.lst.injEq, T.adr.injEq, Sl.fz.injEq, Sl.own.injEq, T.dct.injEq, T.wtp.injEq, exists_eq_left, exists_eq_left', exists_eq_right, exists_eq_right', exists_eq, exists_eq', exists_and_left, exists_and_right, exists_const, exists_false, and_true, true_and, and_false, false_and, or_true, true_or, or_false, false_or, not_true_eq_false, not_false_eq_true, if_true, if_false, ite_true, ite_false, Bool.not_true, Bool.not_false, Bool.true_or, Bool.or_true, Bool.false_or, Bool.or_false, Bool.true_and, Bool.and_true, Bool.false_and, Bool.and_false, Bool.false_eq_true, Bool.true_eq_false, eq_self, decide_eq_true_eq, decide_true, decide_false, Bool.decide_eq_true, Bool.not_eq_true, decide_eq_false_iff_not, Bool.and_eq_true, Bool.or_eq_true, Bool.not_eq_true', reduceCtorEq, ne_eq, Nat.le_refl, Nat.reduceAdd, Nat.reduceSub, Nat.reduceLeDiff, Nat.reduceLT, implies_true, forall_const, List.any_cons, List.any_nil, List.all_cons, List.all_nil, wipeP, restore, List.getD_eq_getElem?_getD, Option.getD_some, List.mem_singleton, forall_eq, Int.reduceLT, Int.reduceLE, Int.reduceNeg, Int.reduceSub, Int.reduceAdd, Int.reduceToNat, Int.reduceEq, Int.reduceNe, String.reduceEq, and_self, or_self]
      exact ⟨256, rfl, by decide, by decide, fun v _ _ => hC _ _ ⟨v, rfl⟩ rfl⟩
    · obtain ⟨ns, rfl, hn⟩ := iall _ ys y1 y2
      simp only [↓reduceIte, ↓sSeq, ↓sAsg, ↓sIf, ↓sRet, ↓sRetN, ↓sExpr, ↓sNext, ↓sBreak, ↓sCont, ↓sAug, ↓sFor, ↓gN, ↓pIx, ↓pC, ↓pTup, ↓pLst, ↓pCons, ↓pNil, ↓pStar, ↓pOp, ↓pTB, ↓pTru, ↓pTAnd, ↓pTOr, ↓pTNot, ↓pAndV, ↓pOrV, ↓pNotV, ↓pIf, ↓pCall, ↓pLen, ↓pIsi, ↓pDget, ↓gDset, ↓gSubT, ↓PEq, ↓PNe, ↓pChain, ↓pNeg, ↓pSl, ↓pNoPart, ↓pPart, ↓pIter, ↓pRng1, ↓pRng2, ↓pEnum, ↓pRev, ↓pZip, ↓pMet, ↓pMet0, ↓pMut, ↓pLc, ↓pLRng1, ↓pLRng2, ↓pYes, ↓pRE, ↓startP, ↓pWords, ↓pSplit, ↓pGen, ↓pSum, ↓pLenSt, ↓pDIx, ↓pCallV, ↓pCallM, ↓PInT, ↓gLt, ↓gLe, ↓gGt, ↓gGe, ↓pV_f0, ↓pV_o0, ↓pRV_f0, ↓pRV_o0, ↓lk_f0, ↓lk_o0, ↓sRV_f0, ↓sRV_o0, ↓pV_f1, ↓pV_o1, ↓pRV_f1, ↓pRV_o1, ↓lk_f1, ↓lk_o1, ↓sRV_f1, ↓sRV_o1, ↓pV_f2, ↓pV_o2, ↓pRV_f2, ↓pRV_o2, ↓lk_f2, ↓lk_o2, ↓sRV_f2, ↓sRV_o2, ↓pV_f3, ↓pV_o3, ↓pRV_f3, ↓pRV_o3, ↓lk_f3, ↓lk_o3, ↓sRV_f3, ↓sRV_o3, ↓pV_f4, ↓pV_o4, ↓pRV_f4, ↓pRV_o4, ↓lk_f4, ↓lk_o4, ↓sRV_f4, ↓sRV_o4, ↓pV_f5, ↓pV_o5, ↓pRV_f5, ↓pRV_o5, ↓lk_f5, ↓lk_o5, ↓sRV_f5, ↓sRV_o5, ↓pV_f6, ↓pV_o6, ↓pRV_f6, ↓pRV_o6, ↓lk_f6, ↓lk_o6, ↓sRV_f6, ↓sRV_o6, ↓pV_f7, ↓pV_o7, ↓pRV_f7, ↓pRV_o7, ↓lk_f7, ↓lk_o7, ↓sRV_f7, ↓sRV_o7, ↓pV_f8, ↓pV_o8, ↓pRV_f8, ↓pRV_o8, ↓lk_f8, ↓lk_o8, ↓sRV_f8, ↓sRV_o8, ↓pV_f9, ↓pV_o9, ↓pRV_f9, ↓pRV_o9, ↓lk_f9, ↓lk_o9, ↓sRV_f9, ↓sRV_o9, ↓pV_f10, ↓pV_o10, ↓pRV_f10, ↓pRV_o10, ↓lk_f10, ↓lk_o10, ↓sRV_f10, ↓sRV_o10, ↓pV_f11, ↓pV_o11, ↓pRV_f11, ↓pRV_o11, ↓lk_f11, ↓lk_o11, ↓sRV_f11, ↓sRV_o11, ↓pV_f12, ↓pV_o12, ↓pRV_f12, ↓pRV_o12, ↓lk_f12, ↓lk_o12, ↓sRV_f12, ↓sRV_o12, ↓pV_f13, ↓pV_o13, ↓pRV_f13, ↓pRV_o13, ↓lk_f13, ↓lk_o13, ↓sRV_f13, ↓sRV_o13, ↓lk_fz, ↓of_fn, ↓of_fb, ↓of_fi, ↓of_fs, ↓of_ft, ↓of_fl, ↓of_ol, ↓of_ff, ↓ad_i, ↓ad_s, ↓ad_l, ↓ad_t, ↓su_i, ↓mu_i, ↓mu_l, ↓mo_i, ↓fd_i, ↓pw_i, ↓an_i, ↓ci_i, ↓is_n, ↓is_nn, ↓in_t, ↓in_l, ↓in_s, ↓ix_l, ↓ix_t, ↓ix_s, ↓sl_l, ↓sl_t, ↓sl_s, ↓kn_i, ↓kp_i, ↓kr1, ↓kr2, ↓ke_l, ↓kz_l, ↓kz_t, ↓klr1, ↓klr2, ↓gt_e, ↓gt_w, ↓gs_n, ↓gs_c, ↓ltS_i, ↓ltS_s, ↓pChain3, ↓pRevL, ↓pEnumA, ↓kea_l, ↓kea_t, ↓pZipA, ↓kza_ll, ↓kza_lt, ↓kza_tl, ↓kza_tt, ↓pTR, ↓ktr_l, ↓ktr_t, ↓inA_t, ↓inA_l, ↓inA_s, ↓pDix, ↓pDNew, ↓gDsub, ↓pDc, ↓pDZip, ↓pSortSt, ↓dix_i, ↓dix_s, ↓din_i, ↓din_s, ↓kds_i, ↓kds_s, ↓of_od, ↓od_0, ↓od_1, ↓od_2, ↓od_3, ↓od_4, ↓od_5, ↓od_6, ↓od_7, ↓od_8, ↓od_9, ↓od_10, ↓od_11, ↓od_12, ↓od_13, nc_0, nc_1, nc_2, nc_3, nc_4, nc_5, nc_6, nc_7, nc_8, nc_9, nc_10, nc_11, nc_12, eq_ii, eq_ss, eq_nn, eq_bb, eq_st, eq_ts, eq_si, eq_is, eq_it, eq_ti, cmp_i, cmp_b, cmp_n, sc_i, sc_s, sc_b, sc_n, flat_i, flat_s, flat_b, flat_n, tru_n, tru_b, tru_i, tru_t, tru_l, items_t, items_l, len_t, len_l, len_w, iter_t, iter_l, iter_s, isN_n, isN_i, isN_s, isN_t, isN_l, isN_b, at_0, at_1, at_2, at_3, ib_tn, ib_tb, ib_ti, ib_ts, ib_tt, ib_tl, ib_sn, ib_sb, ib_si, ib_ss, ib_st, ib_sl, ib_in, ib_ib, ib_ii, ib_is, ib_it, ib_il, ib_bn, ib_bb, ib_bi, ib_bs, ib_bt, ib_bl, na_n, na_b, na_i, na_s, na_t, na_l, List.getElem?_cons_zero, List.getElem?_cons_succ, List.set_cons_zero, List.set_cons_succ, List.map_cons, List.map_nil, List.length_cons, List.length_nil, List.replicate_succ, List.replicate_zero, List.cons_append, List.nil_append, List.append_nil, List.isEmpty_nil, List.isEmpty_cons, List.cons.injEq, Option.some.injEq, T.int.injEq, T.str.injEq, T.bl.injEq, T.tup.injEq, T.lst.injEq, T.adr.injEq, Sl.fz.injEq, Sl.own.injEq, T.dct.injEq, T.wtp.injEq, exists_eq_left, exists_eq_left', exists_eq_right, exists_eq_right', exists_eq, exists_eq', exists_and_left, exists_and_right, exists_const, exists_false, and_true, true_and, and_false, false_and, or_true, true_or, or_false, false_or, not_true_eq_false, not_false_eq_true, if_true, if_false, ite_true, ite_false, Bool.not_true, Bool.not_false, Bool.true_or, Bool.or_true, Bool.false_or, Bool.or_false, Bool.true_and, Bool.and_true, Bool.false_and, Bool.and_false, Bool.false_eq_true, Bool.true_eq_false, eq_self, decide_eq_true_eq, decide_true, decide_false, Bool.decide_eq_true, Bool.not_eq_true, decide_eq_false_iff_not, Bool.and_eq_true, Bool.or_eq_true, Bool.not_eq_true', reduceCtorEq, ne_eq, Nat.le_refl, Nat.reduceAdd, Nat.reduceSub, Nat.reduceLeDiff, Nat.reduceLT, implies_true, forall_const, List.any_cons, List.any_nil, List.all_cons, List.all_nil, wipeP, restore, List.getD_eq_getElem?_getD, Option.getD_some, List.mem_singleton, forall_eq, Int.reduceLT, Int.reduceLE, Int.reduceNeg, Int.reduceSub, Int.reduceAdd, Int.reduceToNat, Int.reduceEq, Int.reduceNe, String.reduceEq, and_self, or_self]
      exact h ns (by omega)
end
end Y

namespace Y
open PySem PySem.Spec PyProof.Rows L2 RT RZ TL PySem.NumText
/-! ### an own error without arguments; a method that lets an error out -/
theorem pmk_own0 {X : Cx} {C : Addr} {bmB : List Value} {B newId initId : String} {x : Str} {p pos : Pos} (F : ExcBaseFacts B newId initId bmB) (q : PySem.W.excIn X.K C bmB newId = true) (gC : X.mg x = some (.ref C)) (kC : PySem.W.keepIn X.K (.ref C) = true) (r : Raises X (.ref C)) (hg : Gl X x)
    (hdb : (x == ("__debug__" : Str)) = false := by decide) : PMk X (.Call (.Name x p) [] [] pos) (fun _ H Q => Q (.ref C) none H) := by
  intro pins s σ H Q I h
  refine wpAny_Call_Name_kw (ld_glob I hg gC ?_ hdb)
  refine PySem.W.callWith_K0 (first := []) I.kIn kC ?_
  obtain ⟨bm, N, nm, qn, bs, hdct, sn, sub, ab, col, dd, k0, k1, k2, k3, k5, mN, hC, hN, hni, T⟩ := exc_obj I.kIn q
  refine wpAny_call_exc_subT F T hC hN hni (fun h' e hm => ?_) (Nat.zero_le _)
  exact mk_of I hm r h (I.hok.gone hm.new)
def tMethE (C : Addr) (m : Str) (sp : Sp) (E : L2.St → XK) (ta : TE) (t : TA) : TE := fun σ H Q => ta σ H fun x H1 => ∃ a dx fs, x = .ref a ∧ H1 a = some (.ins C dx fs) ∧ fs.lookup m = none ∧ t σ H1 fun vs H2 => sp (x :: vs) H2 Q (E σ)
theorem pe_methE {X : Cx} {C f : Addr} {m : Str} {k : Nat} {fd : FuncData} {ps : List Str} {sp : Sp} {E : L2.St → XK} {o e : Expr} {es : List Expr} {apos pos : Pos} {ta : TE} {t : TA} {pl : Sem Bool} (he : PE X o ta) (c : Cls X.K C) (hm : Meth X.K C m f) (F : FnOk X.prog X.w X.K X.mg X.base (L2.CX X.prog X.w) k f fd ps sp) (hr : Room k X.A) (hb : Binds X.K fd ps []) (hx : ∀ σ, PassesAt (L2.CX X.prog X.w) X σ (E σ)) (ha : PA X (e :: es) t)
    (hst : starEach (e :: es) X.env = (false, eval e X.env) :: starEach es X.env := by rfl) (hpl : (backTo pos (starEach es X.env)).any (·.1) = false := by rfl)
    (ht : eval (.Call (.Attribute o m apos) (e :: es) [] pos) X.env = (do
      let ov ← eval o X.env
      standAt apos.atName
      let (f, first) ← holding [ov] (getMethod ov m pl)
      callWith pos f first (backTo pos (starEach (e :: es) X.env)) (backToKw pos (keywordEach [] X.env))) := by rfl) :
    PE X (.Call (.Attribute o m apos) (e :: es) [] pos) (tMethE C m sp E ta t) := by
  refine ⟨fun pins s σ H Q I h => ?_⟩
  refine PySem.W.methodCall_KW (pl := pl) (thn (he.run pins s σ H _ I h) fun u s1 ⟨x, H1, I1, rx, a, dx, fs, ex, ea, l, q⟩ => ?_) ht
  subst ex
  obtain rfl : u = Value.ref a := rx
  refine getmeth_ok I1 ea c hm l ?_
  refine PySem.W.callWith_K (first := [.ref a]) (h₀ := X.base) I.ok.mod.kin hm.kp (thn (ha.run pos pins s1 σ H1 _ I1 q) fun us s2 ⟨vs, H2, I2, r, q2⟩ => ⟨I2.kIn, ?_⟩) hst hpl
  exact run_fnS (us := .ref a :: us) (vs := .ref a :: vs) F hr hb (hx σ) I2 (.cons rfl r) q2
/-- a tuple times a number: a tuple without a dict -/
theorem op_repN {X : Cx} : OpR X (binaryOp .Mult) (fun x y H Q => ∃ (l : Addr) (k : Int) (xs : List V), x = .ref l ∧ y = .int k ∧ SqT X.K H l xs ∧ xs ≠ [] ∧ 2 ≤ k ∧ k ≤ 1000 ∧ xs.length ≤ 1000 ∧
    ∀ p (o : Obj), H p = none → o.dict = none → Q (.ref p) (upd H p (.frz o (.tup (List.replicate k.toNat xs).flatten)))) := by
  intro pins s σ H x y v u Q I rx ry h
  obtain ⟨l, k, xs, rfl, rfl, hT, hne, h1, h2, hz, q⟩ := h
  cases rx
  obtain ⟨t, rfl⟩ := ry
  obtain ⟨its, r, ⟨⟨cls, dd, data, sl⟩, ho, hc, n, hd⟩, hs⟩ := I.tuple hT
  obtain rfl : cls = .type "tuple" := hc
  obtain rfl : data = .seq its.toArray n := hd
  have hle : its.length = xs.length := r.length.symm
  have hpos : 0 < its.length := by
    rw [hle]
    exact List.length_pos_iff.mpr hne
  have hi : its.toArray.isEmpty = false := by
    cases its with
    | nil => cases hpos
    | cons a b => rfl
  have hsz0 : its.toArray.size = xs.length := by rw [List.size_toArray, hle]
  have hm : ((its.toArray.size : Nat) : Int) * k ≤ 1000000 := by
    rw [hsz0]
    have := Int.mul_le_mul_of_nonneg_right (show ((xs.length : Nat) : Int) ≤ 1000 by omega) (show 0 ≤ k by omega)
    omega
  have big : k.toNat * xs.length ≤ sizeLine := by
    rw [sizeLine_eq]
    have : k.toNat * xs.length ≤ 1000 * 1000 := Nat.mul_le_mul (by omega) hz
    omega
  have c0 : (decide (k < -(2 ^ 63)) || decide (k ≥ 2 ^ 63)) = false := by
    rw [decide_eq_false (by omega), decide_eq_false (by omega)] <;> rfl
  have c1 : (its.toArray.isEmpty || k == 1) = false := by
    rw [hi, Bool.false_or]
    exact beq_eq_false_iff_ne.mpr (by omega)
  have c2 : (decide (k ≤ 0) || its.toArray.isEmpty) = false := by
    rw [hi, Bool.or_false]
    exact decide_eq_false (by omega)
  have c4 : Builtin.Tuple.tupleTooMany (((its.toArray.size : Nat) : Int) * k) = false := by
    unfold Builtin.Tuple.tupleTooMany
    rw [sizeLine_eq]
    exact decide_eq_false (by omega)
  refine wpAny_binaryOp_repeat_ref (T := "tuple") (U := "int") (by decide) ⟨_, ho, rfl⟩ (fun s' => typeIs_int s' k t) noFill_tuple_mul F.fills_int_mul F.slot_int_rmul repeat_tuple F.slot_int_index.lookup
    (call_meets F.slot_int_rmul (typeIs_int s k t) F.entry_int_rmul (F.args_int_rmul_2 _ _) (int_rmul_tuple k t l its.toArray n dd sl)
      ⟨ho, rfl, ⟨_, ho, rfl⟩, call_meets F.slot_tuple_mul ⟨_, ho, rfl⟩ F.entry_tuple_mul (F.args_tuple_mul_2 _ _) (tuple_mulW l its.toArray n dd sl k t c0 c1 c2 (by omega) c4 (by rw [size_rep, List.size_toArray, PyProof.Rows.lm_len_rep_flat, hle]; exact big)) ⟨ho, ?_⟩⟩)
  rw [size_rep]
  exact ⟨.ref s.heap.objs.size, _, I.laid (t' := s.toks) (fun b ob q => Heap.get?_push_of_some _ q) (Nat.le_refl _) (frz_new (by rw [PyProof.Rows.lm_len_rep_flat]; exact big) (r.rep k.toNat)), rfl, q _ _ (I.hok.fresh (Nat.le_refl _)) rfl⟩
end Y

namespace Y
open PySem PySem.Spec PyProof.Rows L2 RT RZ TL PySem.NumText
/-! ### what stays of a heap, but for some objects -/
def ChS (S : Addr → Prop) (H H' : Hp) : Prop := ∀ a o, ¬ S a → H a = some o → H' a = some o
section
variable {S : Addr → Prop} {H H1 H2 : Hp}
theorem ChS.refl : ChS S H H := fun _ _ _ h => h
theorem ChS.trans (c : ChS S H H1) (d : ChS S H1 H2) : ChS S H H2 := fun a o n h => d a o n (c a o n h)
theorem ChS.new {p : Addr} {o : HO} (h : H p = none) : ChS S H (upd H p o) := fun a u _ e => by
  rw [upd_ne (ne_of_none e h)]
  exact e
theorem ChS.put {p : Addr} {o : HO} (h : S p) : ChS S H (upd H p o) := fun a u n e => by
  rw [upd_ne (fun z => n (by rw [z]; exact h))]
  exact e
theorem ChS.imp {S' : Addr → Prop} (c : ChS S H H1) (h : ∀ a, S a → S' a) : ChS S' H H1 := fun a o n e => c a o (fun z => n (h a z)) e
theorem ChS.sqN {K : PySem.W.Frag} {a : Addr} {xs : List V} (c : ChS S H H1) (n : ¬ S a) (h : SqN K H a xs) : SqN K H1 a xs := by
  rcases h with ⟨o, d, h⟩ | h
  · exact .inl ⟨o, d, c a _ n h⟩
  · exact .inr h
theorem ChS.sqNi {K : PySem.W.Frag} {a b C dx : Addr} {fs : List (Str × V)} {xs : List V} (c : ChS (fun z => z = b) H H1) (hb : H b = some (.ins C dx fs)) (h : SqN K H a xs) : SqN K H1 a xs := by
  rcases h with ⟨o, d, h⟩ | h
  · exact .inl ⟨o, d, c a _ (fun z => by rw [z, hb] at h; cases h) h⟩
  · exact .inr h
theorem ChS.sqT {K : PySem.W.Frag} {a : Addr} {xs : List V} (c : ChS S H H1) (n : ¬ S a) (h : SqT K H a xs) : SqT K H1 a xs := by
  rcases h with (h | ⟨o, h⟩) | h
  · exact .inl (.inl (c a _ n h))
  · exact .inl (.inr ⟨o, c a _ n h⟩)
  · exact .inr h
end
/-! ### the class Disk -/
def inCl (st : Stmt) (j : Nat) : Stmt := match st with
  | .ClassDef _ _ _ body _ _ _ _ _ _ _ => body.getD j (.Pass ⟨0, 0, 0, 0⟩)
  | _ => .Pass ⟨0, 0, 0, 0⟩
abbrev s_Dinit : Stmt := inCl (topS 6) 0
abbrev s_Dblocks : Stmt := inCl (topS 6) 1
abbrev s_Dwrite : Stmt := inCl (topS 6) 2
theorem sc_Dinit : FnScope ["self", "blocks", "room"] ["self", "blocks", "room"] (defScope s_Dinit) := ⟨rfl, rfl, rfl, by decide +kernel, rfl, by decide +kernel, by decide +kernel⟩
theorem sc_Dblocks : FnScope ["self"] ["self"] (defScope s_Dblocks) := ⟨rfl, rfl, rfl, by decide +kernel, rfl, by decide +kernel, by decide +kernel⟩
theorem sc_Dwrite : FnScope ["self", "number", "block"] ["self", "number", "block"] (defScope s_Dwrite) := ⟨rfl, rfl, rfl, by decide +kernel, rfl, by decide +kernel, by decide +kernel⟩
structure DCl (K : PySem.W.Frag) (mg : Str → Option Value) (C fI fW pB gB : Addr) : Prop where
  gC : mg "Disk" = some (.ref C)
  c : Cls K C
  n1 : NoAttr K C "rows"
  n2 : NoAttr K C "room"
  mkC : Mk K C fI
  mw : Meth K C "write" fW
  pb : PropOf K C "blocks" pB gB
abbrev dkF (p : Addr) (r : V) : List (Str × V) := [("rows", .ref p), ("room", r)]
def spDinit (K : PySem.W.Frag) (C : Addr) : Sp := fun vs H Q _ => ∃ (a dx b : Addr) (xs : List V) (vr : V), vs = [.ref a, .ref b, vr] ∧ H a = some (.ins C dx []) ∧ SqN K H b xs ∧
  ∀ H' p ys, H' a = some (.ins C dx (dkF p vr)) → ChS (fun z => z = a) H H' → SqN K H' p ys → ((xs ≠ [] ∧ p = b ∧ ys = xs) ∨ (xs = [] ∧ ∃ e, ys = List.replicate 32 (.ref e) ∧ SqN K H' e [])) → Q .non H'
section
variable {P : Program} {w : World} {K : PySem.W.Frag} {mg : Str → Option Value} {base : Heap} {C fI fW pB gB : Addr} {fd : FuncData}
theorem ok_Dinit {dvs : List V} (T : DCl K mg C fI fW pB gB) (F : FunD K "__init__" "Disk.__init__" (defArgs s_Dinit) (defBody s_Dinit) (defScope s_Dinit) dvs [] fI fd) (G : GlobQ K mg "BLOCKS" (.int 32)) :
    FnOk P w K mg base CX0 1 fI fd ["self", "blocks", "room"] (spDinit K C) := by
  obtain ⟨vB, uB, gB1, gB2, gB3⟩ := G
  obtain rfl : vB = .int 32 := gB3 (fun _ => none)
  refine F.ok sc_Dinit (fun vs H Q E h => ?_) (fun cdv A outer s H vs Q E hr h => ?_)
  · obtain ⟨a, dx, b, xs, vr, rfl, _⟩ := h
    rfl
  · obtain ⟨a, dx, b, xs, vr, rfl, ha, hb, q⟩ := h
    refine ⟨_, pss_cons (ps_fld (pv 0) (pe_ifExp (pt_truth (pv 1) (fun _ => rfl)) (pv 1) (pe_op op_repN (pe_tupN (pa_cons (pe_tupN pa_nil) pa_nil)) (pe_glob (by rfl) gB1 gB2))) rfl) (pss_one (ps_fld (pv 0) (pv 2) rfl)), ?_⟩
    have pf2 : ∀ p : Addr, putF "room" vr [("rows", .ref p)] = dkF p vr := fun p => by
      unfold putF
      rw [if_neg (by decide)]
      rfl
    have last : ∀ (H1 : Hp) (p : Addr) (ys : List V), H1 a = some (.ins C dx []) → ChS (fun z => z = a) H H1 → SqN K H1 p ys → ((xs ≠ [] ∧ p = b ∧ ys = xs) ∨ (xs = [] ∧ ∃ e, ys = List.replicate 32 (.ref e) ∧ SqN K H1 e [])) →
        Q .non (upd (upd H1 a (.ins C dx [("rows", .ref p)])) a (.ins C dx (dkF p vr))) := fun H1 p ys h1 c1 s1 h2 => by
      have na : ∀ {z zs}, SqN K H1 z zs → SqN K (upd (upd H1 a (.ins C dx [("rows", .ref p)])) a (.ins C dx (dkF p vr))) z zs := fun {z zs} h => by
        rcases h with ⟨o, d, h⟩ | h
        · refine .inl ⟨o, d, ?_⟩
          have n : z ≠ a := fun e => by rw [e, h1] at h; cases h
          rw [upd_ne n, upd_ne n]
          exact h
        · exact .inr h
      refine q _ p ys upd_same ((c1.trans (.put rfl)).trans (.put rfl)) (na s1) ?_
      rcases h2 with h2 | ⟨e1, e, e2, e3⟩
      · exact .inl h2
      · exact .inr ⟨e1, e, e2, na e3⟩
    refine ⟨_, rfl, !xs.isEmpty, .inr (.inl ⟨xs, hb.t, rfl⟩), ?_⟩
    cases xs with
    | nil =>
      refine ⟨by show 0 ≤ sizeLine; exact Nat.zero_le _, fun e o1 he d1 => ?_⟩
      refine ⟨by show 1 ≤ sizeLine; rw [sizeLine_eq]; decide, fun p1 o2 hp1 d2 => ?_⟩
      refine ⟨p1, 32, [.ref e], rfl, rfl, .inl (.inr ⟨o2, upd_same⟩), by simp, by decide, by decide, by simp, fun p o hp d => ?_⟩
      have nea : e ≠ a := (ne_of_none ha he).symm
      have h1 : upd (upd (upd H e (.frz o1 (.tup []))) p1 (.frz o2 (.tup [V.ref e]))) p (.frz o (.tup (List.replicate (32 : Int).toNat [V.ref e]).flatten)) a = some (.ins C dx []) :=
        (((ChS.new (S := fun _ => False) he).trans (.new hp1)).trans (.new hp)) a _ (fun z => z) ha
      have h2 : upd (upd (upd H e (.frz o1 (.tup []))) p1 (.frz o2 (.tup [V.ref e]))) p (.frz o (.tup (List.replicate (32 : Int).toNat [V.ref e]).flatten)) e = some (.frz o1 (.tup [])) :=
        ((ChS.new (S := fun _ => False) hp1).trans (.new hp)) e _ (fun z => z) upd_same
      refine ⟨.ref a, rfl, a, C, dx, [], rfl, h1, T.c, T.n1, by decide, ?_⟩
      refine ⟨vr, rfl, .ref a, rfl, a, C, dx, [("rows", .ref p)], rfl, upd_same, T.c, T.n2, by simp, ?_⟩
      rw [pf2]
      exact last _ p (List.replicate 32 (.ref e)) h1 (((ChS.new he).trans (.new hp1)).trans (.new hp)) (.inl ⟨o, d, upd_same⟩) (.inr ⟨rfl, e, rfl, .inl ⟨o1, d1, h2⟩⟩)
    | cons x xs =>
      refine ⟨.ref b, rfl, .ref a, rfl, a, C, dx, [], rfl, ha, T.c, T.n1, by decide, ?_⟩
      refine ⟨vr, rfl, .ref a, rfl, a, C, dx, [("rows", .ref b)], rfl, upd_same, T.c, T.n2, by simp, ?_⟩
      rw [pf2]
      exact last _ b _ ha .refl hb (.inl ⟨by simp, rfl, rfl⟩)
end
theorem cut_lo {xs : List V} {k : Nat} (h : k ≤ xs.length) : cutV xs none (some ((k : Nat) : Int)) = xs.take k := by
  unfold cutV
  rw [HT.sIx_none, HT.sIx_nat, Nat.min_eq_left h, List.drop_zero]
  rfl
theorem cut_hi {xs : List V} {k : Nat} (h : k ≤ xs.length) : cutV xs (some ((k : Nat) : Int)) none = xs.drop k := by
  unfold cutV
  rw [HT.sIx_none, HT.sIx_nat, Nat.min_eq_left h]
  exact List.take_of_length_le (by rw [List.length_drop]; omega)
theorem slN_of {K : PySem.W.Frag} {H : Hp} {a : Addr} {xs : List V} {lo hi : Option Int} {Q : VK} (h : SqN K H a xs) (k : ∀ H' p, ChS (fun _ => False) H H' → SqN K H' p (cutV xs lo hi) → Q (.ref p) H') : rSlN K (.ref a) lo hi H Q := by
  refine ⟨a, xs, rfl, h.t, fun w => k H a .refl ?_, fun _ p o hp hd => k _ p (.new hp) (.inl ⟨o, hd, upd_same⟩)⟩
  have : cutV xs lo hi = xs := by
    unfold cutV
    rw [w.1, w.2, List.drop_zero]
    exact List.take_of_length_le (by omega)
  rw [this]
  exact h
def decR : V → V
  | .int r => .int (r - 1)
  | v => v
def roomV (v : V) : Prop := v = .non ∨ ∃ r : Int, v = .int r
def spDwrite (K : PySem.W.Frag) (C CC : Addr) : Sp := fun vs H Q E => ∃ (a dx p b : Addr) (ys : List V) (rm : V) (n : Nat), vs = [.ref a, .int (n : Nat), .ref b] ∧ H a = some (.ins C dx (dkF p rm)) ∧ SqN K H p ys ∧ n < ys.length ∧ ys.length ≤ 1000 ∧ roomV rm ∧
  (rm = .int 0 → E (.ref CC) none H) ∧ (rm ≠ .int 0 → ∀ H' p', H' a = some (.ins C dx (dkF p' (decR rm))) → ChS (fun z => z = a) H H' → SqN K H' p' (ys.set n (.ref b)) → Q .non H')
structure CCl (K : PySem.W.Frag) (mg : Str → Option Value) (CC : Addr) : Prop where
  gC : mg "Cut" = some (.ref CC)
  ex : PySem.W.excIn K CC [.type "ValueError", .type "Exception", .type "BaseException", .type "object"] "ValueError.__new__" = true
  kC : PySem.W.keepIn K (.ref CC) = true
  sb : PySem.W.subIn K (.ref CC) (.type "BaseException") = some true
  ty : PySem.W.typeIn K (.ref CC) = some (.type "type")
section
variable {P : Program} {w : World} {K : PySem.W.Frag} {mg : Str → Option Value} {base : Heap} {C CC fI fW pB gB : Addr} {fd : FuncData}
theorem ok_Dwrite (T : DCl K mg C fI fW pB gB) (TC : CCl K mg CC) (F : FunD K "write" "Disk.write" (defArgs s_Dwrite) (defBody s_Dwrite) (defScope s_Dwrite) [] [] fW fd) :
    FnOk P w K mg base (L2.CX P w) 1 fW fd ["self", "number", "block"] (spDwrite K C CC) := by
  refine F.ok sc_Dwrite (fun vs H Q E h => ?_) (fun cdv A outer s H vs Q E hr h => ?_)
  · obtain ⟨a, dx, p, b, ys, rm, n, rfl, _⟩ := h
    rfl
  · obtain ⟨a, dx, p, b, ys, rm, n, rfl, ha, hp, hn, hl, hrm, q1, q2⟩ := h
    refine ⟨_, pss_cons (ps_if (pt_cmpR op_eq (pe_fld (pv 0) rfl) pe_int (nomark _)) (pss_one (ps_raise rfl (takes_of rfl rfl rfl rfl) (pmk_own0 PySem.F.excBase_ValueError TC.ex TC.gC TC.kC (raises_own TC.sb TC.ty) (by rfl)))) pss_nil)
      (pss_cons (ps_if (pt_cmpR op_notN (pe_fld (pv 0) rfl) pe_non (nomark _)) (pss_one (ps_fldaug (pv 0) pe_int in_sub)) pss_nil)
      (pss_one (ps_fld (pv 0) (pe_tupN (StX.pa_star (pe_slice sl_tupN (pe_fld (pv 0) rfl) po_none (po_some (pv 1))) (pa_cons (pv 2) (StX.pa_star (pe_slice sl_tupN (pe_fld (pv 0) rfl) (po_some (pe_op op_add (pv 1) pe_int)) po_none) pa_nil)))) rfl))), ?_⟩
    have lk1 : ∀ (p : Addr) (r : V), (dkF p r).lookup ("room" : Str) = some r := fun p r => rfl
    have lk2 : ∀ (p : Addr) (r : V), (dkF p r).lookup ("rows" : Str) = some (.ref p) := fun p r => rfl
    have pr : ∀ (p : Addr) (r r' : V), putF "room" r' (dkF p r) = dkF p r' := fun p r r' => by
      unfold dkF putF
      rw [if_neg (by decide)]
      unfold putF
      rw [if_pos rfl]
    have pw : ∀ (p p' : Addr) (r : V), putF "rows" (.ref p') (dkF p r) = dkF p' r := fun p p' r => by
      unfold dkF putF
      rw [if_pos rfl]
    have st3 : ∀ (H1 : Hp) (rm' : V), rm ≠ .int 0 → H1 a = some (.ins C dx (dkF p rm')) → rm' = decR rm → ChS (fun z => z = a) H H1 → sFld K (tVar 0)
        (tTupN (StX.tStar K (tSl (rSlN K) (tFld K (tVar 0) "rows") tNoPart (tPart (tVar 1))) (tCons (tVar 2) (StX.tStar K (tSl (rSlN K) (tFld K (tVar 0) "rows") (tPart (tOp (rI0 fun i j => V.int (i + j)) (tVar 1) (tC (V.int 1)))) tNoPart) tNil)))) "rows"
        { nx := fun x H' => Q V.non H', rt := Q } (L2.start ["self", "number", "block"] [V.ref a, V.int ↑n, V.ref b]) H1 := fun H1 rm' n0 h1 er c1 => by
      have hp1 : SqN K H1 p ys := c1.sqNi ha hp
      refine ⟨_, rfl, a, C, dx, _, .ref p, rfl, h1, T.c, T.n1, lk2 _ _, ?_⟩
      refine ⟨_, rfl, _, rfl, ?_⟩
      refine slN_of hp1 fun H2 p2 c2 s2 => ?_
      refine ⟨p2, _, rfl, .inl s2.t, ?_⟩
      refine ⟨_, rfl, ?_⟩
      have h2 : H2 a = some (.ins C dx (dkF p rm')) := c2 a _ (fun z => z) h1
      have hp2 : SqN K H2 p ys := c2.sqN (fun z => z) hp1
      refine ⟨_, rfl, a, C, dx, _, .ref p, rfl, h2, T.c, T.n1, lk2 _ _, ?_⟩
      refine ⟨_, rfl, _, _, rfl, rfl, _, rfl, ?_⟩
      dsimp only [tNoPart]
      refine slN_of hp2 fun H3 p3 c3 s3 => ?_
      refine ⟨p3, _, rfl, .inl s3.t, ?_⟩
      have h3 : H3 a = some (.ins C dx (dkF p rm')) := c3 a _ (fun z => z) h2
      have el : cutV ys none (some ((n : Nat) : Int)) ++ (V.ref b :: (cutV ys (some (((n : Nat) : Int) + 1)) none ++ [])) = ys.set n (.ref b) := by
        rw [cut_lo (by omega), show ((n : Nat) : Int) + 1 = ((n + 1 : Nat) : Int) by omega, cut_hi (by omega), List.append_nil, List.set_eq_take_append_cons_drop, if_pos hn]
      dsimp only [tNil]
      rw [el]
      refine ⟨by rw [List.length_set, sizeLine_eq]; omega, fun p4 o hp4 d4 => ?_⟩
      have h4 : upd H3 p4 (.frz o (.tup (ys.set n (.ref b)))) a = some (.ins C dx (dkF p rm')) := (ChS.new (S := fun _ => False) hp4) a _ (fun z => z) h3
      refine ⟨_, rfl, a, C, dx, _, rfl, h4, T.c, T.n1, by show 2 < 1000; decide, ?_⟩
      rw [pw]
      have n4 : p4 ≠ a := (ne_of_none h3 hp4).symm
      refine q2 n0 _ p4 (by rw [er]; exact upd_same) (((c1.trans (c2.imp fun _ z => z.elim)).trans (c3.imp fun _ z => z.elim)).trans ((ChS.new hp4).trans (.put rfl))) (.inl ⟨o, d4, by rw [upd_ne n4]; exact upd_same⟩)
    refine ⟨_, rfl, a, C, dx, _, rm, rfl, ha, T.c, T.n2, lk1 _ _, ?_⟩
    refine ⟨?_, _, rfl, ?_⟩
    · rcases hrm with rfl | ⟨r, rfl⟩ <;> rfl
    have e2 : ∀ c : Bool, decide (rm = .int 0) = c → (if c = true then E (.ref CC) none H else tSeq (tIfS (tTest (tOp (fun x y H Q => y = V.non ∧ Q (V.bl !decide (x = V.non)) H) (tFld K (tVar 0) "room") (tC V.non))) (sFldAug K (tVar 0) (tC (V.int 1)) rSub "room") tNext) (sFld K (tVar 0)
        (tTupN (StX.tStar K (tSl (rSlN K) (tFld K (tVar 0) "rows") tNoPart (tPart (tVar 1))) (tCons (tVar 2) (StX.tStar K (tSl (rSlN K) (tFld K (tVar 0) "rows") (tPart (tOp (rI0 fun i j => V.int (i + j)) (tVar 1) (tC (V.int 1)))) tNoPart) tNil)))) "rows")
        { nx := fun x H' => Q V.non H', rt := Q } (L2.start ["self", "number", "block"] [V.ref a, V.int ↑n, V.ref b]) H) := fun c hc => by
      cases c with
      | true =>
        rw [if_pos rfl]
        exact q1 (of_decide_eq_true hc)
      | false =>
        rw [if_neg (by decide)]
        have n0 := of_decide_eq_false hc
        refine ⟨_, rfl, a, C, dx, _, rm, rfl, ha, T.c, T.n2, lk1 _ _, ?_⟩
        refine ⟨rfl, _, rfl, ?_⟩
        rcases hrm with rfl | ⟨r, rfl⟩
        · rw [if_neg (by decide)]
          exact st3 H .non n0 ha rfl .refl
        · rw [if_pos (by rfl)]
          refine ⟨_, rfl, a, C, dx, _, .int r, rfl, ha, T.c, T.n2, lk1 _ _, ?_⟩
          refine ⟨r, 1, rfl, rfl, dx, _, ha, by show 2 < 1000; decide, ?_⟩
          rw [pr]
          exact st3 _ (.int (r - 1)) n0 upd_same rfl (.put rfl)
    exact e2 _ rfl
end
end Y

namespace Y
open PySem PySem.Spec PyProof.Rows L2 RT RZ TL PySem.NumText
/-! ### a write, held against one's own rows -/
def rIsEN (K : PySem.W.Frag) (D a : Addr) (cls : Value) (d : Option Addr) : List V → Hp → VK → Prop := fun xs H Q => cls = .ref D ∧ d = none ∧ rIsE K D a xs H Q
theorem call_isEN {X : Cx} {a D : Addr} {oe : Obj} {cls : Value} {d : Option Addr} {pn : List (Addr × Obj)} (C : ExcC X.K D) (hz : Zc cls d oe) (hf : ∃ vs, oe.data = .fields vs) : CallR (X.suite a ((a, oe) :: pn)) (.builtin "isinstance") (rIsEN X.K D a cls d) := by
  intro pins s σ H xs us Q I r h
  obtain ⟨rfl, rfl, h⟩ := h
  exact call_isE C hz hf pins s σ H xs us Q I r h
theorem sqN_updL {K : PySem.W.Frag} {H : Hp} {p R : Addr} {xs zs : List V} {o : HO} (hR : H R = some (.lst zs)) (h : SqN K H p xs) : SqN K (upd H R o) p xs := by
  rcases h with ⟨u, d, h⟩ | h
  · exact .inl ⟨u, d, by rw [upd_ne (fun z => by rw [z, hR] at h; cases h)]; exact h⟩
  · exact .inr h
structure EXs (K : PySem.W.Frag) (mg : Str → Option Value) (CC CT CD : Addr) : Prop where
  gT : mg "TroveError" = some (.ref CT)
  gD : mg "DeedError" = some (.ref CD)
  ex : PySem.W.exmOne K (.ref CC) (.ref CC) = some true
  kT : PySem.W.kitOne K (.ref CC) (.ref CT) = some true
  kD : PySem.W.kitOne K (.ref CC) (.ref CD) = some false
  ec : ExcC K CC
  iI : mg "isinstance" = none
def sutW (K : PySem.W.Frag) (CC CT CD : Addr) (a : Addr) (cls : Value) (d : Option Addr) : TS :=
  tRet (tAndV (tOp rEq (tOp (rIxL K) (tVar 1) (tC (.int 1))) (tC (.int 0))) (tAndV (tCB (rIsEN K CC a cls d) (tCons (tVar 5) (tCons (tC (.ref CT)) tNil))) (tNotV (tCB (rIsEN K CC a cls d) (tCons (tVar 5) (tCons (tC (.ref CD)) tNil))))))
def spWR (K : PySem.W.Frag) (C : Addr) : Sp := fun vs H Q _ => ∃ (D dx p b O R : Addr) (ys zs : List V) (rm : V) (n : Nat), vs = [.ref D, .ref O, .int (n : Nat), .ref b] ∧ H D = some (.ins C dx (dkF p rm)) ∧ SqN K H p ys ∧ H O = some (.lst [.ref R, rm]) ∧ H R = some (.lst zs) ∧
  n < ys.length ∧ zs.length = ys.length ∧ 3 ≤ ys.length ∧ ys.length ≤ 1000 ∧ roomV rm ∧
  (rm = .int 0 → ∀ H', ChS (fun _ => False) H H' → Q (.bl true) H') ∧
  (rm ≠ .int 0 → ∀ H' p', H' D = some (.ins C dx (dkF p' (decR rm))) → SqN K H' p' (ys.set n (.ref b)) → H' O = some (.lst [.ref R, decR rm]) → H' R = some (.lst (zs.set n (.ref b))) → ChS (fun z => z = D ∨ z = O ∨ z = R) H H' → Q (.bl true) H')
section
variable {P : Program} {w : World} {K : PySem.W.Frag} {mg : Str → Option Value} {base : Heap} {C CC CT CD fI fW pB gB : Addr} {fdw : FuncData}
theorem ok_write_right {k : Nat} (D : Df K mg "_law_write_right" s_write_right) (T : DCl K mg C fI fW pB gB) (TC : CCl K mg CC) (TE : EXs K mg CC CT CD)
    (Fw : FnOk P w K mg base (L2.CX P w) 1 fW fdw ["self", "number", "block"] (spDwrite K C CC)) (bw : Binds K fdw ["self", "number", "block"] []) (h2 : 1 ≤ k) :
    Cal P w K mg base "_law_write_right" (k + 1) ["_law_disk", "_law_own", "_law_number", "_law_block_here"] (spWR K C) := by
  obtain ⟨f, fd, F, g⟩ := D
  refine ⟨f, fd, g, F.kp, F.bindsN (fun _ _ _ _ _ _ us h => match us, h with | [_, _, _, _], _ => rfl), ?_⟩
  refine F.ok sc_write_right (fun vs H Q E h => ?_) (fun cdv A outer s H vs Q E hr h => ?_)
  · obtain ⟨_, _, _, _, _, _, _, _, _, _, rfl, _⟩ := h
    rfl
  · obtain ⟨D, dx, p, b, O, R, ys, zs, rm, n, rfl, hD, hp, hO, hR, hn, hz, h3, h1k, hrm, q1, q2⟩ := h
    refine ⟨_, pss_cons (ps_try_as (i := 5) (ts := sutW K CC CT CD) rfl rfl sc_write_right.nd rfl rfl ⟨rfl, by decide, .inl TC.gC⟩ takesNo
      (fun W pn xe tk _ => pss_one (ps_set (i := 4) sc_write_right.nd rfl (.inl rfl) (pe_methE (pv 0) T.c T.mw Fw (hr.mono (by omega)) bw (fun σ => passAt tk σ) (pa_cons (pv 2) (pa_cons (pv 3) pa_nil)))))
      (fun a oe cls d pn hz hf => pss_one (ps_ret (pe_and (pe_cmpR op_eq (pe_ix ix_list (pv 1) pe_int (fun _ _ => rfl)) pe_int (nomark _))
        (pe_and (pe_callB (call_isEN TE.ec hz hf) (by rfl) TE.iI (by decide +kernel) (pa_cons (pv 5) (pa_cons (pe_glob (by rfl) TE.gT rfl) pa_nil)))
          (pe_one (pe_not (pe_callB (call_isEN TE.ec hz hf) (by rfl) TE.iI (by decide +kernel) (pa_cons (pv 5) (pa_cons (pe_glob (by rfl) TE.gD rfl) pa_nil)))))))))) 
      (pss_cons (ps_if (PW.pt (pw_or (pt_cmpR op_eq (pe_ix ix_list (pv 1) pe_int (fun _ _ => rfl)) pe_int (nomark _)) (pw_or1 (pt_cmpR op_notN (pv 4) pe_non (nomark _))))) (pss_one (ps_ret pe_bl)) pss_nil)
      (pss_cons (ps_if (pt_cmpR op_notN (pe_ix ix_list (pv 1) pe_int (fun _ _ => rfl)) pe_non (nomark _)) (pss_one (ps_asg (pe_op op_sub (pe_ix ix_list (pv 1) pe_int (fun _ _ => rfl)) pe_int) (pg_sub (pv 1) pe_int set_list))) pss_nil)
      (pss_cons (ps_asg (pv 3) (pg_sub (pe_ix ix_list (pv 1) pe_int (fun _ _ => rfl)) (pv 2) set_list))
      (pss_one (ps_ret pe_bl))))), ?_⟩
    have nOR : O ≠ R := fun z => by
      rw [z, hR] at hO
      have := congrArg List.length (HO.lst.inj (Option.some.inj hO))
      simp at this
      omega
    have nOD : O ≠ D := fun z => by rw [z, hD] at hO; cases hO
    have nRD : R ≠ D := fun z => by rw [z, hD] at hR; cases hR
    have sc : scal rm (.int 0) = true := by rcases hrm with rfl | ⟨r, rfl⟩ <;> rfl
    refine ⟨_, rfl, D, dx, dkF p rm, rfl, hD, rfl, _, rfl, _, rfl, ?_⟩
    refine ⟨D, dx, p, b, ys, rm, n, rfl, hD, hp, hn, h1k, hrm, fun e0 => ?_, fun n0 H1 p1 e1 c1 s1 => ?_⟩
    · refine ⟨true, TE.ex, fun _ a ha => ?_, fun z => by cases z⟩
      refine ⟨_, rfl, O, _, 1, rm, rfl, rfl, SqL.of hO, rfl, sc, ?_⟩
      rw [decide_eq_true e0]
      refine ⟨true, rfl, ?_⟩
      rw [if_pos rfl]
      refine ⟨_, rfl, rfl, rfl, .ref CT, .ref CT, true, rfl, fun u r => r, TE.kT, true, rfl, ?_⟩
      rw [if_pos rfl]
      exact ⟨_, rfl, rfl, rfl, .ref CD, .ref CD, false, rfl, fun u r => r, TE.kD, false, rfl, q1 e0 H .refl⟩
    · have hO1 := c1 O _ nOD hO
      have hR1 := c1 R _ nRD hR
      have last : ∀ H2, H2 D = some (.ins C dx (dkF p1 (decR rm))) → SqN K H2 p1 (ys.set n (.ref b)) → H2 O = some (.lst [.ref R, decR rm]) → H2 R = some (.lst zs) → ChS (fun z => z = D ∨ z = O ∨ z = R) H H2 → Q (.bl true) (upd H2 R (.lst (zs.set n (.ref b)))) := fun H2 a1 a2 a3 a4 a5 =>
        q2 n0 _ p1 (by rw [upd_ne nRD.symm]; exact a1) (sqN_updL a4 a2) (by rw [upd_ne nOR]; exact a3) upd_same (a5.trans (.put (.inr (.inr rfl))))
      refine ⟨_, rfl, O, _, 1, rm, rfl, rfl, SqL.of hO1, rfl, sc, _, rfl, ?_⟩
      rw [decide_eq_false n0]
      dsimp only
      rw [if_neg (by decide)]
      refine ⟨_, rfl, rfl, _, rfl, ?_⟩
      dsimp only
      rw [if_neg (by decide)]
      refine ⟨_, rfl, O, _, 1, rm, rfl, rfl, SqL.of hO1, rfl, rfl, _, rfl, ?_⟩
      dsimp only
      have c1' : ChS (fun z => z = D ∨ z = O ∨ z = R) H H1 := c1.imp fun _ z => .inl z
      rcases hrm with rfl | ⟨r, rfl⟩
      · rw [if_neg (by decide)]
        refine ⟨_, rfl, _, rfl, O, _, 0, .ref R, rfl, rfl, SqL.of hO1, rfl, _, rfl, R, zs, n, n, rfl, rfl, hR1, ixN_k (by omega), ?_⟩
        exact last H1 e1 s1 hO1 hR1 c1'
      · rw [if_pos (by rfl)]
        refine ⟨_, rfl, O, _, 1, .int r, rfl, rfl, SqL.of hO1, rfl, r, 1, rfl, rfl, _, rfl, O, _, 1, 1, rfl, rfl, hO1, rfl, ?_⟩
        have hO2 : upd H1 O (HO.lst ([V.ref R, V.int r].set 1 (V.int (r - 1)))) O = some (.lst [.ref R, .int (r - 1)]) := upd_same
        have hR2 : upd H1 O (HO.lst ([V.ref R, V.int r].set 1 (V.int (r - 1)))) R = some (.lst zs) := by rw [upd_ne nOR.symm]; exact hR1
        refine ⟨_, rfl, _, rfl, O, _, 0, .ref R, rfl, rfl, SqL.of hO2, rfl, _, rfl, R, zs, n, n, rfl, rfl, hR2, ixN_k (by omega), ?_⟩
        exact last _ (by rw [upd_ne nOD.symm]; exact e1) (sqN_updL hO1 s1) hO2 hR2 (c1'.trans (.put (.inr (.inl rfl))))
end
end Y

namespace Y
open PySem PySem.Spec PyProof.Rows L2 RT RZ TL PySem.NumText
/-! ### blocks and rows of blocks, by the heap -/
def Bk (K : PySem.W.Frag) (H : Hp) (v : V) (ns : List Int) : Prop := ∃ a, v = .ref a ∧ SqN K H a (ns.map V.int)
def Bks (K : PySem.W.Frag) (H : Hp) (ys : List V) (bs : List (List Int)) : Prop := ys.length = bs.length ∧ ∀ (i : Nat) (v : V) (ns : List Int), ys[i]? = some v → bs[i]? = some ns → Bk K H v ns
/-- only the tuples -/
def frzH (H : Hp) : Hp := fun a => match H a with
  | some (.frz o u) => some (.frz o u)
  | _ => none
theorem frzH_le {H : Hp} : Le (frzH H) H := fun a o h => by
  unfold frzH at h
  split at h
  · rename_i o' u e
    rw [e]
    exact h
  · cases h
theorem frzH_sq {K : PySem.W.Frag} {H : Hp} {a : Addr} {xs : List V} (h : SqN K H a xs) : SqN K (frzH H) a xs := by
  rcases h with ⟨o, d, h⟩ | h
  · refine .inl ⟨o, d, ?_⟩
    unfold frzH
    rw [h]
  · exact .inr h
theorem frzH_no {H : Hp} {a : Addr} {xs : List V} (h : H a = some (.lst xs)) : frzH H a = none := by
  unfold frzH
  rw [h]
abbrev blT (ns : List Int) : T := .tup (ns.map T.int)
theorem Bk.tv {K : PySem.W.Frag} {H : Hp} {v : V} {ns : List Int} (h : Bk K H v ns) : Tv K (frzH H) (blT ns) v := by
  obtain ⟨a, rfl, h⟩ := h
  exact ⟨a, _, rfl, frzH_sq h, tvl_ints ns⟩
theorem Bks.tvl {K : PySem.W.Frag} {H : Hp} : ∀ {ys : List V} {bs : List (List Int)}, Bks K H ys bs → TvL K (frzH H) (bs.map blT) ys
  | [], [], _ => rfl
  | [], _ :: _, h => by cases h.1
  | _ :: _, [], h => by cases h.1
  | y :: ys, b :: bs, h => ⟨y, ys, rfl, (h.2 0 y b rfl rfl).tv, Bks.tvl ⟨Nat.succ.inj h.1, fun i v ns h1 h2 => h.2 (i + 1) v ns h1 h2⟩⟩
theorem Bks.set {K : PySem.W.Frag} {H : Hp} {ys : List V} {bs : List (List Int)} {n : Nat} {v : V} {ns : List Int} (h : Bks K H ys bs) (hv : Bk K H v ns) : Bks K H (ys.set n v) (bs.set n ns) := by
  refine ⟨by rw [List.length_set, List.length_set]; exact h.1, fun i u ms h1 h2 => ?_⟩
  by_cases e : n = i
  · subst e
    by_cases hl : n < ys.length
    · rw [List.getElem?_set_self hl] at h1
      rw [List.getElem?_set_self (by rw [← h.1]; exact hl)] at h2
      cases h1
      cases h2
      exact hv
    · rw [List.getElem?_eq_none (by rw [List.length_set]; omega)] at h1
      cases h1
  · rw [List.getElem?_set_ne e] at h1 h2
    exact h.2 i u ms h1 h2
/-- a change that leaves the tuples -/
def TupS (H H' : Hp) : Prop := ∀ a o u, H a = some (.frz o u) → H' a = some (.frz o u)
theorem TupS.sq {K : PySem.W.Frag} {H H' : Hp} {a : Addr} {xs : List V} (c : TupS H H') (h : SqN K H a xs) : SqN K H' a xs := by
  rcases h with ⟨o, d, h⟩ | h
  · exact .inl ⟨o, d, c _ _ _ h⟩
  · exact .inr h
theorem TupS.bk {K : PySem.W.Frag} {H H' : Hp} {v : V} {ns : List Int} (c : TupS H H') (h : Bk K H v ns) : Bk K H' v ns := let ⟨a, e, h⟩ := h; ⟨a, e, c.sq h⟩
theorem TupS.bks {K : PySem.W.Frag} {H H' : Hp} {ys : List V} {bs : List (List Int)} (c : TupS H H') (h : Bks K H ys bs) : Bks K H' ys bs := ⟨h.1, fun i v ns h1 h2 => c.bk (h.2 i v ns h1 h2)⟩
theorem TupS.trans {H H1 H2 : Hp} (c : TupS H H1) (d : TupS H1 H2) : TupS H H2 := fun a o u h => d _ _ _ (c _ _ _ h)
theorem ChS.tup {S : Addr → Prop} {H H' : Hp} (c : ChS S H H') (n : ∀ a, S a → ∀ o u, H a ≠ some (.frz o u)) : TupS H H' := fun a o u h => c a _ (fun z => n a z o u h) h
theorem ChS.tup0 {H H' : Hp} (c : ChS (fun _ => False) H H') : TupS H H' := c.tup fun _ z => z.elim
theorem ChS.tupD {H H' : Hp} {d l : Addr} {r : List V} (c : ChS (fun z => z = d) H H') (h : Dr H d l r) : TupS H H' := c.tup fun a e o u z => by
  obtain ⟨ys, h⟩ := h.lst
  rw [e, h] at z
  cases z
/-! ### the value layer's defs, by the heap -/
def w0 : Wld where
  D _ := False
  A _ := False
  ok _ := True
  sub _ h := h
  stb _ _ _ _ := trivial
  al _ _ _ h := h.elim
def spAlkH (K : PySem.W.Frag) : Sp := fun vs H Q _ => ∃ (p q : Addr) (ys zs : List V) (bs : List (List Int)), vs = [.ref p, .ref q] ∧ SqN K H p ys ∧ SqN K H q zs ∧ Bks K H ys bs ∧ Bks K H zs bs ∧ bs.length ≤ 1000 ∧ (∀ b ∈ bs, b.length ≤ 1000) ∧
  ∀ H', ChS (fun _ => False) H H' → Q (.bl true) H'
def spBlkH (K : PySem.W.Frag) (d l : Addr) : Sp := fun vs H Q _ => vs = [.ref d] ∧ Dr H d l [] ∧ ∀ (H' : Hp) (b : Addr) (ns : List Int), ns.length ≤ 250 → SqN K H' b (ns.map V.int) → Dr H' d l [] → ChS (fun z => z = d) H H' → Q (.ref b) H'
section
variable {P : Program} {w : World} {K : PySem.W.Frag} {mg : Str → Option Value} {base : Heap}
theorem cal_alk {k : Nat} (C : CalQ P w K mg base w0 "_law_alike" k ["_law_told", "_law_due"] (pfAlk 4)) : Cal P w K mg base "_law_alike" k ["_law_told", "_law_due"] (spAlkH K) := by
  obtain ⟨f, fd, h1, h2, h3, h4⟩ := C
  refine ⟨f, fd, h1, h2, h3, h4.imp fun vs H Q E q => ?_⟩
  obtain ⟨p, q', ys, zs, bs, rfl, sp, sq, by_, bz, bl, bb, k⟩ := q
  refine ⟨[.tup (bs.map blT), .tup (bs.map blT)], frzH H, fun τ f => τ = .bl true ∧ f = false, frzH_le, trivial, fun a z => z.elim, ⟨_, _, rfl, ⟨p, ys, rfl, frzH_sq sp, by_.tvl⟩, _, _, rfl, ⟨q', zs, rfl, frzH_sq sq, bz.tvl⟩, rfl⟩, ⟨_, rfl, ?_, rfl, rfl⟩, fun τ f v F' H' e A vx => ?_⟩
  · refine .tup 3 _ (by rw [List.length_map]; exact bl) fun x hx => ?_
    obtain ⟨b, hb, rfl⟩ := List.mem_map.mp hx
    refine .tup 2 _ (by rw [List.length_map]; exact bb b hb) fun y hy => ?_
    obtain ⟨i, _, rfl⟩ := List.mem_map.mp hy
    exact .int 1 i
  · obtain ⟨rfl, rfl⟩ := e
    rw [show v = .bl true from vx]
    exact k H' fun a o n e => A.kp a o e n
theorem cal_blk {k : Nat} {d l : Addr} (C : CalQ P w K mg base (wt d l 0 []) "_law_block" k ["_law_d"] (pfBlk d)) : Cal P w K mg base "_law_block" k ["_law_d"] (spBlkH K d l) := by
  obtain ⟨f, fd, h1, h2, h3, h4⟩ := C
  refine ⟨f, fd, h1, h2, h3, h4.imp fun vs H Q E q => ?_⟩
  obtain ⟨rfl, dr, k⟩ := q
  have hd : frzH H d = none := by
    obtain ⟨ys, h⟩ := dr.lst
    exact frzH_no h
  have hA : ∀ {a : Addr}, (wt d l 0 []).D a → a = d := fun {a} h => h.elim (fun z => z) fun z => by cases z
  refine ⟨[.adr d], frzH H, fun τ f => ∃ ns : List Int, ns.length ≤ 250 ∧ τ = .tup (ns.map T.int) ∧ f = false, frzH_le, ⟨⟨[], rfl, dr⟩, fun P hP => by cases hP⟩, fun a z => by rw [hA z]; exact hd, ⟨_, _, rfl, rfl, rfl⟩, ⟨rfl, fun ns hn => ⟨ns, hn, rfl, rfl⟩⟩, fun τ f v F' H' e A vx => ?_⟩
  obtain ⟨ns, hn, rfl, rfl⟩ := e
  obtain ⟨a, xs, rfl, hs, hx⟩ := vx
  obtain rfl := TvL.ints ns rfl hx
  obtain ⟨⟨rs, e0, dr'⟩, _⟩ := A.ok
  obtain rfl : rs = [] := List.length_eq_zero_iff.mp e0
  exact k H' a ns hn (sqn_le A.fh hs) dr' fun b o n e => A.kp b o e fun z => n (hA z)
theorem pss_anyE {X : Cx} {ι : Type} {st : List Stmt} {t : ι → TS} (h : ∀ i, PSs X st (t i)) : PSs X st (fun D σ H => ∃ i, t i D σ H) := ⟨fun pins s σ H D I hq => by
  obtain ⟨i, hq⟩ := hq
  exact (h i).run pins s σ H D I hq⟩
end
/-! ### a statement of the value layer among those by the heap -/
def tS (K : PySem.W.Frag) (W : Wld) (p : PSt) : TS := fun D σ H => ∃ (B F0 : Hp) (ρ : PS') (F : Hp) (Δ : PEnds), Rep K W B F0 ρ σ F H ∧ p Δ ρ ∧ EndsOk K W B F0 F Δ D
theorem QS.can {X : Cx} {W : Wld} {st : Stmt} {p : PSt} (h : QS X W st p) : PS X st (tS X.K W p) := by
  obtain ⟨t, h1, h2⟩ := h.ex
  refine ⟨fun pins s σ H D I hq => ?_⟩
  obtain ⟨B, F0, ρ, F, Δ, R, hp, k⟩ := hq
  exact h1.run pins s σ H D I (h2 B F0 ρ σ F H Δ D R hp k)
theorem tS_go {K : PySem.W.Frag} {W : Wld} {p : PSt} {D : Ends} {σ : L2.St} {H B F0 F : Hp} {ρ : PS'} (PV : PS' → Prop) (R : Rep K W B F0 ρ σ F H) (hp : p { nx := PV, rt := fun _ _ => False, bk := fun _ => False, ct := fun _ => False } ρ)
    (k : ∀ ρ' σ' F' H', Rep K W B F0 ρ' σ' F' H' → Le F F' → PV ρ' → D.nx σ' H') : tS K W p D σ H :=
  ⟨B, F0, ρ, F, _, R, hp, fun ρ' σ' F' H' R' le q => k ρ' σ' F' H' R' le q, fun _ _ _ _ _ _ _ _ _ _ z => z.elim, fun _ _ _ _ _ _ z => z.elim, fun _ _ _ _ _ _ z => z.elim⟩
end Y

namespace Y
open PySem PySem.Spec PyProof.Rows L2 RT RZ TL PySem.NumText
/-! ### a disk is made -/
theorem mk_use {K : PySem.W.Frag} {C b : Addr} {H : Hp} {Q : Addr → Hp → Prop} {E : XK} {xs : List V} {vr : V} {g : Addr → List V} (hb : SqN K H b xs)
    (k : ∀ (x dx : Addr) (H' : Hp) (p : Addr) (ys : List V), H x = none → H' x = some (.ins C dx (dkF p vr)) → ChS (fun _ => False) H H' → SqN K H' p ys → ((xs ≠ [] ∧ ys = xs) ∨ (xs = [] ∧ ∃ e, ys = List.replicate 32 (.ref e) ∧ SqN K H' e [])) → Q x H') (hg : ∀ x, g x = [.ref x, .ref b, vr]) :
    ∀ x dx, H x = none → H dx = none → dx ≠ x → spDinit K C (g x) (upd (upd H dx (.own x)) x (.ins C dx [])) (fun v H2 => v = .non ∧ Q x H2) E := fun x dx hx hdx ne => by
  rw [hg]
  have c0 : ChS (fun _ => False) H (upd (upd H dx (.own x)) x (.ins C dx [])) := (ChS.new hdx).trans (.new (by rw [upd_ne ne.symm]; exact hx))
  refine ⟨x, dx, b, xs, vr, rfl, upd_same, c0.tup0.sq hb, fun H' p ys h1 c1 s1 h2 => ⟨rfl, ?_⟩⟩
  refine k x dx H' p ys hx h1 (fun a o _ e => ?_) s1 ?_
  · exact c1 a o (fun z => by rw [z, hx] at e; cases e) (c0 a o (fun z => z) e)
  · rcases h2 with ⟨a1, _, a3⟩ | h2
    · exact .inl ⟨a1, a3⟩
    · exact .inr h2
def PairOk (K : PySem.W.Frag) (C : Addr) (H : Hp) (D O R : Addr) : Prop := ∃ (dx p : Addr) (ys zs : List V) (rm : V) (bs : List (List Int)), H D = some (.ins C dx (dkF p rm)) ∧ SqN K H p ys ∧ H O = some (.lst [.ref R, rm]) ∧ H R = some (.lst zs) ∧ Bks K H ys bs ∧ Bks K H zs bs ∧ bs.length = 32 ∧ (∀ b ∈ bs, b.length ≤ 250) ∧ roomV rm
theorem PairOk.keep {K : PySem.W.Frag} {C : Addr} {H H' : Hp} {D O R : Addr} {S : Addr → Prop} (h : PairOk K C H D O R) (c : ChS S H H') (t : TupS H H') (n1 : ¬ S D) (n2 : ¬ S O) (n3 : ¬ S R) : PairOk K C H' D O R := by
  obtain ⟨dx, p, ys, zs, rm, bs, h1, h2, h3, h4, h5, h6, h7⟩ := h
  exact ⟨dx, p, ys, zs, rm, bs, c _ _ n1 h1, t.sq h2, c _ _ n2 h3, c _ _ n3 h4, t.bks h5, t.bks h6, h7⟩
theorem bks_of {K : PySem.W.Frag} {F H : Hp} (le : Le F H) : ∀ {bs : List (List Int)} {xs : List V}, TvL K F (bs.map blT) xs → Bks K H xs bs
  | [], xs, h => by
    rw [show xs = [] from h]
    exact ⟨rfl, fun i v ns h1 => by simp at h1⟩
  | b :: bs, _, h => by
    obtain ⟨x, r, rfl, ⟨a, ys, rfl, h1, h2⟩, h3⟩ := h
    obtain rfl := TvL.ints b rfl h2
    obtain ⟨e, k⟩ := bks_of le h3
    refine ⟨congrArg Nat.succ e, fun i v ns g1 g2 => ?_⟩
    cases i with
    | zero =>
      cases g1
      cases g2
      exact ⟨a, rfl, sqn_le le h1⟩
    | succ i => exact k i v ns g1 g2
theorem bks_rep {K : PySem.W.Frag} {H : Hp} {e : Addr} (h : SqN K H e []) (n : Nat) : Bks K H (List.replicate n (.ref e)) (List.replicate n []) := by
  refine ⟨by rw [List.length_replicate, List.length_replicate], fun i v ns g1 g2 => ?_⟩
  rw [List.getElem?_replicate] at g1 g2
  by_cases hi : i < n
  · rw [if_pos hi] at g1 g2
    cases g1
    cases g2
    exact ⟨e, rfl, h⟩
  · rw [if_neg hi] at g1
    cases g1
theorem rel_bls {n : Nat} : ∀ {ts ys : List T}, ys.length = ts.length → (∀ (i : Nat) (t y : T), ts[i]? = some t → ys[i]? = some y → ∃ ns : List Int, ns.length ≤ n ∧ y = blT ns) → ∃ bs : List (List Int), ys = bs.map blT ∧ bs.length = ts.length ∧ ∀ b ∈ bs, b.length ≤ n
  | [], [], _, _ => ⟨[], rfl, rfl, fun b hb => by cases hb⟩
  | [], _ :: _, h, _ => by cases h
  | _ :: _, [], h, _ => by cases h
  | t :: ts, y :: ys, h, k => by
    obtain ⟨ns, h1, rfl⟩ := k 0 t y rfl rfl
    obtain ⟨bs, rfl, e, kb⟩ := rel_bls (Nat.succ.inj h) fun i t y g1 g2 => k (i + 1) t y g1 g2
    exact ⟨ns :: bs, rfl, congrArg Nat.succ e, fun b hb => by
      rcases List.mem_cons.mp hb with rfl | hb
      · exact h1
      · exact kb b hb⟩
def spBegun (K : PySem.W.Frag) (C d l : Addr) : Sp := fun vs H Q _ => vs = [.ref d] ∧ Dr H d l [] ∧ ∀ (H' : Hp) (t D O R : Addr), PairOk K C H' D O R → Dr H' d l [] → ChS (fun z => z = d) H H' → H D = none → H O = none → H R = none → SqN K H' t [.ref D, .ref O] → Q (.ref t) H'
section
variable {P : Program} {w : World} {K : PySem.W.Frag} {mg : Str → Option Value} {base : Heap} {C fI fW pB gB e0 : Addr} {fdI : FuncData}
open Classical in
theorem ok_begun {k : Nat} (D : Df K mg "_law_begun" s_begun) (TD : DCl K mg C fI fW pB gB)
    (FI : FunD K "__init__" "Disk.__init__" (defArgs s_Dinit) (defBody s_Dinit) (defScope s_Dinit) [.ref e0, .non] [] fI fdI) (F1 : FnOk P w K mg base CX0 1 fI fdI ["self", "blocks", "room"] (spDinit K C)) (he0 : ∀ H, SqN K H e0 [])
    (C_draw : ∀ {d l : Addr}, CalQ P w K mg base (wt d l 0 []) "_law_draw" k ["_law_d", "_law_many"] (pDraw d)) (C_block : ∀ {d l : Addr}, CalQ P w K mg base (wt d l 0 []) "_law_block" k ["_law_d"] (pfBlk d))
    (m_range : mg "range" = none) (m_tuple : mg "tuple" = none) (h2 : 2 ≤ k) :
    ∀ d l, Cal P w K mg base "_law_begun" (k + 1) ["_law_d"] (spBegun K C d l) := by
  intro d l
  have C_draw := C_draw (d := d) (l := l)
  have C_block := C_block (d := d) (l := l)
  obtain ⟨f, fd, F, g⟩ := D
  obtain ⟨ds1, v1, b1⟩ := FI.binds1 (ps := ["self", "blocks", "room"]) 1 0 (List.cons_ne_nil _ _) rfl (fun T kV doc pm an cdv ct us its l1 l2 => match us, its, l1, l2 with | [_], [_, _], _, _ => ⟨_, rfl, rfl⟩)
  obtain ⟨ds4, v4, b4⟩ := FI.binds1 (ps := ["self", "blocks", "room"]) 3 2 (List.cons_ne_nil _ _) rfl (fun T kV doc pm an cdv ct us its l1 l2 => match us, its, l1, l2 with | [_, _, _], [_, _], _, _ => ⟨_, rfl, rfl⟩)
  obtain ⟨it2, b2⟩ := FI.kbindsD (ps := ["self", "blocks", "room"]) 1 ["room"] (fun us its ws => us ++ (its.take 1 ++ ws)) (List.cons_ne_nil _ _) (fun r1 rd rz => r1.append ((rd.take 1).append rz)) (fun T kV doc pm an cdv ct us its ws l1 l2 l3 => match us, its, ws, l1, l2, l3 with | [_], [_, _], [_], _, _, _ => ⟨_, rfl, rfl⟩)
  obtain ⟨it3, b3⟩ := FI.kbindsD (ps := ["self", "blocks", "room"]) 1 ["blocks"] (fun us its ws => us ++ (ws ++ its.drop 1)) (List.cons_ne_nil _ _) (fun r1 rd rz => r1.append (rz.append (rd.drop 1))) (fun T kV doc pm an cdv ct us its ws l1 l2 l3 => match us, its, ws, l1, l2, l3 with | [_], [_, _], [_], _, _, _ => ⟨_, rfl, rfl⟩)
  refine ⟨f, fd, g, F.kp, F.bindsN (fun _ _ _ _ _ _ us h => match us, h with | [_], _ => rfl), ?_⟩
  refine F.ok sc_begun (fun vs H Q E h => ?_) (fun cdv A outer s H vs Q E hr h => ?_)
  · obtain ⟨rfl, _⟩ := h
    rfl
  · obtain ⟨rfl, dr, q⟩ := h
    refine ⟨_, pss_cons (QS.can (W := wt d l 0 []) (qs_setLc (i := 1) rfl (own := [("_law_number", 4)]) sc_begun.nd rfl rfl (sw_true rfl rfl rfl (by decide +kernel)) (by decide) (qi_range1 (by rfl) m_range qe_int) (blkOk_by (N := ["_law_d", "_law_rows", "_law_limit", "_law_way", "_law_number"]) (sc := defScope s_begun) (by decide +kernel)) (fun _ _ _ _ _ => (qg_name (pg_name (i := 4) sc_begun.nd rfl (.inl rfl)))) (fun _ _ _ _ _ => qts_nil) (fun _ _ _ _ _ => (qe_tup qa_nil))))
      (pss_cons (QS.can (W := wt d l 0 []) (qs_set (i := 2) sc_begun.nd rfl (.inl rfl) (qe_call C_draw (hr.mono (by omega)) (by rfl) (qa_cons (qe_name (pv 0)) (qa_cons qe_int qa_nil)))))
      (pss_cons (QS.can (W := wt d l 0 []) (qs_set (i := 3) sc_begun.nd rfl (.inl rfl) (qe_call C_draw (hr.mono (by omega)) (by rfl) (qa_cons (qe_name (pv 0)) (qa_cons qe_int qa_nil)))))
      (pss_cons (ps_if (pt_cmpR op_eq (pv 3) pe_int (nomark _)) (pss_one (ps_ret (pe_tupN (pa_cons (pe_make0 TD.mkC F1 (hr.mono (by omega)) (by rfl) TD.gC b1 v1 pass0) (pa_cons (pe_lst (pa_cons (pv 1) (pa_cons pe_non pa_nil))) pa_nil))))) pss_nil)
      (pss_cons (ps_if (pt_cmpR op_eq (pv 3) pe_int (nomark _)) (pss_one (ps_ret (pe_tupN (pa_cons (pe_makeK0 TD.mkC F1 (hr.mono (by omega)) (by rfl) TD.gC b2 pass0 (pk_cons (pv 2) pk_nil)) (pa_cons (pe_lst (pa_cons (pv 1) (pa_cons (pv 2) pa_nil))) pa_nil))))) pss_nil)
      (pss_cons (QS.can (W := wt d l 0 []) (qs_setLc (i := 1) rfl (own := [("_law_number", 4)]) sc_begun.nd rfl rfl (sw_true rfl rfl rfl (by decide +kernel)) (by decide) (qi_range1 (by rfl) m_range qe_int) (blkOk_by (N := ["_law_d", "_law_rows", "_law_limit", "_law_way", "_law_number"]) (sc := defScope s_begun) (by decide +kernel)) (fun _ _ _ _ _ => (qg_name (pg_name (i := 4) sc_begun.nd rfl (.inl rfl)))) (fun _ _ _ _ _ => qts_nil) (fun _ _ _ _ _ => (qe_call C_block (hr.mono (by omega)) (by rfl) (qa_cons (qe_name (pv 0)) qa_nil)))))
      (pss_cons (ps_if (pt_cmpR op_eq (pv 3) pe_int (nomark _)) (pss_one (ps_ret (pe_tupN (pa_cons (pe_makeK0 TD.mkC F1 (hr.mono (by omega)) (by rfl) TD.gC b3 pass0 (pk_cons (pe_callTy call_tupleN (by rfl) m_tuple (by decide +kernel) (pa_cons (pv 1) pa_nil)) pk_nil)) (pa_cons (pe_lst (pa_cons (pv 1) (pa_cons pe_non pa_nil))) pa_nil))))) pss_nil)
      (pss_one (ps_ret (pe_tupN (pa_cons (pe_make TD.mkC F1 (hr.mono (by omega)) (by rfl) TD.gC b4 v4 pass0 (pa_cons (pe_callTy call_tupleN (by rfl) m_tuple (by decide +kernel) (pa_cons (pv 1) pa_nil)) (pa_cons (pv 2) pa_nil))) (pa_cons (pe_lst (pa_cons (pv 1) (pa_cons (pv 2) pa_nil))) pa_nil))))))))))), ?_⟩
    have R0 : Rep K (wt d l 0 []) _ (fun _ => none) (startP ["_law_d", "_law_rows", "_law_limit", "_law_way", "_law_number"] [.adr d]) (L2.start ["_law_d", "_law_rows", "_law_limit", "_law_way", "_law_number"] [.ref d]) (fun _ => none) H :=
      rep_start (fun _ _ z => by cases z) ⟨⟨[], rfl, dr⟩, fun P hP => by cases hP⟩ (fun _ _ => rfl) ⟨_, _, rfl, rfl, rfl⟩
    have fin : ∀ (H4 : Hp) (R D dx p : Addr) (ys zs : List V) (bs : List (List Int)) (rm : V), Dr H4 d l [] → ChS (fun z => z = d) H H4 → H4 D = some (.ins C dx (dkF p rm)) → SqN K H4 p ys → H4 R = some (.lst zs) → Bks K H4 ys bs → Bks K H4 zs bs → bs.length = 32 → (∀ b ∈ bs, b.length ≤ 250) → roomV rm → H D = none → H R = none →
        ∀ O, H4 O = none → ∀ (t : Addr) (o : Obj), upd H4 O (.lst [.ref R, rm]) t = none → o.dict = none → Q (.ref t) (upd (upd H4 O (.lst [.ref R, rm])) t (.frz o (.tup [.ref D, .ref O]))) := fun H4 R D dx p ys zs bs rm dr4 c4 hD hp hR b1 b2 lb hb hr nD nR O hO t o ht hd => by
      have c5 : ChS (fun _ => False) H4 (upd (upd H4 O (.lst [.ref R, rm])) t (.frz o (.tup [.ref D, .ref O]))) := (ChS.new hO).trans (.new ht)
      have dr5 : Dr (upd (upd H4 O (.lst [.ref R, rm])) t (.frz o (.tup [.ref D, .ref O]))) d l [] := dr4.same fun b x e => c5 b x (fun z => z) e
      refine q _ t D O R ⟨dx, p, ys, zs, rm, bs, c5 _ _ (fun z => z) hD, c5.tup0.sq hp, ?_, c5 _ _ (fun z => z) hR, c5.tup0.bks b1, c5.tup0.bks b2, lb, hb, hr⟩ dr5 (c4.trans (c5.imp fun _ z => z.elim)) nD ?_ nR (.inl ⟨o, hd, upd_same⟩)
      · exact (ChS.new (S := fun _ => False) ht) _ _ (fun z => z) upd_same
      · cases e : H O with
        | none => rfl
        | some u =>
          by_cases z : O = d
          · obtain ⟨ys, h⟩ := dr4.lst
            rw [z, h] at hO
            cases hO
          · rw [c4 O u z e] at hO
            cases hO
    obtain ⟨rb, erb⟩ : ∃ rb, rb = (List.replicate 32 ([] : List Int)).map blT := ⟨_, rfl⟩
    refine tS_go (fun ρ => ρ = [.fz (.adr d), .ow rb, .no, .no, .no]) R0 ?_ fun ρ1 σ1 F1' H1 R1 le1 e1 => ?_
    · unfold startP
      simp only [↓reduceIte, ↓sSeq, ↓sAsg, ↓sIf, ↓sRet, ↓sRetN, ↓sExpr, ↓sNext, ↓sBreak, ↓sCont, ↓sAug, ↓sFor, ↓gN, ↓pIx, ↓pC, ↓pTup, ↓pLst, ↓pCons, ↓pNil, ↓pStar, ↓pOp, ↓pTB, ↓pTru, ↓pTAnd, ↓pTOr, ↓pTNot, ↓pAndV, ↓pOrV, ↓pNotV, ↓pIf, ↓pCall, ↓pLen, ↓pIsi, ↓pDget, ↓gDset, ↓gSubT, ↓PEq, ↓PNe, ↓pChain, ↓pNeg, ↓pSl, ↓pNoPart, ↓pPart, ↓pIter, ↓pRng1, ↓pRng2, ↓pEnum, ↓pRev, ↓pZip, ↓pMet, ↓pMet0, ↓pMut, ↓pLc, ↓pLRng1, ↓pLRng2, ↓pYes, ↓pRE, ↓startP, ↓pWords, ↓pSplit, ↓pGen, ↓pSum, ↓pLenSt, ↓pDIx, ↓pCallV, ↓pCallM, ↓PInT, ↓gLt, ↓gLe, ↓gGt, ↓gGe, ↓pV_f0, ↓pV_o0, ↓pRV_f0, ↓pRV_o0, ↓lk_f0, ↓lk_o0, ↓sRV_f0, ↓sRV_o0, ↓pV_f1, ↓pV_o1, ↓pRV_f1, ↓pRV_o1, ↓lk_f1, ↓lk_o1, ↓sRV_f1, ↓sRV_o1, ↓pV_f2, ↓pV_o2, ↓pRV_f2, ↓pRV_o2, ↓lk_f2, ↓lk_o2, ↓sRV_f2, ↓sRV_o2, ↓pV_f3, ↓pV_o3, ↓pRV_f3, ↓pRV_o3, ↓lk_f3, ↓lk_o3, ↓sRV_f3, ↓sRV_o3, ↓pV_f4, ↓pV_o4, ↓pRV_f4, ↓pRV_o4, ↓lk_f4, ↓lk_o4, ↓sRV_f4, ↓sRV_o4, ↓pV_f5, ↓pV_o5, ↓pRV_f5, ↓pRV_o5, ↓lk_f5, ↓lk_o5, ↓sRV_f5, ↓sRV_o5, ↓pV_f6, ↓pV_o6, ↓pRV_f6, ↓pRV_o6, ↓lk_f6, ↓lk_o6, ↓sRV_f6, ↓sRV_o6, ↓pV_f7, ↓pV_o7, ↓pRV_f7, ↓pRV_o7, ↓lk_f7, ↓lk_o7, ↓sRV_f7, ↓sRV_o7, ↓pV_f8, ↓pV_o8, ↓pRV_f8, ↓pRV_o8, ↓lk_f8, ↓lk_o8, ↓sRV_f8, ↓sRV_o8, ↓pV_f9, ↓pV_o9, ↓pRV_f9, ↓pRV_o9, ↓lk_f9, ↓lk_o9, ↓sRV_f9, ↓sRV_o9, ↓pV_f10, ↓pV_o10, ↓pRV_f10, ↓pRV_o10, ↓lk_f10, ↓lk_o10, ↓sRV_f10, ↓sRV_o10, ↓pV_f11, ↓pV_o11, ↓pRV_f11, ↓pRV_o11, ↓lk_f11, ↓lk_o11, ↓sRV_f11, ↓sRV_o11, ↓pV_f12, ↓pV_o12, ↓pRV_f12, ↓pRV_o12, ↓lk_f12, ↓lk_o12, ↓sRV_f12, ↓sRV_o12, ↓pV_f13, ↓pV_o13, ↓pRV_f13, ↓pRV_o13, ↓lk_f13, ↓lk_o13, ↓sRV_f13, ↓sRV_o13, ↓lk_fz, ↓of_fn, ↓of_fb, ↓of_fi, ↓of_fs, ↓of_ft, ↓of_fl, ↓of_ol, ↓of_ff, ↓ad_i, ↓ad_s, ↓ad_l, ↓ad_t, ↓su_i, ↓mu_i, ↓mu_l, ↓mo_i, ↓fd_i, ↓pw_i, ↓an_i, ↓ci_i, ↓is_n, ↓is_nn, ↓in_t, ↓in_l, ↓in_s, ↓ix_l, ↓ix_t, ↓ix_s, ↓sl_l, ↓sl_t, ↓sl_s, ↓kn_i, ↓kp_i, ↓kr1, ↓kr2, ↓ke_l, ↓kz_l, ↓kz_t, ↓klr1, ↓klr2, ↓gt_e, ↓gt_w, ↓gs_n, ↓gs_c, ↓ltS_i, ↓ltS_s, ↓pChain3, ↓pRevL, ↓pEnumA, ↓kea_l, ↓kea_t, ↓pZipA, ↓kza_ll, ↓kza_lt, ↓kza_tl, ↓kza_tt, ↓pTR, ↓ktr_l, ↓ktr_t, ↓inA_t, ↓inA_l, ↓inA_s, ↓pDix, ↓pDNew, ↓gDsub, ↓pDc, ↓pDZip, ↓pSortSt, ↓dix_i, ↓dix_s, ↓din_i, ↓din_s, ↓kds_i, ↓kds_s, ↓of_od, ↓od_0, ↓od_1, ↓od_2, ↓od_3, ↓od_4, ↓od_5, ↓od_6, ↓od_7, ↓od_8, ↓od_9, ↓od_10, ↓od_11, ↓od_12, ↓od_13, nc_0, nc_1, nc_2, nc_3, nc_4, nc_5, nc_6, nc_7, nc_8, nc_9, nc_10, nc_11, nc_12, eq_ii, eq_ss, eq_nn, eq_bb, eq_st, eq_ts, eq_si, eq_is, eq_it, eq_ti, cmp_i, cmp_b, cmp_n, sc_i, sc_s, sc_b, sc_n, flat_i, flat_s, flat_b, flat_n, tru_n, tru_b, tru_i, tru_t, tru_l, items_t, items_l, len_t, len_l, len_w, iter_t, iter_l, iter_s, isN_n, isN_i, isN_s, isN_t, isN_l, isN_b, at_0, at_1, at_2, at_3, ib_tn, ib_tb, ib_ti, ib_ts, ib_tt, ib_tl, ib_sn, ib_sb, ib_si, ib_ss, ib_st, ib_sl, ib_in, ib_ib, ib_ii, ib_is, ib_it, ib_il, ib_bn, ib_bb, ib_bi, ib_bs, ib_bt, ib_bl, na_n, na_b, na_i, na_s, na_t, na_l, List.getElem?_cons_zero, List.getElem?_cons_succ, List.set_cons_zero, List.set_cons_succ, List.map_cons, List.map_nil, List.length_cons, List.length_nil, List.replicate_succ, List.replicate_zero, List.cons_append, List.nil_append, List.append_nil, List.isEmpty_nil, List.isEmpty_cons, List.cons.injEq, Option.some.injEq, T.int.injEq, T.str.injEq, T.bl.injEq, T.tup.injEq, T.lst.injEq, T.adr.injEq, Sl.fz.injEq, Sl.own.injEq, T.dct.injEq, T.wtp.injEq, exists_eq_left, exists_eq_left', exists_eq_right, exists_eq_right', exists_eq, exists_eq', exists_and_left, exists_and_right, exists_const, exists_false, and_true, true_and, and_false, false_and, or_true, true_or, or_false, false_or, not_true_eq_false, not_false_eq_true, if_true, if_false, ite_true, ite_false, Bool.not_true, Bool.not_false, Bool.true_or, Bool.or_true, Bool.false_or, Bool.or_false, Bool.true_and, Bool.and_true, Bool.false_and, Bool.and_false, Bool.false_eq_true, Bool.true_eq_false, eq_self, decide_eq_true_eq, decide_true, decide_false, Bool.decide_eq_true, Bool.not_eq_true, decide_eq_false_iff_not, Bool.and_eq_true, Bool.or_eq_true, Bool.not_eq_true', reduceCtorEq, ne_eq, Nat.le_refl, Nat.reduceAdd, Nat.reduceSub, Nat.reduceLeDiff, Nat.reduceLT, implies_true, forall_const, List.any_cons, List.any_nil, List.all_cons, List.all_nil, wipeP, restore, List.getD_eq_getElem?_getD, Option.getD_some, List.mem_singleton, forall_eq, Int.reduceLT, Int.reduceLE, Int.reduceNeg, Int.reduceSub, Int.reduceAdd, Int.reduceToNat, Int.reduceEq, Int.reduceNe, String.reduceEq, and_self, or_self]
      refine ⟨by decide, by decide, ?_⟩
      refine lckT_map (fun _ => T.tup []) (by simp [rngT]) (now1 rfl) (fun t C D ht hC => ?_) ?_
      · simp only [↓reduceIte, ↓sSeq, ↓sAsg, ↓sIf, ↓sRet, ↓sRetN, ↓sExpr, ↓sNext, ↓sBreak, ↓sCont, ↓sAug, ↓sFor, ↓gN, ↓pIx, ↓pC, ↓pTup, ↓pLst, ↓pCons, ↓pNil, ↓pStar, ↓pOp, ↓pTB, ↓pTru, ↓pTAnd, ↓pTOr, ↓pTNot, ↓pAndV, ↓pOrV, ↓pNotV, ↓pIf, ↓pCall, ↓pLen, ↓pIsi, ↓pDget, ↓gDset, ↓gSubT, ↓PEq, ↓PNe, ↓pChain, ↓pNeg, ↓pSl, ↓pNoPart, ↓pPart, ↓pIter, ↓pRng1, ↓pRng2, ↓pEnum, ↓pRev, ↓pZip, ↓pMet, ↓pMet0, ↓pMut, ↓pLc, ↓pLRng1, ↓pLRng2, ↓pYes, ↓pRE, ↓startP, ↓pWords, ↓pSplit, ↓pGen, ↓pSum, ↓pLenSt, ↓pDIx, ↓pCallV, ↓pCallM, ↓PInT, ↓gLt, ↓gLe, ↓gGt, ↓gGe, ↓pV_f0, ↓pV_o0, ↓pRV_f0, ↓pRV_o0, ↓lk_f0, ↓lk_o0, ↓sRV_f0, ↓sRV_o0, ↓pV_f1, ↓pV_o1, ↓pRV_f1, ↓pRV_o1, ↓lk_f1, ↓lk_o1, ↓sRV_f1, ↓sRV_o1, ↓pV_f2, ↓pV_o2, ↓pRV_f2, ↓pRV_o2, ↓lk_f2, ↓lk_o2, ↓sRV_f2, ↓sRV_o2, ↓pV_f3, ↓pV_o3, ↓pRV_f3, ↓pRV_o3, ↓lk_f3, ↓lk_o3, ↓sRV_f3, ↓sRV_o3, ↓pV_f4, ↓pV_o4, ↓pRV_f4, ↓pRV_o4, ↓lk_f4, ↓lk_o4, ↓sRV_f4, ↓sRV_o4, ↓pV_f5, ↓pV_o5, ↓pRV_f5, ↓pRV_o5, ↓lk_f5, ↓lk_o5, ↓sRV_f5, ↓sRV_o5, ↓pV_f6, ↓pV_o6, ↓pRV_f6, ↓pRV_o6, ↓lk_f6, ↓lk_o6, ↓sRV_f6, ↓sRV_o6, ↓pV_f7, ↓pV_o7, ↓pRV_f7, ↓pRV_o7, ↓lk_f7, ↓lk_o7, ↓sRV_f7, ↓sRV_o7, ↓pV_f8, ↓pV_o8, ↓pRV_f8, ↓pRV_o8, ↓lk_f8, ↓lk_o8, ↓sRV_f8, ↓sRV_o8, ↓pV_f9, ↓pV_o9, ↓pRV_f9, ↓pRV_o9, ↓lk_f9, ↓lk_o9, ↓sRV_f9, ↓sRV_o9, ↓pV_f10, ↓pV_o10, ↓pRV_f10, ↓pRV_o10, ↓lk_f10, ↓lk_o10, ↓sRV_f10, ↓sRV_o10, ↓pV_f11, ↓pV_o11, ↓pRV_f11, ↓pRV_o11, ↓lk_f11, ↓lk_o11, ↓sRV_f11, ↓sRV_o11, ↓pV_f12, ↓pV_o12, ↓pRV_f12, ↓pRV_o12, ↓lk_f12, ↓lk_o12, ↓sRV_f12, ↓sRV_o12, ↓pV_f13, ↓pV_o13, ↓pRV_f13, ↓pRV_o13, ↓lk_f13, ↓lk_o13, ↓sRV_f13, ↓sRV_o13, ↓lk_fz, ↓of_fn, ↓of_fb, ↓of_fi, ↓of_fs, ↓of_ft, ↓of_fl, ↓of_ol, ↓of_ff, ↓ad_i, ↓ad_s, ↓ad_l, ↓ad_t, ↓su_i, ↓mu_i, ↓mu_l, ↓mo_i, ↓fd_i, ↓pw_i, ↓an_i, ↓ci_i, ↓is_n, ↓is_nn, ↓in_t, ↓in_l, ↓in_s, ↓ix_l, ↓ix_t, ↓ix_s, ↓sl_l, ↓sl_t, ↓sl_s, ↓kn_i, ↓kp_i, ↓kr1, ↓kr2, ↓ke_l, ↓kz_l, ↓kz_t, ↓klr1, ↓klr2, ↓gt_e, ↓gt_w, ↓gs_n, ↓gs_c, ↓ltS_i, ↓ltS_s, ↓pChain3, ↓pRevL, ↓pEnumA, ↓kea_l, ↓kea_t, ↓pZipA, ↓kza_ll, ↓kza_lt, ↓kza_tl, ↓kza_tt, ↓pTR, ↓ktr_l, ↓ktr_t, ↓inA_t, ↓inA_l, ↓inA_s, ↓pDix, ↓pDNew, ↓gDsub, ↓pDc, ↓pDZip, ↓pSortSt, ↓dix_i, ↓dix_s, ↓din_i, ↓din_s, ↓kds_i, ↓kds_s, ↓of_od, ↓od_0, ↓od_1, ↓od_2, ↓od_3, ↓od_4, ↓od_5, ↓od_6, ↓od_7, ↓od_8, ↓od_9, ↓od_10, ↓od_11, ↓od_12, ↓od_13, nc_0, nc_1, nc_2, nc_3, nc_4, nc_5, nc_6, nc_7, nc_8, nc_9, nc_10, nc_11, nc_12, eq_ii, eq_ss, eq_nn, eq_bb, eq_st, eq_ts, eq_si, eq_is, eq_it, eq_ti, cmp_i, cmp_b, cmp_n, sc_i, sc_s, sc_b, sc_n, flat_i, flat_s, flat_b, flat_n, tru_n, tru_b, tru_i, tru_t, tru_l, items_t, items_l, len_t, len_l, len_w, iter_t, iter_l, iter_s, isN_n, isN_i, isN_s, isN_t, isN_l, isN_b, at_0, at_1, at_2, at_3, ib_tn, ib_tb, ib_ti, ib_ts, ib_tt, ib_tl, ib_sn, ib_sb, ib_si, ib_ss, ib_st, ib_sl, ib_in, ib_ib, ib_ii, ib_is, ib_it, ib_il, ib_bn, ib_bb, ib_bi, ib_bs, ib_bt, ib_bl, na_n, na_b, na_i, na_s, na_t, na_l, List.getElem?_cons_zero, List.getElem?_cons_succ, List.set_cons_zero, List.set_cons_succ, List.map_cons, List.map_nil, List.length_cons, List.length_nil, List.replicate_succ, List.replicate_zero, List.cons_append, List.nil_append, List.append_nil, List.isEmpty_nil, List.isEmpty_cons, List.cons.injEq, Option.some.injEq, T.int.injEq, T.str.injEq, T.bl.injEq, T.tup.injEq, T.lst.injEq, T.adr.injEq, Sl.fz.injEq, Sl.own.injEq, T.dct.injEq, T.wtp.injEq, exists_eq_left, exists_eq_left', exists_eq_right, exists_eq_right', exists_eq, exists_eq', exists_and_left, exists_and_right, exists_const, exists_false, and_true, true_and, and_false, false_and, or_true, true_or, or_false, false_or, not_true_eq_false, not_false_eq_true, if_true, if_false, ite_true, ite_false, Bool.not_true, Bool.not_false, Bool.true_or, Bool.or_true, Bool.false_or, Bool.or_false, Bool.true_and, Bool.and_true, Bool.false_and, Bool.and_false, Bool.false_eq_true, Bool.true_eq_false, eq_self, decide_eq_true_eq, decide_true, decide_false, Bool.decide_eq_true, Bool.not_eq_true, decide_eq_false_iff_not, Bool.and_eq_true, Bool.or_eq_true, Bool.not_eq_true', reduceCtorEq, ne_eq, Nat.le_refl, Nat.reduceAdd, Nat.reduceSub, Nat.reduceLeDiff, Nat.reduceLT, implies_true, forall_const, List.any_cons, List.any_nil, List.all_cons, List.all_nil, wipeP, restore, List.getD_eq_getElem?_getD, Option.getD_some, List.mem_singleton, forall_eq, Int.reduceLT, Int.reduceLE, Int.reduceNeg, Int.reduceSub, Int.reduceAdd, Int.reduceToNat, Int.reduceEq, Int.reduceNe, String.reduceEq, and_self, or_self]
        exact hC _ rfl
      · rw [erb]
        rfl
    subst e1
    refine tS_go (fun ρ => ∃ li : Int, ρ = [.fz (.adr d), .ow rb, .fz (.int li), .no, .no]) R1 ?_ fun ρ2 σ2 F2 H2 R2 le2 e2 => ?_
    · simp only [↓reduceIte, ↓sSeq, ↓sAsg, ↓sIf, ↓sRet, ↓sRetN, ↓sExpr, ↓sNext, ↓sBreak, ↓sCont, ↓sAug, ↓sFor, ↓gN, ↓pIx, ↓pC, ↓pTup, ↓pLst, ↓pCons, ↓pNil, ↓pStar, ↓pOp, ↓pTB, ↓pTru, ↓pTAnd, ↓pTOr, ↓pTNot, ↓pAndV, ↓pOrV, ↓pNotV, ↓pIf, ↓pCall, ↓pLen, ↓pIsi, ↓pDget, ↓gDset, ↓gSubT, ↓PEq, ↓PNe, ↓pChain, ↓pNeg, ↓pSl, ↓pNoPart, ↓pPart, ↓pIter, ↓pRng1, ↓pRng2, ↓pEnum, ↓pRev, ↓pZip, ↓pMet, ↓pMet0, ↓pMut, ↓pLc, ↓pLRng1, ↓pLRng2, ↓pYes, ↓pRE, ↓startP, ↓pWords, ↓pSplit, ↓pGen, ↓pSum, ↓pLenSt, ↓pDIx, ↓pCallV, ↓pCallM, ↓PInT, ↓gLt, ↓gLe, ↓gGt, ↓gGe, ↓pV_f0, ↓pV_o0, ↓pRV_f0, ↓pRV_o0, ↓lk_f0, ↓lk_o0, ↓sRV_f0, ↓sRV_o0, ↓pV_f1, ↓pV_o1, ↓pRV_f1, ↓pRV_o1, ↓lk_f1, ↓lk_o1, ↓sRV_f1, ↓sRV_o1, ↓pV_f2, ↓pV_o2, ↓pRV_f2, ↓pRV_o2, ↓lk_f2, ↓lk_o2, ↓sRV_f2, ↓sRV_o2, ↓pV_f3, ↓pV_o3, ↓pRV_f3, ↓pRV_o3, ↓lk_f3, ↓lk_o3, ↓sRV_f3, ↓sRV_o3, ↓pV_f4, ↓pV_o4, ↓pRV_f4, ↓pRV_o4, ↓lk_f4, ↓lk_o4, ↓sRV_f4, ↓sRV_o4, ↓pV_f5, ↓pV_o5, ↓pRV_f5, ↓pRV_o5, ↓lk_f5, ↓lk_o5, ↓sRV_f5, ↓sRV_o5, ↓pV_f6, ↓pV_o6, ↓pRV_f6, ↓pRV_o6, ↓lk_f6, ↓lk_o6, ↓sRV_f6, ↓sRV_o6, ↓pV_f7, ↓pV_o7, ↓pRV_f7, ↓pRV_o7, ↓lk_f7, ↓lk_o7, ↓sRV_f7, ↓sRV_o7, ↓pV_f8, ↓pV_o8, ↓pRV_f8, ↓pRV_o8, ↓lk_f8, ↓lk_o8, ↓sRV_f8, ↓sRV_o8, ↓pV_f9, ↓pV_o9, ↓pRV_f9, ↓pRV_o9, ↓lk_f9, ↓lk_o9, ↓sRV_f9, ↓sRV_o9, ↓pV_f10, ↓pV_o10, ↓pRV_f10, ↓pRV_o10, ↓lk_f10, ↓lk_o10, ↓sRV_f10, ↓sRV_o10, ↓pV_f11, ↓pV_o11, ↓pRV_f11, ↓pRV_o11, ↓lk_f11, ↓lk_o11, ↓sRV_f11, ↓sRV_o11, ↓pV_f12, ↓pV_o12, ↓pRV_f12, ↓pRV_o12, ↓lk_f12, ↓lk_o12, ↓sRV_f12, ↓sRV_o12, ↓pV_f13, ↓pV_o13, ↓pRV_f13, ↓pRV_o13, ↓lk_f13, ↓lk_o13, ↓sRV_f13, ↓sRV_o13, ↓lk_fz, ↓of_fn, ↓of_fb, ↓of_fi, ↓of_fs, ↓of_ft, ↓of_fl, ↓of_ol, ↓of_ff, ↓ad_i, ↓ad_s, ↓ad_l, ↓ad_t, ↓su_i, ↓mu_i, ↓mu_l, ↓mo_i, ↓fd_i, ↓pw_i, ↓an_i, ↓ci_i, ↓is_n, ↓is_nn, ↓in_t, ↓in_l, ↓in_s, ↓ix_l, ↓ix_t, ↓ix_s, ↓sl_l, ↓sl_t, ↓sl_s, ↓kn_i, ↓kp_i, ↓kr1, ↓kr2, ↓ke_l, ↓kz_l, ↓kz_t, ↓klr1, ↓klr2, ↓gt_e, ↓gt_w, ↓gs_n, ↓gs_c, ↓ltS_i, ↓ltS_s, ↓pChain3, ↓pRevL, ↓pEnumA, ↓kea_l, ↓kea_t, ↓pZipA, ↓kza_ll, ↓kza_lt, ↓kza_tl, ↓kza_tt, ↓pTR, ↓ktr_l, ↓ktr_t, ↓inA_t, ↓inA_l, ↓inA_s, ↓pDix, ↓pDNew, ↓gDsub, ↓pDc, ↓pDZip, ↓pSortSt, ↓dix_i, ↓dix_s, ↓din_i, ↓din_s, ↓kds_i, ↓kds_s, ↓of_od, ↓od_0, ↓od_1, ↓od_2, ↓od_3, ↓od_4, ↓od_5, ↓od_6, ↓od_7, ↓od_8, ↓od_9, ↓od_10, ↓od_11, ↓od_12, ↓od_13, nc_0, nc_1, nc_2, nc_3, nc_4, nc_5, nc_6, nc_7, nc_8, nc_9, nc_10, nc_11, nc_12, eq_ii, eq_ss, eq_nn, eq_bb, eq_st, eq_ts, eq_si, eq_is, eq_it, eq_ti, cmp_i, cmp_b, cmp_n, sc_i, sc_s, sc_b, sc_n, flat_i, flat_s, flat_b, flat_n, tru_n, tru_b, tru_i, tru_t, tru_l, items_t, items_l, len_t, len_l, len_w, iter_t, iter_l, iter_s, isN_n, isN_i, isN_s, isN_t, isN_l, isN_b, at_0, at_1, at_2, at_3, ib_tn, ib_tb, ib_ti, ib_ts, ib_tt, ib_tl, ib_sn, ib_sb, ib_si, ib_ss, ib_st, ib_sl, ib_in, ib_ib, ib_ii, ib_is, ib_it, ib_il, ib_bn, ib_bb, ib_bi, ib_bs, ib_bt, ib_bl, na_n, na_b, na_i, na_s, na_t, na_l, List.getElem?_cons_zero, List.getElem?_cons_succ, List.set_cons_zero, List.set_cons_succ, List.map_cons, List.map_nil, List.length_cons, List.length_nil, List.replicate_succ, List.replicate_zero, List.cons_append, List.nil_append, List.append_nil, List.isEmpty_nil, List.isEmpty_cons, List.cons.injEq, Option.some.injEq, T.int.injEq, T.str.injEq, T.bl.injEq, T.tup.injEq, T.lst.injEq, T.adr.injEq, Sl.fz.injEq, Sl.own.injEq, T.dct.injEq, T.wtp.injEq, exists_eq_left, exists_eq_left', exists_eq_right, exists_eq_right', exists_eq, exists_eq', exists_and_left, exists_and_right, exists_const, exists_false, and_true, true_and, and_false, false_and, or_true, true_or, or_false, false_or, not_true_eq_false, not_false_eq_true, if_true, if_false, ite_true, ite_false, Bool.not_true, Bool.not_false, Bool.true_or, Bool.or_true, Bool.false_or, Bool.or_false, Bool.true_and, Bool.and_true, Bool.false_and, Bool.and_false, Bool.false_eq_true, Bool.true_eq_false, eq_self, decide_eq_true_eq, decide_true, decide_false, Bool.decide_eq_true, Bool.not_eq_true, decide_eq_false_iff_not, Bool.and_eq_true, Bool.or_eq_true, Bool.not_eq_true', reduceCtorEq, ne_eq, Nat.le_refl, Nat.reduceAdd, Nat.reduceSub, Nat.reduceLeDiff, Nat.reduceLT, implies_true, forall_const, List.any_cons, List.any_nil, List.all_cons, List.all_nil, wipeP, restore, List.getD_eq_getElem?_getD, Option.getD_some, List.mem_singleton, forall_eq, Int.reduceLT, Int.reduceLE, Int.reduceNeg, Int.reduceSub, Int.reduceAdd, Int.reduceToNat, Int.reduceEq, Int.reduceNe, String.reduceEq, and_self, or_self]
      exact ⟨6, rfl, by decide, by decide, fun r _ _ => ⟨r, rfl⟩⟩
    obtain ⟨li, rfl⟩ := e2
    refine tS_go (fun ρ => ∃ wy : Int, ρ = [.fz (.adr d), .ow rb, .fz (.int li), .fz (.int wy), .no]) R2 ?_ fun ρ3 σ3 F3 H3 R3 le3 e3 => ?_
    · simp only [↓reduceIte, ↓sSeq, ↓sAsg, ↓sIf, ↓sRet, ↓sRetN, ↓sExpr, ↓sNext, ↓sBreak, ↓sCont, ↓sAug, ↓sFor, ↓gN, ↓pIx, ↓pC, ↓pTup, ↓pLst, ↓pCons, ↓pNil, ↓pStar, ↓pOp, ↓pTB, ↓pTru, ↓pTAnd, ↓pTOr, ↓pTNot, ↓pAndV, ↓pOrV, ↓pNotV, ↓pIf, ↓pCall, ↓pLen, ↓pIsi, ↓pDget, ↓gDset, ↓gSubT, ↓PEq, ↓PNe, ↓pChain, ↓pNeg, ↓pSl, ↓pNoPart, ↓pPart, ↓pIter, ↓pRng1, ↓pRng2, ↓pEnum, ↓pRev, ↓pZip, ↓pMet, ↓pMet0, ↓pMut, ↓pLc, ↓pLRng1, ↓pLRng2, ↓pYes, ↓pRE, ↓startP, ↓pWords, ↓pSplit, ↓pGen, ↓pSum, ↓pLenSt, ↓pDIx, ↓pCallV, ↓pCallM, ↓PInT, ↓gLt, ↓gLe, ↓gGt, ↓gGe, ↓pV_f0, ↓pV_o0, ↓pRV_f0, ↓pRV_o0, ↓lk_f0, ↓lk_o0, ↓sRV_f0, ↓sRV_o0, ↓pV_f1, ↓pV_o1, ↓pRV_f1, ↓pRV_o1, ↓lk_f1, ↓lk_o1, ↓sRV_f1, ↓sRV_o1, ↓pV_f2, ↓pV_o2, ↓pRV_f2, ↓pRV_o2, ↓lk_f2, ↓lk_o2, ↓sRV_f2, ↓sRV_o2, ↓pV_f3, ↓pV_o3, ↓pRV_f3, ↓pRV_o3, ↓lk_f3, ↓lk_o3, ↓sRV_f3, ↓sRV_o3, ↓pV_f4, ↓pV_o4, ↓pRV_f4, ↓pRV_o4, ↓lk_f4, ↓lk_o4, ↓sRV_f4, ↓sRV_o4, ↓pV_f5, ↓pV_o5, ↓pRV_f5, ↓pRV_o5, ↓lk_f5, ↓lk_o5, ↓sRV_f5, ↓sRV_o5, ↓pV_f6, ↓pV_o6, ↓pRV_f6, ↓pRV_o6, ↓lk_f6, ↓lk_o6, ↓sRV_f6, ↓sRV_o6, ↓pV_f7, ↓pV_o7, ↓pRV_f7, ↓pRV_o7, ↓lk_f7, ↓lk_o7, ↓sRV_f7, ↓sRV_o7, ↓pV_f8, ↓pV_o8, ↓pRV_f8, ↓pRV_o8, ↓lk_f8, ↓lk_o8, ↓sRV_f8, ↓sRV_o8, ↓pV_f9, ↓pV_o9, ↓pRV_f9, ↓pRV_o9, ↓lk_f9, ↓lk_o9, ↓sRV_f9, ↓sRV_o9, ↓pV_f10, ↓pV_o10, ↓pRV_f10, ↓pRV_o10, ↓lk_f10, ↓lk_o10, ↓sRV_f10, ↓sRV_o10, ↓pV_f11, ↓pV_o11, ↓pRV_f11, ↓pRV_o11, ↓lk_f11, ↓lk_o11, ↓sRV_f11, ↓sRV_o11, ↓pV_f12, ↓pV_o12, ↓pRV_f12, ↓pRV_o12, ↓lk_f12, ↓lk_o12, ↓sRV_f12, ↓sRV_o12, ↓pV_f13, ↓pV_o13, ↓pRV_f13, ↓pRV_o13, ↓lk_f13, ↓lk_o13, ↓sRV_f13, ↓sRV_o13, ↓lk_fz, ↓of_fn, ↓of_fb, ↓of_fi, ↓of_fs, ↓of_ft, ↓of_fl, ↓of_ol, ↓of_ff, ↓ad_i, ↓ad_s, ↓ad_l, ↓ad_t, ↓su_i, ↓mu_i, ↓mu_l, ↓mo_i, ↓fd_i, ↓pw_i, ↓an_i, ↓ci_i, ↓is_n, ↓is_nn, ↓in_t, ↓in_l, ↓in_s, ↓ix_l, ↓ix_t, ↓ix_s, ↓sl_l, ↓sl_t, ↓sl_s, ↓kn_i, ↓kp_i, ↓kr1, ↓kr2, ↓ke_l, ↓kz_l, ↓kz_t, ↓klr1, ↓klr2, ↓gt_e, ↓gt_w, ↓gs_n, ↓gs_c, ↓ltS_i, ↓ltS_s, ↓pChain3, ↓pRevL, ↓pEnumA, ↓kea_l, ↓kea_t, ↓pZipA, ↓kza_ll, ↓kza_lt, ↓kza_tl, ↓kza_tt, ↓pTR, ↓ktr_l, ↓ktr_t, ↓inA_t, ↓inA_l, ↓inA_s, ↓pDix, ↓pDNew, ↓gDsub, ↓pDc, ↓pDZip, ↓pSortSt, ↓dix_i, ↓dix_s, ↓din_i, ↓din_s, ↓kds_i, ↓kds_s, ↓of_od, ↓od_0, ↓od_1, ↓od_2, ↓od_3, ↓od_4, ↓od_5, ↓od_6, ↓od_7, ↓od_8, ↓od_9, ↓od_10, ↓od_11, ↓od_12, ↓od_13, nc_0, nc_1, nc_2, nc_3, nc_4, nc_5, nc_6, nc_7, nc_8, nc_9, nc_10, nc_11, nc_12, eq_ii, eq_ss, eq_nn, eq_bb, eq_st, eq_ts, eq_si, eq_is, eq_it, eq_ti, cmp_i, cmp_b, cmp_n, sc_i, sc_s, sc_b, sc_n, flat_i, flat_s, flat_b, flat_n, tru_n, tru_b, tru_i, tru_t, tru_l, items_t, items_l, len_t, len_l, len_w, iter_t, iter_l, iter_s, isN_n, isN_i, isN_s, isN_t, isN_l, isN_b, at_0, at_1, at_2, at_3, ib_tn, ib_tb, ib_ti, ib_ts, ib_tt, ib_tl, ib_sn, ib_sb, ib_si, ib_ss, ib_st, ib_sl, ib_in, ib_ib, ib_ii, ib_is, ib_it, ib_il, ib_bn, ib_bb, ib_bi, ib_bs, ib_bt, ib_bl, na_n, na_b, na_i, na_s, na_t, na_l, List.getElem?_cons_zero, List.getElem?_cons_succ, List.set_cons_zero, List.set_cons_succ, List.map_cons, List.map_nil, List.length_cons, List.length_nil, List.replicate_succ, List.replicate_zero, List.cons_append, List.nil_append, List.append_nil, List.isEmpty_nil, List.isEmpty_cons, List.cons.injEq, Option.some.injEq, T.int.injEq, T.str.injEq, T.bl.injEq, T.tup.injEq, T.lst.injEq, T.adr.injEq, Sl.fz.injEq, Sl.own.injEq, T.dct.injEq, T.wtp.injEq, exists_eq_left, exists_eq_left', exists_eq_right, exists_eq_right', exists_eq, exists_eq', exists_and_left, exists_and_right, exists_const, exists_false, and_true, true_and, and_false, false_and, or_true, true_or, or_false, false_or, not_true_eq_false, not_false_eq_true, if_true, if_false, ite_true, ite_false, Bool.not_true, Bool.not_false, Bool.true_or, Bool.or_true, Bool.false_or, Bool.or_false, Bool.true_and, Bool.and_true, Bool.false_and, Bool.and_false, Bool.false_eq_true, Bool.true_eq_false, eq_self, decide_eq_true_eq, decide_true, decide_false, Bool.decide_eq_true, Bool.not_eq_true, decide_eq_false_iff_not, Bool.and_eq_true, Bool.or_eq_true, Bool.not_eq_true', reduceCtorEq, ne_eq, Nat.le_refl, Nat.reduceAdd, Nat.reduceSub, Nat.reduceLeDiff, Nat.reduceLT, implies_true, forall_const, List.any_cons, List.any_nil, List.all_cons, List.all_nil, wipeP, restore, List.getD_eq_getElem?_getD, Option.getD_some, List.mem_singleton, forall_eq, Int.reduceLT, Int.reduceLE, Int.reduceNeg, Int.reduceSub, Int.reduceAdd, Int.reduceToNat, Int.reduceEq, Int.reduceNe, String.reduceEq, and_self, or_self]
      exact ⟨4, rfl, by decide, by decide, fun r _ _ => ⟨r, rfl⟩⟩
    obtain ⟨wy, rfl⟩ := e3
    have base : ∀ {ρ : PS'} {σ : L2.St} {F' H' : Hp}, Rep K (wt d l 0 []) (fun a => if (wt d l 0 []).D a then none else H a) (fun _ => none) ρ σ F' H' → Dr H' d l [] ∧ ChS (fun z => z = d) H H' := fun {ρ σ F' H'} R => by
      obtain ⟨⟨rs, e0, dr⟩, _⟩ := R.ok
      obtain rfl : rs = [] := List.length_eq_zero_iff.mp e0
      refine ⟨dr, fun a o n e => R.bh a o ?_⟩
      show (if (wt d l 0 []).D a then none else H a) = some o
      rw [if_neg (fun z => z.elim n fun y => by cases y)]
      exact e
    have fresh : ∀ {ρ : PS'} {σ : L2.St} {F' H' : Hp} (l' : List T), Rep K (wt d l 0 []) (fun a => if (wt d l 0 []).D a then none else H a) (fun _ => none) ρ σ F' H' → ρ[1]? = some (Sl.ow l') → ∃ R xs, σ[1]? = some (some (.ref R)) ∧ H' R = some (.lst xs) ∧ TvL K F' l' xs ∧ H R = none := fun {ρ σ F' H'} l' R hl => by
      obtain ⟨a, xs, g1, g2, g3, g4, g5, g6⟩ := R.ow 1 l' hl
      refine ⟨a, xs, g1, g2, g3, ?_⟩
      have : (if (wt d l 0 []).D a then none else H a) = none := g5
      rwa [if_neg (fun z => g6 ((wt d l 0 []).sub a z))] at this
    obtain ⟨dr3, c3⟩ := base R3
    obtain ⟨Rr, xs, hs1, hR3, hT3, nR⟩ := fresh rb R3 rfl
    obtain ⟨v2, hs2, hv2⟩ := R3.fz 2 _ rfl
    obtain ⟨v3, hs3, hv3⟩ := R3.fz 3 _ rfl
    obtain rfl : v2 = .int li := hv2
    obtain rfl : v3 = .int wy := hv3
    have hz3 : Bks K H3 xs (List.replicate 32 []) := bks_of R3.fh (by rw [← erb]; exact hT3)
    have back : ∀ {H' : Hp} {a : Addr}, Dr H' d l [] → ChS (fun z => z = d) H H' → H' a = none → H a = none := fun {H' a} dr c h => by
      cases e : H a with
      | none => rfl
      | some u =>
        by_cases z : a = d
        · obtain ⟨ys, g⟩ := dr.lst
          rw [z, g] at h
          cases h
        · rw [c a u z e] at h
          cases h
    have two : (2 : Nat) ≤ sizeLine := by rw [sizeLine_eq]; decide
    have sm : ∀ {A B : Hp}, ChS (fun _ => False) A B → Dr A d l [] → Dr B d l [] := fun {A B} c dr => dr.same fun b x e => c b x (fun z => z) e
    refine ⟨_, hs3, rfl, _, rfl, ?_⟩
    by_cases w0 : (V.int wy) = .int 0
    · rw [decide_eq_true w0]
      dsimp only
      rw [if_pos rfl]
      dsimp only [tRet, tTupN, tCons, tMake, tNil]
      refine mk_use (vr := .non) (he0 H3) (fun x dx H4 p ys hx h4 c4 s4 alt => ?_) fun _ => rfl
      obtain ⟨e, rfl, se⟩ : ∃ e, ys = List.replicate 32 (.ref e) ∧ SqN K H4 e [] := by
        rcases alt with ⟨n, _⟩ | ⟨_, h⟩
        · exact absurd rfl n
        · exact h
      refine ⟨_, hs1, two, fun O hO => ⟨two, fun t o ht hd => ?_⟩⟩
      exact fin H4 Rr x dx p _ xs _ .non (sm c4 dr3) (c3.trans (c4.imp fun _ z => z.elim)) h4 s4 (c4 _ _ (fun z => z) hR3) (bks_rep se 32) (c4.tup0.bks hz3) rfl (fun b hb => by rw [(List.mem_replicate.mp hb).2]; exact Nat.zero_le _) (.inl rfl) (back dr3 c3 hx) nR O hO t o ht hd
    rw [decide_eq_false w0]
    dsimp only
    rw [if_neg (by decide)]
    refine ⟨_, hs3, rfl, _, rfl, ?_⟩
    by_cases w1 : (V.int wy) = .int 1
    · rw [decide_eq_true w1]
      dsimp only
      rw [if_pos rfl]
      refine ⟨_, hs2, rfl, rfl, mk_use (vr := .int li) (he0 H3) (fun x dx H4 p ys hx h4 c4 s4 alt => ?_) fun _ => rfl⟩
      obtain ⟨e, rfl, se⟩ : ∃ e, ys = List.replicate 32 (.ref e) ∧ SqN K H4 e [] := by
        rcases alt with ⟨n, _⟩ | ⟨_, h⟩
        · exact absurd rfl n
        · exact h
      refine ⟨_, hs1, _, hs2, two, fun O hO => ⟨two, fun t o ht hd => ?_⟩⟩
      exact fin H4 Rr x dx p _ xs _ (.int li) (sm c4 dr3) (c3.trans (c4.imp fun _ z => z.elim)) h4 s4 (c4 _ _ (fun z => z) hR3) (bks_rep se 32) (c4.tup0.bks hz3) rfl (fun b hb => by rw [(List.mem_replicate.mp hb).2]; exact Nat.zero_le _) (.inr ⟨_, rfl⟩) (back dr3 c3 hx) nR O hO t o ht hd
    rw [decide_eq_false w1]
    dsimp only
    rw [if_neg (by decide)]
    refine tS_go (fun ρ => ∃ bs : List (List Int), bs.length = 32 ∧ (∀ b ∈ bs, b.length ≤ 250) ∧ ρ = [.fz (.adr d), .ow (bs.map blT), .fz (.int li), .fz (.int wy), .no]) R3 ?_ fun ρ4 σ4 F4 H4 R4 le4 e4 => ?_
    · simp only [↓reduceIte, ↓sSeq, ↓sAsg, ↓sIf, ↓sRet, ↓sRetN, ↓sExpr, ↓sNext, ↓sBreak, ↓sCont, ↓sAug, ↓sFor, ↓gN, ↓pIx, ↓pC, ↓pTup, ↓pLst, ↓pCons, ↓pNil, ↓pStar, ↓pOp, ↓pTB, ↓pTru, ↓pTAnd, ↓pTOr, ↓pTNot, ↓pAndV, ↓pOrV, ↓pNotV, ↓pIf, ↓pCall, ↓pLen, ↓pIsi, ↓pDget, ↓gDset, ↓gSubT, ↓PEq, ↓PNe, ↓pChain, ↓pNeg, ↓pSl, ↓pNoPart, ↓pPart, ↓pIter, ↓pRng1, ↓pRng2, ↓pEnum, ↓pRev, ↓pZip, ↓pMet, ↓pMet0, ↓pMut, ↓pLc, ↓pLRng1, ↓pLRng2, ↓pYes, ↓pRE, ↓startP, ↓pWords, ↓pSplit, ↓pGen, ↓pSum, ↓pLenSt, ↓pDIx, ↓pCallV, ↓pCallM, ↓PInT, ↓gLt, ↓gLe, ↓gGt, ↓gGe, ↓pV_f0, ↓pV_o0, ↓pRV_f0, ↓pRV_o0, ↓lk_f0, ↓lk_o0, ↓sRV_f0, ↓sRV_o0, ↓pV_f1, ↓pV_o1, ↓pRV_f1, ↓pRV_o1, ↓lk_f1, ↓lk_o1, ↓sRV_f1, ↓sRV_o1, ↓pV_f2, ↓pV_o2, ↓pRV_f2, ↓pRV_o2, ↓lk_f2, ↓lk_o2, ↓sRV_f2, ↓sRV_o2, ↓pV_f3, ↓pV_o3, ↓pRV_f3, ↓pRV_o3, ↓lk_f3, ↓lk_o3, ↓sRV_f3, ↓sRV_o3, ↓pV_f4, ↓pV_o4, ↓pRV_f4, ↓pRV_o4, ↓lk_f4, ↓lk_o4, ↓sRV_f4, ↓sRV_o4, ↓pV_f5, ↓pV_o5, ↓pRV_f5, ↓pRV_o5, ↓lk_f5, ↓lk_o5, ↓sRV_f5, ↓sRV_o5, ↓pV_f6, ↓pV_o6, ↓pRV_f6, ↓pRV_o6, ↓lk_f6, ↓lk_o6, ↓sRV_f6, ↓sRV_o6, ↓pV_f7, ↓pV_o7, ↓pRV_f7, ↓pRV_o7, ↓lk_f7, ↓lk_o7, ↓sRV_f7, ↓sRV_o7, ↓pV_f8, ↓pV_o8, ↓pRV_f8, ↓pRV_o8, ↓lk_f8, ↓lk_o8, ↓sRV_f8, ↓sRV_o8, ↓pV_f9, ↓pV_o9, ↓pRV_f9, ↓pRV_o9, ↓lk_f9, ↓lk_o9, ↓sRV_f9, ↓sRV_o9, ↓pV_f10, ↓pV_o10, ↓pRV_f10, ↓pRV_o10, ↓lk_f10, ↓lk_o10, ↓sRV_f10, ↓sRV_o10, ↓pV_f11, ↓pV_o11, ↓pRV_f11, ↓pRV_o11, ↓lk_f11, ↓lk_o11, ↓sRV_f11, ↓sRV_o11, ↓pV_f12, ↓pV_o12, ↓pRV_f12, ↓pRV_o12, ↓lk_f12, ↓lk_o12, ↓sRV_f12, ↓sRV_o12, ↓pV_f13, ↓pV_o13, ↓pRV_f13, ↓pRV_o13, ↓lk_f13, ↓lk_o13, ↓sRV_f13, ↓sRV_o13, ↓lk_fz, ↓of_fn, ↓of_fb, ↓of_fi, ↓of_fs, ↓of_ft, ↓of_fl, ↓of_ol, ↓of_ff, ↓ad_i, ↓ad_s, ↓ad_l, ↓ad_t, ↓su_i, ↓mu_i, ↓mu_l, ↓mo_i, ↓fd_i, ↓pw_i, ↓an_i, ↓ci_i, ↓is_n, ↓is_nn, ↓in_t, ↓in_l, ↓in_s, ↓ix_l, ↓ix_t, ↓ix_s, ↓sl_l, ↓sl_t, ↓sl_s, ↓kn_i, ↓kp_i, ↓kr1, ↓kr2, ↓ke_l, ↓kz_l, ↓kz_t, ↓klr1, ↓klr2, ↓gt_e, ↓gt_w, ↓gs_n, ↓gs_c, ↓ltS_i, ↓ltS_s, ↓pChain3, ↓pRevL, ↓pEnumA, ↓kea_l, ↓kea_t, ↓pZipA, ↓kza_ll, ↓kza_lt, ↓kza_tl, ↓kza_tt, ↓pTR, ↓ktr_l, ↓ktr_t, ↓inA_t, ↓inA_l, ↓inA_s, ↓pDix, ↓pDNew, ↓gDsub, ↓pDc, ↓pDZip, ↓pSortSt, ↓dix_i, ↓dix_s, ↓din_i, ↓din_s, ↓kds_i, ↓kds_s, ↓of_od, ↓od_0, ↓od_1, ↓od_2, ↓od_3, ↓od_4, ↓od_5, ↓od_6, ↓od_7, ↓od_8, ↓od_9, ↓od_10, ↓od_11, ↓od_12, ↓od_13, nc_0, nc_1, nc_2, nc_3, nc_4, nc_5, nc_6, nc_7, nc_8, nc_9, nc_10, nc_11, nc_12, eq_ii, eq_ss, eq_nn, eq_bb, eq_st, eq_ts, eq_si, eq_is, eq_it, eq_ti, cmp_i, cmp_b, cmp_n, sc_i, sc_s, sc_b, sc_n, flat_i, flat_s, flat_b, flat_n, tru_n, tru_b, tru_i, tru_t, tru_l, items_t, items_l, len_t, len_l, len_w, iter_t, iter_l, iter_s, isN_n, isN_i, isN_s, isN_t, isN_l, isN_b, at_0, at_1, at_2, at_3, ib_tn, ib_tb, ib_ti, ib_ts, ib_tt, ib_tl, ib_sn, ib_sb, ib_si, ib_ss, ib_st, ib_sl, ib_in, ib_ib, ib_ii, ib_is, ib_it, ib_il, ib_bn, ib_bb, ib_bi, ib_bs, ib_bt, ib_bl, na_n, na_b, na_i, na_s, na_t, na_l, List.getElem?_cons_zero, List.getElem?_cons_succ, List.set_cons_zero, List.set_cons_succ, List.map_cons, List.map_nil, List.length_cons, List.length_nil, List.replicate_succ, List.replicate_zero, List.cons_append, List.nil_append, List.append_nil, List.isEmpty_nil, List.isEmpty_cons, List.cons.injEq, Option.some.injEq, T.int.injEq, T.str.injEq, T.bl.injEq, T.tup.injEq, T.lst.injEq, T.adr.injEq, Sl.fz.injEq, Sl.own.injEq, T.dct.injEq, T.wtp.injEq, exists_eq_left, exists_eq_left', exists_eq_right, exists_eq_right', exists_eq, exists_eq', exists_and_left, exists_and_right, exists_const, exists_false, and_true, true_and, and_false, false_and, or_true, true_or, or_false, false_or, not_true_eq_false, not_false_eq_true, if_true, if_false, ite_true, ite_false, Bool.not_true, Bool.not_false, Bool.true_or, Bool.or_true, Bool.false_or, Bool.or_false, Bool.true_and, Bool.and_true, Bool.false_and, Bool.and_false, Bool.false_eq_true, Bool.true_eq_false, eq_self, decide_eq_true_eq, decide_true, decide_false, Bool.decide_eq_true, Bool.not_eq_true, decide_eq_false_iff_not, Bool.and_eq_true, Bool.or_eq_true, Bool.not_eq_true', reduceCtorEq, ne_eq, Nat.le_refl, Nat.reduceAdd, Nat.reduceSub, Nat.reduceLeDiff, Nat.reduceLT, implies_true, forall_const, List.any_cons, List.any_nil, List.all_cons, List.all_nil, wipeP, restore, List.getD_eq_getElem?_getD, Option.getD_some, List.mem_singleton, forall_eq, Int.reduceLT, Int.reduceLE, Int.reduceNeg, Int.reduceSub, Int.reduceAdd, Int.reduceToNat, Int.reduceEq, Int.reduceNe, String.reduceEq, and_self, or_self]
      refine ⟨by decide, by decide, ?_⟩
      refine lckT_rel (fun t y => ∃ ns : List Int, ns.length ≤ 250 ∧ y = blT ns) (by simp [rngT]) (now1 rfl) (fun t C D ht hC => ?_) fun ys y1 y2 => ?_
      · simp only [↓reduceIte, ↓sSeq, ↓sAsg, ↓sIf, ↓sRet, ↓sRetN, ↓sExpr, ↓sNext, ↓sBreak, ↓sCont, ↓sAug, ↓sFor, ↓gN, ↓pIx, ↓pC, ↓pTup, ↓pLst, ↓pCons, ↓pNil, ↓pStar, ↓pOp, ↓pTB, ↓pTru, ↓pTAnd, ↓pTOr, ↓pTNot, ↓pAndV, ↓pOrV, ↓pNotV, ↓pIf, ↓pCall, ↓pLen, ↓pIsi, ↓pDget, ↓gDset, ↓gSubT, ↓PEq, ↓PNe, ↓pChain, ↓pNeg, ↓pSl, ↓pNoPart, ↓pPart, ↓pIter, ↓pRng1, ↓pRng2, ↓pEnum, ↓pRev, ↓pZip, ↓pMet, ↓pMet0, ↓pMut, ↓pLc, ↓pLRng1, ↓pLRng2, ↓pYes, ↓pRE, ↓startP, ↓pWords, ↓pSplit, ↓pGen, ↓pSum, ↓pLenSt, ↓pDIx, ↓pCallV, ↓pCallM, ↓PInT, ↓gLt, ↓gLe, ↓gGt, ↓gGe, ↓pV_f0, ↓pV_o0, ↓pRV_f0, ↓pRV_o0, ↓lk_f0, ↓lk_o0, ↓sRV_f0, ↓sRV_o0, ↓pV_f1, ↓pV_o1, ↓pRV_f1, ↓pRV_o1, ↓lk_f1, ↓lk_o1, ↓sRV_f1, ↓sRV_o1, ↓pV_f2, ↓pV_o2, ↓pRV_f2, ↓pRV_o2, ↓lk_f2, ↓lk_o2, ↓sRV_f2, ↓sRV_o2, ↓pV_f3, ↓pV_o3, ↓pRV_f3, ↓pRV_o3, ↓lk_f3, ↓lk_o3, ↓sRV_f3, ↓sRV_o3, ↓pV_f4, ↓pV_o4, ↓pRV_f4, ↓pRV_o4, ↓lk_f4, ↓lk_o4, ↓sRV_f4, ↓sRV_o4, ↓pV_f5, ↓pV_o5, ↓pRV_f5, ↓pRV_o5, ↓lk_f5, ↓lk_o5, ↓sRV_f5, ↓sRV_o5, ↓pV_f6, ↓pV_o6, ↓pRV_f6, ↓pRV_o6, ↓lk_f6, ↓lk_o6, ↓sRV_f6, ↓sRV_o6, ↓pV_f7, ↓pV_o7, ↓pRV_f7, ↓pRV_o7, ↓lk_f7, ↓lk_o7, ↓sRV_f7, ↓sRV_o7, ↓pV_f8, ↓pV_o8, ↓pRV_f8, ↓pRV_o8, ↓lk_f8, ↓lk_o8, ↓sRV_f8, ↓sRV_o8, ↓pV_f9, ↓pV_o9, ↓pRV_f9, ↓pRV_o9, ↓lk_f9, ↓lk_o9, ↓sRV_f9, ↓sRV_o9, ↓pV_f10, ↓pV_o10, ↓pRV_f10, ↓pRV_o10, ↓lk_f10, ↓lk_o10, ↓sRV_f10, ↓sRV_o10, ↓pV_f11, ↓pV_o11, ↓pRV_f11, ↓pRV_o11, ↓lk_f11, ↓lk_o11, ↓sRV_f11, ↓sRV_o11, ↓pV_f12, ↓pV_o12, ↓pRV_f12, ↓pRV_o12, ↓lk_f12, ↓lk_o12, ↓sRV_f12, ↓sRV_o12, ↓pV_f13, ↓pV_o13, ↓pRV_f13, ↓pRV_o13, ↓lk_f13, ↓lk_o13, ↓sRV_f13, ↓sRV_o13, ↓lk_fz, ↓of_fn, ↓of_fb, ↓of_fi, ↓of_fs, ↓of_ft, ↓of_fl, ↓of_ol, ↓of_ff, ↓ad_i, ↓ad_s, ↓ad_l, ↓ad_t, ↓su_i, ↓mu_i, ↓mu_l, ↓mo_i, ↓fd_i, ↓pw_i, ↓an_i, ↓ci_i, ↓is_n, ↓is_nn, ↓in_t, ↓in_l, ↓in_s, ↓ix_l, ↓ix_t, ↓ix_s, ↓sl_l, ↓sl_t, ↓sl_s, ↓kn_i, ↓kp_i, ↓kr1, ↓kr2, ↓ke_l, ↓kz_l, ↓kz_t, ↓klr1, ↓klr2, ↓gt_e, ↓gt_w, ↓gs_n, ↓gs_c, ↓ltS_i, ↓ltS_s, ↓pChain3, ↓pRevL, ↓pEnumA, ↓kea_l, ↓kea_t, ↓pZipA, ↓kza_ll, ↓kza_lt, ↓kza_tl, ↓kza_tt, ↓pTR, ↓ktr_l, ↓ktr_t, ↓inA_t, ↓inA_l, ↓inA_s, ↓pDix, ↓pDNew, ↓gDsub, ↓pDc, ↓pDZip, ↓pSortSt, ↓dix_i, ↓dix_s, ↓din_i, ↓din_s, ↓kds_i, ↓kds_s, ↓of_od, ↓od_0, ↓od_1, ↓od_2, ↓od_3, ↓od_4, ↓od_5, ↓od_6, ↓od_7, ↓od_8, ↓od_9, ↓od_10, ↓od_11, ↓od_12, ↓od_13, nc_0, nc_1, nc_2, nc_3, nc_4, nc_5, nc_6, nc_7, nc_8, nc_9, nc_10, nc_11, nc_12, eq_ii, eq_ss, eq_nn, eq_bb, eq_st, eq_ts, eq_si, eq_is, eq_it, eq_ti, cmp_i, cmp_b, cmp_n, sc_i, sc_s, sc_b, sc_n, flat_i, flat_s, flat_b, flat_n, tru_n, tru_b, tru_i, tru_t, tru_l, items_t, items_l, len_t, len_l, len_w, iter_t, iter_l, iter_s, isN_n, isN_i, isN_s, isN_t, isN_l, isN_b, at_0, at_1, at_2, at_3, ib_tn, ib_tb, ib_ti, ib_ts, ib_tt, ib_tl, ib_sn, ib_sb, ib_si, ib_ss, ib_st, ib_sl, ib_in, ib_ib, ib_ii, ib_is, ib_it, ib_il, ib_bn, ib_bb, ib_bi, ib_bs, ib_bt, ib_bl, na_n, na_b, na_i, na_s, na_t, na_l, List.getElem?_cons_zero, List.getElem?_cons_succ, List.set_cons_zero, List.set_cons_succ, List.map_cons, List.map_nil, List.length_cons, List.length_nil, List.replicate_succ, List.replicate_zero, List.cons_append, List.nil_append, List.append_nil, List.isEmpty_nil, List.isEmpty_cons, List.cons.injEq, Option.some.injEq, T.int.injEq, T.str.injEq, T.bl.injEq, T.tup.injEq, T.lst.injEq, T.adr.injEq, Sl.fz.injEq, Sl.own.injEq, T.dct.injEq, T.wtp.injEq, exists_eq_left, exists_eq_left', exists_eq_right, exists_eq_right', exists_eq, exists_eq', exists_and_left, exists_and_right, exists_const, exists_false, and_true, true_and, and_false, false_and, or_true, true_or, or_false, false_or, not_true_eq_false, not_false_eq_true, if_true, if_false, ite_true, ite_false, Bool.not_true, Bool.not_false, Bool.true_or, Bool.or_true, Bool.false_or, Bool.or_false, Bool.true_and, Bool.and_true, Bool.false_and, Bool.and_false, Bool.false_eq_true, Bool.true_eq_false, eq_self, decide_eq_true_eq, decide_true, decide_false, Bool.decide_eq_true, Bool.not_eq_true, decide_eq_false_iff_not, Bool.and_eq_true, Bool.or_eq_true, Bool.not_eq_true', reduceCtorEq, ne_eq, Nat.le_refl, Nat.reduceAdd, Nat.reduceSub, Nat.reduceLeDiff, Nat.reduceLT, implies_true, forall_const, List.any_cons, List.any_nil, List.all_cons, List.all_nil, wipeP, restore, List.getD_eq_getElem?_getD, Option.getD_some, List.mem_singleton, forall_eq, Int.reduceLT, Int.reduceLE, Int.reduceNeg, Int.reduceSub, Int.reduceAdd, Int.reduceToNat, Int.reduceEq, Int.reduceNe, String.reduceEq, and_self, or_self]
        exact ⟨rfl, fun ns hn => hC _ _ ⟨ns, hn, rfl⟩ rfl⟩
      · obtain ⟨bs, rfl, e1, e2⟩ := rel_bls y1 y2
        have e3 : bs.length = 32 := by rw [e1]; simp [rngT]
        simp only [↓reduceIte, ↓sSeq, ↓sAsg, ↓sIf, ↓sRet, ↓sRetN, ↓sExpr, ↓sNext, ↓sBreak, ↓sCont, ↓sAug, ↓sFor, ↓gN, ↓pIx, ↓pC, ↓pTup, ↓pLst, ↓pCons, ↓pNil, ↓pStar, ↓pOp, ↓pTB, ↓pTru, ↓pTAnd, ↓pTOr, ↓pTNot, ↓pAndV, ↓pOrV, ↓pNotV, ↓pIf, ↓pCall, ↓pLen, ↓pIsi, ↓pDget, ↓gDset, ↓gSubT, ↓PEq, ↓PNe, ↓pChain, ↓pNeg, ↓pSl, ↓pNoPart, ↓pPart, ↓pIter, ↓pRng1, ↓pRng2, ↓pEnum, ↓pRev, ↓pZip, ↓pMet, ↓pMet0, ↓pMut, ↓pLc, ↓pLRng1, ↓pLRng2, ↓pYes, ↓pRE, ↓startP, ↓pWords, ↓pSplit, ↓pGen, ↓pSum, ↓pLenSt, ↓pDIx, ↓pCallV, ↓pCallM, ↓PInT, ↓gLt, ↓gLe, ↓gGt, ↓gGe, ↓pV_f0, ↓pV_o0, ↓pRV_f0, ↓pRV_o0, ↓lk_f0, ↓lk_o0, ↓sRV_f0, ↓sRV_o0, ↓pV_f1, ↓pV_o1, ↓pRV_f1, ↓pRV_o1, ↓lk_f1, ↓lk_o1, ↓sRV_f1, ↓sRV_o1, ↓pV_f2, ↓pV_o2, ↓pRV_f2, ↓pRV_o2, ↓lk_f2, ↓lk_o2, ↓sRV_f2, ↓sRV_o2, ↓pV_f3, ↓pV_o3, ↓pRV_f3, ↓pRV_o3, ↓lk_f3, ↓lk_o3, ↓sRV_f3, ↓sRV_o3, ↓pV_f4, ↓pV_o4, ↓pRV_f4, ↓pRV_o4, ↓lk_f4, ↓lk_o4, ↓sRV_f4, ↓sRV_o4, ↓pV_f5, ↓pV_o5, ↓pRV_f5, ↓pRV_o5, ↓lk_f5, ↓lk_o5, ↓sRV_f5, ↓sRV_o5, ↓pV_f6, ↓pV_o6, ↓pRV_f6, ↓pRV_o6, ↓lk_f6, ↓lk_o6, ↓sRV_f6, ↓sRV_o6, ↓pV_f7, ↓pV_o7, ↓pRV_f7, ↓pRV_o7, ↓lk_f7, ↓lk_o7, ↓sRV_f7, ↓sRV_o7, ↓pV_f8, ↓pV_o8, ↓pRV_f8, ↓pRV_o8, ↓lk_f8, ↓lk_o8, ↓sRV_f8, ↓sRV_o8, ↓pV_f9, ↓pV_o9, ↓pRV_f9, ↓pRV_o9, ↓lk_f9, ↓lk_o9, ↓sRV_f9, ↓sRV_o9, ↓pV_f10, ↓pV_o10, ↓pRV_f10, ↓pRV_o10, ↓lk_f10, ↓lk_o10, ↓sRV_f10, ↓sRV_o10, ↓pV_f11, ↓pV_o11, ↓pRV_f11, ↓pRV_o11, ↓lk_f11, ↓lk_o11, ↓sRV_f11, ↓sRV_o11, ↓pV_f12, ↓pV_o12, ↓pRV_f12, ↓pRV_o12, ↓lk_f12, ↓lk_o12, ↓sRV_f12, ↓sRV_o12, ↓pV_f13, ↓pV_o13, ↓pRV_f13, ↓pRV_o13, ↓lk_f13, ↓lk_o13, ↓sRV_f13, ↓sRV_o13, ↓lk_fz, ↓of_fn, ↓of_fb, ↓of_fi, ↓of_fs, ↓of_ft, ↓of_fl, ↓of_ol, ↓of_ff, ↓ad_i, ↓ad_s, ↓ad_l, ↓ad_t, ↓su_i, ↓mu_i, ↓mu_l, ↓mo_i, ↓fd_i, ↓pw_i, ↓an_i, ↓ci_i, ↓is_n, ↓is_nn, ↓in_t, ↓in_l, ↓in_s, ↓ix_l, ↓ix_t, ↓ix_s, ↓sl_l, ↓sl_t, ↓sl_s, ↓kn_i, ↓kp_i, ↓kr1, ↓kr2, ↓ke_l, ↓kz_l, ↓kz_t, ↓klr1, ↓klr2, ↓gt_e, ↓gt_w, ↓gs_n, ↓gs_c, ↓ltS_i, ↓ltS_s, ↓pChain3, ↓pRevL, ↓pEnumA, ↓kea_l, ↓kea_t, ↓pZipA, ↓kza_ll, ↓kza_lt, ↓kza_tl, ↓kza_tt, ↓pTR, ↓ktr_l, ↓ktr_t, ↓inA_t, ↓inA_l, ↓inA_s, ↓pDix, ↓pDNew, ↓gDsub, ↓pDc, ↓pDZip, ↓pSortSt, ↓dix_i, ↓dix_s, ↓din_i, ↓din_s, ↓kds_i, ↓kds_s, ↓of_od, ↓od_0, ↓od_1, ↓od_2, ↓od_3, ↓od_4, ↓od_5, ↓od_6, ↓od_7, ↓od_8, ↓od_9, ↓od_10, ↓od_11, ↓od_12, ↓od_13, nc_0, nc_1, nc_2, nc_3, nc_4, nc_5, nc_6, nc_7, nc_8, nc_9, nc_10, nc_11, nc_12, eq_ii, eq_ss, eq_nn, eq_bb, eq_st, eq_ts, eq_si, eq_is, eq_it, eq_ti, cmp_i, cmp_b, cmp_n, sc_i, sc_s, sc_b, sc_n, flat_i, flat_s, flat_b, flat_n, tru_n, tru_b, tru_i, tru_t, tru_l, items_t, items_l, len_t, len_l, len_w, iter_t, iter_l, iter_s, isN_n, isN_i, isN_s, isN_t, isN_l, isN_b, at_0, at_1, at_2, at_3, ib_tn, ib_tb, ib_ti, ib_ts, ib_tt, ib_tl, ib_sn, ib_sb, ib_si, ib_ss, ib_st, ib_sl, ib_in, ib_ib, ib_ii, ib_is, ib_it, ib_il, ib_bn, ib_bb, ib_bi, ib_bs, ib_bt, ib_bl, na_n, na_b, na_i, na_s, na_t, na_l, List.getElem?_cons_zero, List.getElem?_cons_succ, List.set_cons_zero, List.set_cons_succ, List.map_cons, List.map_nil, List.length_cons, List.length_nil, List.replicate_succ, List.replicate_zero, List.cons_append, List.nil_append, List.append_nil, List.isEmpty_nil, List.isEmpty_cons, List.cons.injEq, Option.some.injEq, T.int.injEq, T.str.injEq, T.bl.injEq, T.tup.injEq, T.lst.injEq, T.adr.injEq, Sl.fz.injEq, Sl.own.injEq, T.dct.injEq, T.wtp.injEq, exists_eq_left, exists_eq_left', exists_eq_right, exists_eq_right', exists_eq, exists_eq', exists_and_left, exists_and_right, exists_const, exists_false, and_true, true_and, and_false, false_and, or_true, true_or, or_false, false_or, not_true_eq_false, not_false_eq_true, if_true, if_false, ite_true, ite_false, Bool.not_true, Bool.not_false, Bool.true_or, Bool.or_true, Bool.false_or, Bool.or_false, Bool.true_and, Bool.and_true, Bool.false_and, Bool.and_false, Bool.false_eq_true, Bool.true_eq_false, eq_self, decide_eq_true_eq, decide_true, decide_false, Bool.decide_eq_true, Bool.not_eq_true, decide_eq_false_iff_not, Bool.and_eq_true, Bool.or_eq_true, Bool.not_eq_true', reduceCtorEq, ne_eq, Nat.le_refl, Nat.reduceAdd, Nat.reduceSub, Nat.reduceLeDiff, Nat.reduceLT, implies_true, forall_const, List.any_cons, List.any_nil, List.all_cons, List.all_nil, wipeP, restore, List.getD_eq_getElem?_getD, Option.getD_some, List.mem_singleton, forall_eq, Int.reduceLT, Int.reduceLE, Int.reduceNeg, Int.reduceSub, Int.reduceAdd, Int.reduceToNat, Int.reduceEq, Int.reduceNe, String.reduceEq, and_self, or_self]
        exact ⟨bs, e3, e2, rfl⟩
    obtain ⟨bs, lb, kb, rfl⟩ := e4
    obtain ⟨dr4, c4⟩ := base R4
    obtain ⟨R4r, xs4, gs1, hR4, hT4, nR4⟩ := fresh _ R4 rfl
    obtain ⟨v2, gs2, gv2⟩ := R4.fz 2 _ rfl
    obtain ⟨v3, gs3, gv3⟩ := R4.fz 3 _ rfl
    obtain rfl : v2 = .int li := gv2
    obtain rfl : v3 = .int wy := gv3
    have hz4 : Bks K H4 xs4 bs := bks_of R4.fh hT4
    have ne4 : xs4 ≠ [] := fun z => by
      have := hz4.1
      rw [z, lb] at this
      cases this
    refine ⟨_, gs3, rfl, _, rfl, ?_⟩
    by_cases w2 : (V.int wy) = .int 2
    · rw [decide_eq_true w2]
      dsimp only
      rw [if_pos rfl]
      refine ⟨_, gs1, R4r, xs4, rfl, .inl ⟨SqL.of hR4, fun tq o1 hq hd1 => ?_⟩⟩
      have cq : ChS (fun _ => False) H4 (upd H4 tq (.frz o1 (.tup xs4))) := .new hq
      refine ⟨rfl, rfl, mk_use (vr := .non) (b := tq) (xs := xs4) (.inl ⟨o1, hd1, upd_same⟩) (fun x dx H5 p ys hx h5 c5 s5 alt => ?_) fun _ => rfl⟩
      obtain rfl : ys = xs4 := by
        rcases alt with ⟨_, h⟩ | ⟨h, _⟩
        · exact h
        · exact absurd h ne4
      have c45 := cq.trans c5
      refine ⟨_, gs1, two, fun O hO => ⟨two, fun t o ht hd => ?_⟩⟩
      exact fin H5 R4r x dx p _ _ bs .non (sm c45 dr4) (c4.trans (c45.imp fun _ z => z.elim)) h5 s5 (c45 _ _ (fun z => z) hR4) (c45.tup0.bks hz4) (c45.tup0.bks hz4) lb kb (.inl rfl) (back (sm cq dr4) (c4.trans (cq.imp fun _ z => z.elim)) hx) nR4 O hO t o ht hd
    rw [decide_eq_false w2]
    dsimp only
    rw [if_neg (by decide)]
    refine ⟨_, gs1, R4r, xs4, rfl, .inl ⟨SqL.of hR4, fun tq o1 hq hd1 => ?_⟩⟩
    have cq : ChS (fun _ => False) H4 (upd H4 tq (.frz o1 (.tup xs4))) := .new hq
    refine ⟨_, gs2, ?_⟩
    dsimp only [tNil]
    refine mk_use (vr := .int li) (b := tq) (xs := xs4) (.inl ⟨o1, hd1, upd_same⟩) (fun x dx H5 p ys hx h5 c5 s5 alt => ?_) fun _ => rfl
    obtain rfl : ys = xs4 := by
      rcases alt with ⟨_, h⟩ | ⟨h, _⟩
      · exact h
      · exact absurd h ne4
    have c45 := cq.trans c5
    refine ⟨_, gs1, _, gs2, two, fun O hO => ⟨two, fun t o ht hd => ?_⟩⟩
    exact fin H5 R4r x dx p _ _ bs (.int li) (sm c45 dr4) (c4.trans (c45.imp fun _ z => z.elim)) h5 s5 (c45 _ _ (fun z => z) hR4) (c45.tup0.bks hz4) (c45.tup0.bks hz4) lb kb (.inr ⟨_, rfl⟩) (back (sm cq dr4) (c4.trans (cq.imp fun _ z => z.elim)) hx) nR4 O hO t o ht hd
end
end Y

namespace Y
open PySem PySem.Spec PyProof.Rows L2 RT RZ TL PySem.NumText
/-! ### two disks, each with one's own rows -/
structure PSet (d l L : Addr) (t D O R : Bool → Addr) : Prop where
  d : D false ≠ D true
  o : O false ≠ O true
  r : R false ≠ R true
structure WI (K : PySem.W.Frag) (C d l L : Addr) (t D O R : Bool → Addr) (H : Hp) : Prop where
  dr : Dr H d l []
  ls : H L = some (.lst [.ref (t false), .ref (t true)])
  tp : ∀ i, SqN K H (t i) [.ref (D i), .ref (O i)]
  pr : ∀ i, PairOk K C H (D i) (O i) (R i)
section
variable {K : PySem.W.Frag} {C d l L : Addr} {t D O R : Bool → Addr} {H H' : Hp}
theorem dr_len (h : Dr H d l []) : ∃ ys, H d = some (.lst ys) ∧ ys.length = 5 := by
  obtain ⟨ns, a, big, st, m, h1, h2, h3⟩ := h
  exact ⟨_, h1, rfl⟩
theorem dr_src (h : Dr H d l []) : ∃ ns : List Int, H l = some (.lst (ns.map V.int)) := by
  obtain ⟨ns, a, big, st, m, h1, h2, h3⟩ := h
  exact ⟨ns, h2⟩
theorem Dr.keepS {S : Addr → Prop} (h : Dr H d l []) (c : ChS S H H') (n1 : ¬ S d) (n2 : ¬ S l) : Dr H' d l [] := by
  obtain ⟨ns, a, big, st, m, h1, h2, h3⟩ := h
  exact ⟨ns, a, big, st, m, c _ _ n1 h1, c _ _ n2 h2, h3⟩
/-- what stands where -/
theorem PairOk.at (h : PairOk K C H (D i) (O i) (R i)) : ∃ dx fs R0 rm zs, H (D i) = some (.ins C dx fs) ∧ H (O i) = some (.lst [.ref (R i), rm]) ∧ roomV rm ∧ H (R i) = some (.lst zs) ∧ zs.length = 32 ∧ (∃ b, zs[0]? = some (.ref b)) ∧ R0 = R i := by
  obtain ⟨dx, p, ys, zs, rm, bs, h1, h2, h3, h4, h5, h6, h7, h8, h9⟩ := h
  have l0 : zs.length = 32 := by rw [h6.1, h7]
  refine ⟨dx, _, _, rm, zs, h1, h3, h9, h4, l0, ?_, rfl⟩
  have e1 : zs[0]? = some zs[0] := List.getElem?_eq_getElem (by omega)
  have e2 : bs[0]? = some bs[0] := List.getElem?_eq_getElem (by omega)
  obtain ⟨b, e, _⟩ := h6.2 0 _ _ e1 e2
  exact ⟨b, by rw [e1, e]⟩
theorem WI.keep (h : WI K C d l L t D O R H) (c : ChS (fun z => z = d) H H') (dr : Dr H' d l []) : WI K C d l L t D O R H' := by
  obtain ⟨ys, hd, l5⟩ := dr_len h.dr
  have tp := c.tupD h.dr
  have nl : L ≠ d := fun z => by
    have := h.ls
    rw [z, hd] at this
    rw [HO.lst.inj (Option.some.inj this)] at l5
    cases l5
  refine ⟨dr, c _ _ nl h.ls, fun i => tp.sq (h.tp i), fun i => ?_⟩
  obtain ⟨dx, fs, _, rm, zs, a1, a2, _, a3, a4, _, _⟩ := (h.pr i).at
  refine (h.pr i).keep c tp (fun z => ?_) (fun z => ?_) (fun z => ?_)
  · rw [z, hd] at a1
    cases a1
  · rw [z, hd] at a2
    rw [HO.lst.inj (Option.some.inj a2)] at l5
    cases l5
  · rw [z, hd] at a3
    rw [HO.lst.inj (Option.some.inj a3), a4] at l5
    cases l5
theorem WI.keep0 (h : WI K C d l L t D O R H) (c : ChS (fun _ => False) H H') : WI K C d l L t D O R H' := h.keep (c.imp fun _ z => z.elim) (h.dr.keepS c (fun z => z) fun z => z)
theorem bne {f : Bool → Addr} (h : f false ≠ f true) : ∀ {i j : Bool}, i ≠ j → f i ≠ f j
  | false, false, e => absurd rfl e
  | false, true, _ => h
  | true, false, _ => h.symm
  | true, true, e => absurd rfl e
/-- one pair is changed, and well -/
theorem WI.put (h : WI K C d l L t D O R H) (ps : PSet d l L t D O R) (i : Bool) (c : ChS (fun z => z = D i ∨ z = O i ∨ z = R i) H H') (p : PairOk K C H' (D i) (O i) (R i)) : WI K C d l L t D O R H' := by
  obtain ⟨ys, hd, l5⟩ := dr_len h.dr
  obtain ⟨ns, hl⟩ := dr_src h.dr
  obtain ⟨dx, fs, _, rm, zs, a1, a2, ar, a3, a4, ⟨b, ab⟩, _⟩ := (h.pr i).at
  have tp : TupS H H' := c.tup fun a z o u e => by
    rcases z with z | z | z
    · rw [z, a1] at e
      cases e
    · rw [z, a2] at e
      cases e
    · rw [z, a3] at e
      cases e
  have nd : ¬ (d = D i ∨ d = O i ∨ d = R i) := fun z => by
    rcases z with z | z | z
    · rw [z, a1] at hd
      cases hd
    · rw [z, a2] at hd
      rw [← HO.lst.inj (Option.some.inj hd)] at l5
      cases l5
    · rw [z, a3] at hd
      rw [← HO.lst.inj (Option.some.inj hd), a4] at l5
      cases l5
  have nl : ¬ (l = D i ∨ l = O i ∨ l = R i) := fun z => by
    rcases z with z | z | z
    · rw [z, a1] at hl
      cases hl
    · rw [z, a2] at hl
      have := HO.lst.inj (Option.some.inj hl)
      cases ns with
      | nil => cases this
      | cons n ns => cases this
    · rw [z, a3] at hl
      rw [HO.lst.inj (Option.some.inj hl), List.getElem?_map] at ab
      cases e : ns[0]? with
      | none => rw [e] at ab; cases ab
      | some n => rw [e] at ab; cases ab
  have nL : ¬ (L = D i ∨ L = O i ∨ L = R i) := fun z => by
    have hL := h.ls
    rcases z with z | z | z
    · rw [z, a1] at hL
      cases hL
    · rw [z, a2] at hL
      have := (List.cons.inj (List.cons.inj (HO.lst.inj (Option.some.inj hL))).2).1
      rcases ar with rfl | ⟨r, rfl⟩ <;> cases this
    · rw [z, a3] at hL
      rw [HO.lst.inj (Option.some.inj hL)] at a4
      cases a4
  refine ⟨h.dr.keepS c nd nl, c _ _ nL h.ls, fun j => tp.sq (h.tp j), fun j => ?_⟩
  by_cases e : j = i
  · rw [e]
    exact p
  · obtain ⟨dx', fs', _, rm', zs', g1, g2, gr, g3, g4, ⟨b', gb⟩, _⟩ := (h.pr j).at
    refine (h.pr j).keep c tp (fun z => ?_) (fun z => ?_) (fun z => ?_)
    · rcases z with z | z | z
      · exact bne ps.d e z
      · rw [z, a2] at g1
        cases g1
      · rw [z, a3] at g1
        cases g1
    · rcases z with z | z | z
      · rw [z, a1] at g2
        cases g2
      · exact bne ps.o e z
      · rw [z, a3] at g2
        rw [HO.lst.inj (Option.some.inj g2)] at a4
        cases a4
    · rcases z with z | z | z
      · rw [z, a1] at g3
        cases g3
      · rw [z, a2] at g3
        rw [← HO.lst.inj (Option.some.inj g3)] at g4
        cases g4
      · exact bne ps.r e z
theorem PairOk.keepD {A B R' : Addr} (h : PairOk K C H A B R') (dr : Dr H d l []) (c : ChS (fun z => z = d) H H') : PairOk K C H' A B R' := by
  obtain ⟨ys, hd, l5⟩ := dr_len dr
  have h0 := h
  obtain ⟨dx, p, zs, us, rm, bs, a1, h2, a2, a3, h5, h6, h7, _⟩ := h
  refine h0.keep c (c.tupD dr) (fun z => ?_) (fun z => ?_) (fun z => ?_)
  · rw [z, hd] at a1
    cases a1
  · rw [z, hd] at a2
    rw [HO.lst.inj (Option.some.inj a2)] at l5
    cases l5
  · rw [z, hd] at a3
    rw [HO.lst.inj (Option.some.inj a3), h6.1, h7] at l5
    cases l5
theorem PairOk.keep0 {A B R' : Addr} (h : PairOk K C H A B R') (c : ChS (fun _ => False) H H') : PairOk K C H' A B R' := h.keep c c.tup0 (fun z => z) (fun z => z) fun z => z
theorem PairOk.alive {A B R' : Addr} (h : PairOk K C H A B R') : H A ≠ none ∧ H B ≠ none ∧ H R' ≠ none := by
  obtain ⟨dx, p, zs, us, rm, bs, a1, h2, a2, a3, _⟩ := h
  exact ⟨some_ne a1, some_ne a2, some_ne a3⟩
end
end Y

namespace Y
open PySem PySem.Spec PyProof.Rows L2 RT RZ TL PySem.NumText
/-! ### the law -/
def spLaw (K : PySem.W.Frag) (Ps : List Addr) : Sp := fun vs H Q _ => ∃ (a : Addr) (ns : List Int), vs = [.ref a] ∧ SqL K H a (ns.map V.int) ∧ ns.length ≤ 63 ∧ (∀ p ∈ Ps, H p = some (.tbl #[])) ∧ ∀ H', Q (.bl true) H'
abbrev nmsL : List Str := ["_law_script", "_law_d", "_law_pairs", "_law_turn", "_law_disk", "_law_own", "_law_number", "_law_block_here", "_law_elder", "_law_due", "_law_one", "_law_kept", "_law_other", "_law_rows"]
theorem cut_take {xs : List V} {k : Nat} : cutV xs none (some ((k : Nat) : Int)) = xs.take k := by
  unfold cutV
  rw [HT.sIx_none, HT.sIx_nat, List.drop_zero, Nat.sub_zero]
  by_cases h : k ≤ xs.length
  · rw [Nat.min_eq_left h]
  · rw [Nat.min_eq_right (by omega), List.take_of_length_le (Nat.le_refl _), List.take_of_length_le (by omega)]
theorem catN_of {K : PySem.W.Frag} {H : Hp} {a b : Addr} {xs ys : List V} {Q : VK} (h : SqN K H a xs) (h' : SqN K H b ys) (hl : xs.length + ys.length ≤ sizeLine) (k : ∀ H' p, ChS (fun _ => False) H H' → SqN K H' p (xs ++ ys) → Q (.ref p) H') : rCatN K (.ref a) (.ref b) H Q :=
  ⟨a, b, xs, ys, rfl, rfl, h.t, h'.t, hl, fun e => k H b .refl (by rw [e]; exact h'), fun _ e => k H a .refl (by rw [e, List.append_nil]; exact h), fun _ _ p o hp hd => k _ p (.new hp) (.inl ⟨o, hd, upd_same⟩)⟩
theorem passF {P : Program} {w : World} {X : Cx} {E : XK} (h : ∀ a b c, E a b c → False) : Passes (L2.CX P w) X E := fun _ _ _ _ _ _ _ h2 => by
  obtain ⟨_, _, _, _, _, _, _, _, _, _, _, _, z⟩ := h2
  exact (h _ _ _ z).elim
section
variable {P : Program} {w : World} {K : PySem.W.Frag} {mg : Str → Option Value} {base : Heap} {C CC fI fW pB gB e0 : Addr} {fdI fdW fdB : FuncData}
abbrev XL (P : Program) (w : World) (K : PySem.W.Frag) (mg : Str → Option Value) (base : Heap) (f : Addr) (cdv : Value) (A : Around) (outer : List Env) (s : Shared) (H : Hp) (E : XK) : Cx := cxOf CX0 P w K mg base nmsL "law" (defScope s_law) f cdv A outer s H E
theorem u_draw {d l L : Addr} {t D O R : Bool → Addr} {n : Int} {σ : L2.St} {H : Hp} {Q : VK} (h0 : 0 < n) (h1 : n < 1152921504606846976) (wi : WI K C d l L t D O R H) (k : ∀ r H', WI K C d l L t D O R H' → ChS (fun z => z = d) H H' → 0 ≤ r → r < n → Q (.int r) H') (hσ : σ[1]? = some (some (.ref d)) := by rfl) : tCall spDraw [] L2.E0 (tCons (tVar 1) (tCons (tC (.int n)) tNil)) σ H Q :=
  ⟨_, hσ, d, l, n, [], rfl, h0, h1, wi.dr, fun r H' r0 r1 dr' c => k r H' (wi.keep c dr') c r0 r1⟩
theorem ok_law {f : Addr} {fd : FuncData} (F : FunD K "law" "law" (defArgs s_law) (defBody s_law) (defScope s_law) [] [] f fd)
    (C_begin : Cal P w K mg base "_law_begin" 1 ["_law_script"] (spBegin K))
    (C_draw : Cal P w K mg base "_law_draw" 99 ["_law_d", "_law_many"] spDraw)
    (C_begun : ∀ d l, Cal P w K mg base "_law_begun" 99 ["_law_d"] (spBegun K C d l))
    (C_block : ∀ d l, Cal P w K mg base "_law_block" 99 ["_law_d"] (spBlkH K d l))
    (C_alike : Cal P w K mg base "_law_alike" 99 ["_law_told", "_law_due"] (spAlkH K))
    (C_wr : Cal P w K mg base "_law_write_right" 99 ["_law_disk", "_law_own", "_law_number", "_law_block_here"] (spWR K C))
    (TD : DCl K mg C fI fW pB gB)
    (FI : FunD K "__init__" "Disk.__init__" (defArgs s_Dinit) (defBody s_Dinit) (defScope s_Dinit) [.ref e0, .non] [] fI fdI) (F1 : FnOk P w K mg base CX0 1 fI fdI ["self", "blocks", "room"] (spDinit K C))
    (FW : FnOk P w K mg base (L2.CX P w) 1 fW fdW ["self", "number", "block"] (spDwrite K C CC)) (bW : Binds K fdW ["self", "number", "block"] [])
    (FB : FnOk P w K mg base CX0 1 gB fdB ["self"] (getSp C "rows")) (bB : Binds K fdB ["self"] [])
    (m_range : mg "range" = none) (m_tuple : mg "tuple" = none) (m_list : mg "list" = none) :
    FnOk P w K mg base CX0 100 f fd ["_law_script"] (spLaw K []) := by
  obtain ⟨f_begin, fd_begin, g_begin, k_begin, b_begin, G_begin⟩ := C_begin
  obtain ⟨f_draw, fd_draw, g_draw, k_draw, b_draw, G_draw⟩ := C_draw
  obtain ⟨f_alike, fd_alike, g_alike, k_alike, b_alike, G_alike⟩ := C_alike
  obtain ⟨f_wr, fd_wr, g_wr, k_wr, b_wr, G_wr⟩ := C_wr
  obtain ⟨ds5, v5, b5⟩ := FI.binds1 (ps := ["self", "blocks", "room"]) 2 1 (List.cons_ne_nil _ _) rfl (fun T kV doc pm an cdv ct us its l1 l2 => match us, its, l1, l2 with | [_, _], [_, _], _, _ => ⟨_, rfl, rfl⟩)
  refine F.ok sc_law (fun vs H Q E h => ?_) (fun cdv A outer s H vs Q E hr h => ?_)
  · obtain ⟨a, ns, rfl, _⟩ := h
    rfl
  · obtain ⟨a, ns, rfl, hS, hlen, _, q⟩ := h
    have pe_block : ∀ (dl : Addr × Addr) {p q' pos : Pos}, PE (XL P w K mg base f cdv A outer s H E) (.Call (.Name "_law_block" p) [.Name "_law_d" q'] [] pos) (tCall (spBlkH K dl.1 dl.2) [] L2.E0 (tCons (tVar 1) tNil)) := fun dl {p q' pos} => by
      obtain ⟨f1, fd1, g1, k1, b1, G1⟩ := C_block dl.1 dl.2
      exact pe_call G1 (hr.mono (by omega)) (by rfl) g1 k1 b1 .nil pass0 (pa_cons (pv 1) pa_nil)
    have pe_begun : ∀ (dl : Addr × Addr) {p q' pos : Pos}, PE (XL P w K mg base f cdv A outer s H E) (.Call (.Name "_law_begun" p) [.Name "_law_d" q'] [] pos) (tCall (spBegun K C dl.1 dl.2) [] L2.E0 (tCons (tVar 1) tNil)) := fun dl {p q' pos} => by
      obtain ⟨f1, fd1, g1, k1, b1, G1⟩ := C_begun dl.1 dl.2
      exact pe_call G1 (hr.mono (by omega)) (by rfl) g1 k1 b1 .nil pass0 (pa_cons (pv 1) pa_nil)
    have pe_draw : ∀ {n : Int} {j : Nat} {p q' p2 pos : Pos}, PE (XL P w K mg base f cdv A outer s H E) (.Call (.Name "_law_draw" p) [.Name "_law_d" q', .Constant (.int n) j p2] [] pos) (tCall spDraw [] L2.E0 (tCons (tVar 1) (tCons (tC (.int n)) tNil))) := fun {n j p q' p2 pos} =>
      pe_call G_draw (hr.mono (by omega)) (by rfl) g_draw k_draw b_draw .nil pass0 (pa_cons (pv 1) (pa_cons pe_int pa_nil))
    refine ⟨_, pss_cons (ps_set (i := 1) sc_law.nd rfl (.inl rfl) (pe_call G_begin (hr.mono (by omega)) (by rfl) g_begin k_begin b_begin .nil pass0 (pa_cons (pv 0) pa_nil))) (pss_anyE fun dl : Addr × Addr =>
      pss_cons (ps_set (i := 2) sc_law.nd rfl (.inl rfl) (pe_lst (pa_cons (pe_begun dl) (pa_cons (pe_begun dl) pa_nil))))
      (pss_cons (ps_for (passes_of rfl) rfl (pi_range1 (by rfl) m_range (pa_cons (pe_op op_add pe_int pe_draw) pa_nil)) (pg_name (i := 3) sc_law.nd rfl (.inl rfl)) (pss_cons (ps_asg (pe_ix ix_list (pv 2) pe_draw (fun _ _ => rfl)) (pg_tup rfl (pgs_cons (pg_name (i := 4) sc_law.nd rfl (.inl rfl)) (pgs_cons (pg_name (i := 5) sc_law.nd rfl (.inl rfl)) pgs_nil))))
      (pss_cons (ps_set (i := 6) sc_law.nd rfl (.inl rfl) (pe_draw))
      (pss_cons (ps_set (i := 7) sc_law.nd rfl (.inl rfl) (pe_ix ix_list (pe_ix ix_list (pv 5) pe_int (fun _ _ => rfl)) (pv 6) (fun _ _ => rfl)))
      (pss_cons (ps_if (pt_cmpR op_ne pe_draw pe_int (nomark _)) (pss_one (ps_set (i := 7) sc_law.nd rfl (.inl rfl) (pe_block dl))) pss_nil)
      (pss_cons (ps_set (i := 8) sc_law.nd rfl (.inl rfl) (pe_prop (pv 4) TD.c TD.pb FB (hr.mono (by omega)) bB .nil pass0 rfl))
      (pss_cons (ps_set (i := 9) sc_law.nd rfl (.inl rfl) (pe_callTy call_tupleN (by rfl) m_tuple (by decide +kernel) (pa_cons (pe_ix ix_list (pv 5) pe_int (fun _ _ => rfl)) pa_nil)))
      (pss_cons (ps_if (PW.pt (pw_or (pt_not (pt_truth (pe_call G_wr (hr.mono (by omega)) (by rfl) g_wr k_wr b_wr .nil pass0 (pa_cons (pv 4) (pa_cons (pv 5) (pa_cons (pv 6) (pa_cons (pv 7) pa_nil))))) (by intro _; rfl))) (pw_or1 (pt_not (pt_truth (pe_call G_alike (hr.mono (by omega)) (by rfl) g_alike k_alike b_alike .nil pass0 (pa_cons (pv 8) (pa_cons (pv 9) pa_nil))) (by intro _; rfl)))))) (pss_one (ps_ret pe_bl)) pss_nil)
      (pss_one (ps_for (passes_of rfl) rfl (pi_list (pv 2)) (pg_tup rfl (pgs_cons (pg_name (i := 10) sc_law.nd rfl (.inl rfl)) (pgs_cons (pg_name (i := 11) sc_law.nd rfl (.inl rfl)) pgs_nil))) (pss_one (ps_if (pt_not (pt_truth (pe_call G_alike (hr.mono (by omega)) (by rfl) g_alike k_alike b_alike .nil pass0 (pa_cons (pe_prop (pv 10) TD.c TD.pb FB (hr.mono (by omega)) bB .nil pass0 rfl) (pa_cons (pe_callTy call_tupleN (by rfl) m_tuple (by decide +kernel) (pa_cons (pe_ix ix_list (pv 11) pe_int (fun _ _ => rfl)) pa_nil)) pa_nil))) (by intro _; rfl))) (pss_one (ps_ret pe_bl)) pss_nil))))))))))))
      (pss_cons (ps_asg (pe_ix ix_list (pv 2) pe_int (fun _ _ => rfl)) (pg_tup rfl (pgs_cons (pg_name (i := 4) sc_law.nd rfl (.inl rfl)) (pgs_cons (pg_name (i := 5) sc_law.nd rfl (.inl rfl)) pgs_nil))))
      (pss_cons (ps_set (i := 12) sc_law.nd rfl (.inl rfl) (pe_make TD.mkC F1 (hr.mono (by omega)) (by rfl) TD.gC b5 v5 pass0 (pa_cons (pe_prop (pv 4) TD.c TD.pb FB (hr.mono (by omega)) bB .nil pass0 rfl) pa_nil)))
      (pss_cons (ps_set (i := 6) sc_law.nd rfl (.inl rfl) (pe_draw))
      (pss_cons (ps_set (i := 7) sc_law.nd rfl (.inl rfl) (pe_op op_catN (pe_block dl) (pe_tupN (pa_cons pe_int pa_nil))))
      (pss_cons (ps_set (i := 7) sc_law.nd rfl (.inl rfl) (pe_slice sl_tupN (pv 7) po_none (po_some pe_int)))
      (pss_cons (ps_set (i := 13) sc_law.nd rfl (.inl rfl) (pe_callTy call_list_of (by rfl) m_list (by decide +kernel) (pa_cons (pe_ix ix_list (pv 5) pe_int (fun _ _ => rfl)) pa_nil)))
      (pss_cons (ps_asg (pv 7) (pg_sub (pv 13) (pv 6) set_list))
      (pss_cons (ps_if (PW.pt (pw_or (pt_cmpR op_notN (pe_meth (pv 12) TD.c TD.mw FW (hr.mono (by omega)) bW .nil (passF (E := L2.E0) fun _ _ _ z => z) (pa_cons (pv 6) (pa_cons (pv 7) pa_nil))) pe_non (nomark _)) (pw_or1 (pt_not (pt_truth (pe_call G_alike (hr.mono (by omega)) (by rfl) g_alike k_alike b_alike .nil pass0 (pa_cons (pe_prop (pv 12) TD.c TD.pb FB (hr.mono (by omega)) bB .nil pass0 rfl) (pa_cons (pe_callTy call_tupleN (by rfl) m_tuple (by decide +kernel) (pa_cons (pv 13) pa_nil)) pa_nil))) (by intro _; rfl)))))) (pss_one (ps_ret pe_bl)) pss_nil)
      (pss_one (ps_ret (pe_call G_alike (hr.mono (by omega)) (by rfl) g_alike k_alike b_alike .nil pass0 (pa_cons (pe_prop (pv 4) TD.c TD.pb FB (hr.mono (by omega)) bB .nil pass0 rfl) (pa_cons (pe_callTy call_tupleN (by rfl) m_tuple (by decide +kernel) (pa_cons (pe_ix ix_list (pv 5) pe_int (fun _ _ => rfl)) pa_nil)) pa_nil))))))))))))))), ?_⟩
    have two : (2 : Nat) ≤ sizeLine := by rw [sizeLine_eq]; decide
    refine ⟨_, rfl, a, ns, rfl, hS, by omega, fun H1 d l sm hd dr1 => ⟨(d, l), ?_⟩⟩
    refine ⟨_, rfl, rfl, dr1, fun H2 t0 D0 O0 R0 p0 dr2 c2 nD0 nO0 nR0 s0 => ⟨_, rfl, rfl, dr2, fun H3 t1 D1 O1 R1 p1 dr3 c3 nD1 nO1 nR1 s1 => ⟨two, fun L hL => ?_⟩⟩⟩
    obtain ⟨a1, a2, a3⟩ := p0.alive
    let tF : Bool → Addr := fun i => match i with | false => t0 | true => t1
    let DF : Bool → Addr := fun i => match i with | false => D0 | true => D1
    let OF : Bool → Addr := fun i => match i with | false => O0 | true => O1
    let RF : Bool → Addr := fun i => match i with | false => R0 | true => R1
    have c4 : ChS (fun _ => False) H3 (upd H3 L (.lst [.ref t0, .ref t1])) := .new hL
    have ps : PSet d l L tF DF OF RF := ⟨fun z => a1 (by show H2 D0 = none; rw [show D0 = D1 from z]; exact nD1), fun z => a2 (by show H2 O0 = none; rw [show O0 = O1 from z]; exact nO1), fun z => a3 (by show H2 R0 = none; rw [show R0 = R1 from z]; exact nR1)⟩
    have wi : WI K C d l L tF DF OF RF (upd H3 L (.lst [.ref t0, .ref t1])) := by
      refine ⟨dr3.keepS c4 (fun z => z) fun z => z, upd_same, fun i => ?_, fun i => ?_⟩
      · cases i
        · exact c4.tup0.sq ((c3.tupD dr2).sq s0)
        · exact c4.tup0.sq s1
      · cases i
        · exact (p0.keepD dr2 c3).keep0 c4
        · exact p1.keep0 c4
    generalize upd H3 L (.lst [.ref t0, .ref t1]) = H4 at wi
    generalize tF = t at ps wi
    generalize DF = D at ps wi
    generalize OF = O at ps wi
    generalize RF = R at ps wi
    let Inv : L2.St → Hp → Prop := fun σ H => WI K C d l L t D O R H ∧ ∃ x3 x4 x5 x6 x7 x8 x9 x10 x11 x12 x13, σ = [some (.ref a), some (.ref d), some (.ref L), x3, x4, x5, x6, x7, x8, x9, x10, x11, x12, x13]
    refine u_draw (by decide) (by decide) wi fun r H5 wi5 c5 r0 r1 => ?_
    refine ⟨1, r, rfl, rfl, 1 + r, rfl, by omega, by omega, ?_⟩
    refine for_range (fun _ σ H => Inv σ H) ⟨wi5, _, _, _, _, _, _, _, _, _, _, _, rfl⟩ (fun i σ H hi inv => ?_) fun σ H inv => ?_
    · obtain ⟨wi, x3, x4, x5, x6, x7, x8, x9, x10, x11, x12, x13, rfl⟩ := inv
      refine ⟨_, rfl, u_draw (by decide) (by decide) wi fun r H1 wi1 c1 r0 r1 => ?_⟩
      obtain ⟨ii, hii⟩ : ∃ ii : Bool, atI [V.ref (t false), V.ref (t true)] r = some (.ref (t ii)) := by
        rcases (show r = 0 ∨ r = 1 by omega) with rfl | rfl
        · exact ⟨false, rfl⟩
        · exact ⟨true, rfl⟩
      refine ⟨L, _, r, .ref (t ii), rfl, rfl, SqL.of wi1.ls, hii, ?_⟩
      refine ⟨t ii, _, rfl, (wi1.tp ii).t, rfl, _, _, rfl, _, _, rfl, rfl, ?_⟩
      show tCall spDraw [] L2.E0 (tCons (tVar 1) (tCons (tC (.int 32)) tNil)) [some (.ref a), some (.ref d), some (.ref L), some (.int (0 + (i : Nat))), some (.ref (D ii)), some (.ref (O ii)), x6, x7, x8, x9, x10, x11, x12, x13] H1 _
      refine u_draw (n := 32) (by decide) (by decide) wi1 fun n H2 wi2 c2 n0 n1 => ?_
      obtain ⟨n, rfl⟩ := Int.eq_ofNat_of_zero_le n0
      obtain ⟨dx, p, ys, zs, rm, bs, hD, hp, hO, hR, b1, b2, lb, kb, rmv⟩ := wi2.pr ii
      have hzl : n < zs.length := by rw [b2.1, lb]; omega
      have hbl : n < bs.length := by rw [lb]; omega
      have ez : zs[n]? = some zs[n] := List.getElem?_eq_getElem hzl
      have eb : bs[n]? = some bs[n] := List.getElem?_eq_getElem hbl
      obtain ⟨b, e, sb⟩ := b2.2 n _ _ ez eb
      have lb0 := kb _ (List.mem_of_getElem? eb)
      rw [e] at ez
      refine ⟨_, rfl, O ii, _, 0, .ref (R ii), rfl, rfl, SqL.of hO, rfl, _, rfl, R ii, zs, n, .ref b, rfl, rfl, SqL.of hR, atI_nat ez, ?_⟩
      dsimp only [gName]
      refine seq_by (fun σ H => WI K C d l L t D O R H ∧ ∃ (b : Addr) (ns : List Int) (x3 x8 x9 x10 x11 x12 x13 : Option V), SqN K H b (ns.map V.int) ∧ ns.length ≤ 250 ∧ σ = [some (.ref a), some (.ref d), some (.ref L), x3, some (.ref (D ii)), some (.ref (O ii)), some (.int (n : Nat)), some (.ref b), x8, x9, x10, x11, x12, x13]) (fun nx' hnx => ?_) fun σ H hP => ?_
      · refine u_draw (n := 6) (by decide) (by decide) wi2 fun r H3 wi3 c3 _ _ => ?_
        refine ⟨rfl, _, rfl, ?_⟩
        by_cases h3 : (V.int r) = .int 3
        · rw [decide_eq_true h3]
          dsimp only
          rw [if_neg (by decide)]
          exact hnx _ _ ⟨wi3, b, bs[n], _, _, _, _, _, _, _, (c3.tupD wi2.dr).sq sb, lb0, rfl⟩
        · rw [decide_eq_false h3]
          dsimp only
          rw [if_pos (by decide)]
          refine ⟨_, rfl, rfl, wi3.dr, fun H4 b ns hn sb dr4 c4 => ?_⟩
          exact hnx _ _ ⟨wi3.keep c4 dr4, b, ns, _, _, _, _, _, _, _, sb, hn, rfl⟩
      clear e ez eb hD hp hO hR b1 b2 lb kb rmv sb lb0
      obtain ⟨wi, b, ns, x3, x8, x9, x10, x11, x12, x13, sb, hn, rfl⟩ := hP
      obtain ⟨dx, p, ys, zs, rm, bs, hD, hp, hO, hR, b1, b2, lb, kb, rmv⟩ := wi.pr ii
      refine ⟨_, rfl, D ii, dx, _, rfl, hD, D ii, dx, _, .ref p, rfl, hD, rfl, ?_⟩
      refine ⟨_, rfl, O ii, _, 0, .ref (R ii), rfl, rfl, SqL.of hO, rfl, R ii, zs, rfl, .inl ⟨SqL.of hR, fun q' o hq ho => ?_⟩⟩
      have cq : ChS (fun _ => False) H (upd H q' (.frz o (.tup zs))) := .new hq
      have wi5 := wi.keep0 cq
      have sq : SqN K (upd H q' (.frz o (.tup zs))) q' zs := .inl ⟨o, ho, upd_same⟩
      dsimp only [gName]
      refine seq_by Inv (fun nx' hnx => ?_) fun σ H hP => ?_
      · have hD5 := cq _ _ (fun z => z) hD
        have hO5 := cq _ _ (fun z => z) hO
        have hR5 := cq _ _ (fun z => z) hR
        have hp5 := cq.tup0.sq hp
        have b15 := cq.tup0.bks b1
        have b25 := cq.tup0.bks b2
        have sb5 := cq.tup0.sq sb
        have ly : ys.length = 32 := by rw [b1.1, lb]
        have lz : zs.length = 32 := by rw [b2.1, lb]
        have kb2 : ∀ x ∈ bs, x.length ≤ 1000 := fun x hx => Nat.le_trans (kb x hx) (by decide)
        refine ⟨_, rfl, _, rfl, _, rfl, _, rfl, D ii, dx, p, b, O ii, R ii, ys, zs, rm, n, rfl, hD5, hp5, hO5, hR5, by omega, by omega, by omega, by omega, rmv, fun e0 H6 c6 => ?_, fun n0' H6 p' e1 s1 e2 e3 c6 => ?_⟩
        · have wi6 := wi5.keep0 c6
          have t6 := c6.tup0
          refine ⟨true, rfl, ?_⟩
          dsimp only
          rw [if_neg (by decide)]
          refine ⟨_, rfl, _, rfl, p, q', ys, zs, bs, rfl, t6.sq hp5, t6.sq sq, t6.bks b15, t6.bks b25, by omega, kb2, fun H7 c7 => ⟨true, rfl, ?_⟩⟩
          dsimp only
          rw [if_neg (by decide)]
          exact hnx _ _ ⟨wi6.keep0 c7, _, _, _, _, _, _, _, _, _, _, _, rfl⟩
        · have t6 : TupS _ H6 := c6.tup fun x z o' u' e => by
            rcases z with z | z | z
            · rw [z, hD5] at e
              cases e
            · rw [z, hO5] at e
              cases e
            · rw [z, hR5] at e
              cases e
          have bb : Bk K H6 (.ref b) ns := ⟨b, rfl, t6.sq sb5⟩
          have wi6 := wi5.put ps ii c6 ⟨dx, p', _, _, decR rm, bs.set n ns, e1, s1, e2, e3, (t6.bks b15).set bb, (t6.bks b25).set bb, by rw [List.length_set]; exact lb, fun x hx => by
            rcases List.mem_or_eq_of_mem_set hx with hx | rfl
            · exact kb x hx
            · exact hn, by
            rcases rmv with rfl | ⟨r, rfl⟩
            · exact .inl rfl
            · exact .inr ⟨_, rfl⟩⟩
          refine ⟨true, rfl, ?_⟩
          dsimp only
          rw [if_neg (by decide)]
          refine ⟨_, rfl, _, rfl, p, q', ys, zs, bs, rfl, t6.sq hp5, t6.sq sq, t6.bks b15, t6.bks b25, by omega, kb2, fun H7 c7 => ⟨true, rfl, ?_⟩⟩
          dsimp only
          rw [if_neg (by decide)]
          exact hnx _ _ ⟨wi6.keep0 c7, _, _, _, _, _, _, _, _, _, _, _, rfl⟩
      · clear sb hn hD hp hO hR b1 b2 lb kb rmv cq wi5 sq
        obtain ⟨wi, x3, x4, x5, x6, x7, x8, x9, x10, x11, x12, x13, rfl⟩ := hP
        refine ⟨_, rfl, L, rfl, ⟨_, SqL.of wi.ls⟩, ?_⟩
        refine for_list (xs := [.ref (t false), .ref (t true)]) (fun _ σ H => Inv σ H) ⟨wi, _, _, _, _, _, _, _, _, _, _, _, rfl⟩ (fun i σ H _ inv => SqL.of inv.1.ls) (fun i x σ H hx inv => ?_) fun σ H inv => inv
        obtain ⟨wi, x3, x4, x5, x6, x7, x8, x9, x10, x11, x12, x13, rfl⟩ := inv
        obtain ⟨j, rfl⟩ : ∃ j : Bool, x = .ref (t j) := by
          match i, hx with
          | 0, hx => exact ⟨false, (Option.some.inj hx).symm⟩
          | 1, hx => exact ⟨true, (Option.some.inj hx).symm⟩
          | i + 2, hx => simp at hx
        obtain ⟨dx, p, ys, zs, rm, bs, hD, hp, hO, hR, b1, b2, lb, kb, rmv⟩ := wi.pr j
        have kb2 : ∀ x ∈ bs, x.length ≤ 1000 := fun x hx => Nat.le_trans (kb x hx) (by decide)
        refine ⟨t j, _, rfl, (wi.tp j).t, rfl, _, _, rfl, _, _, rfl, rfl, ?_⟩
        refine ⟨_, rfl, D j, dx, _, rfl, hD, D j, dx, _, .ref p, rfl, hD, rfl, ?_⟩
        refine ⟨_, rfl, O j, _, 0, .ref (R j), rfl, rfl, SqL.of hO, rfl, R j, zs, rfl, .inl ⟨SqL.of hR, fun q' o hq ho => ?_⟩⟩
        have cq : ChS (fun _ => False) H (upd H q' (.frz o (.tup zs))) := .new hq
        refine ⟨p, q', ys, zs, bs, rfl, cq.tup0.sq hp, .inl ⟨o, ho, upd_same⟩, cq.tup0.bks b1, cq.tup0.bks b2, by omega, kb2, fun H7 c7 => ⟨true, rfl, ?_⟩⟩
        dsimp only
        rw [if_neg (by decide)]
        exact ⟨(wi.keep0 cq).keep0 c7, _, _, _, _, _, _, _, _, _, _, _, rfl⟩
    · obtain ⟨wi, x3, x4, x5, x6, x7, x8, x9, x10, x11, x12, x13, rfl⟩ := inv
      obtain ⟨dx, p, ys, zs, rm, bs, hD, hp, hO, hR, b1, b2, lb, kb, rmv⟩ := wi.pr false
      have ly : ys.length = 32 := by rw [b1.1, lb]
      have lz : zs.length = 32 := by rw [b2.1, lb]
      obtain ⟨y5, hd5, l5⟩ := dr_len wi.dr
      have nO : O false ≠ d := fun z => by
        rw [z, hd5] at hO
        rw [HO.lst.inj (Option.some.inj hO)] at l5
        cases l5
      have nR : R false ≠ d := fun z => by
        rw [z, hd5] at hR
        rw [HO.lst.inj (Option.some.inj hR), lz] at l5
        cases l5
      refine ⟨_, rfl, L, _, 0, .ref (t false), rfl, rfl, SqL.of wi.ls, rfl, t false, _, rfl, (wi.tp false).t, rfl, _, _, rfl, _, _, rfl, rfl, ?_⟩
      refine ⟨_, rfl, D false, dx, _, rfl, hD, D false, dx, _, .ref p, rfl, hD, rfl, ?_⟩
      dsimp only [tNil]
      refine mk_use (vr := .non) (b := p) (xs := ys) hp (fun X dX H1 p1 ys1 hX h1 c1 s1 alt => ?_) fun _ => rfl
      have ey : ys1 = ys := by
        rcases alt with ⟨_, h⟩ | ⟨h, _⟩
        · exact h
        · rw [h] at ly
          cases ly
      rw [ey] at s1
      have wi1 := wi.keep0 c1
      have nX : X ≠ d := fun z => by
        rw [z, hd5] at hX
        cases hX
      dsimp only [gName]
      refine u_draw (n := 32) (by decide) (by decide) wi1 fun n H2 wi2 c2 n0 n1 => ?_
      obtain ⟨n, rfl⟩ := Int.eq_ofNat_of_zero_le n0
      refine ⟨_, rfl, rfl, wi2.dr, fun H3 b ns hn sb dr3 c3 => ⟨by show 1 ≤ sizeLine; rw [sizeLine_eq]; decide, fun e7 o7 h7 d7 => ?_⟩⟩
      have wi3 := wi2.keep c3 dr3
      have c7 : ChS (fun _ => False) H3 (upd H3 e7 (.frz o7 (.tup [.int 7]))) := .new h7
      refine catN_of (c7.tup0.sq sb) (.inl ⟨o7, d7, upd_same⟩) (by rw [List.length_map, sizeLine_eq]; show ns.length + 1 ≤ _; omega) fun H4 pb c4 s4 => ?_
      refine ⟨_, rfl, 250, rfl, ?_⟩
      refine slN_of s4 fun H5 pc c5' s5 => ?_
      have e5 : cutV (ns.map V.int ++ [V.int 7]) none (some 250) = ((ns ++ [7]).take 250).map V.int := by
        rw [show (some (250 : Int)) = some ((250 : Nat) : Int) from rfl, cut_take, List.map_take, List.map_append]
        rfl
      rw [e5] at s5
      have l250 : ((ns ++ [7]).take 250).length ≤ 250 := List.length_take_le _ _
      generalize (ns ++ [7]).take 250 = nc at s5 l250
      have cA : ChS (fun z => z = d) H H5 := ((((c1.imp fun _ z => z.elim).trans c2).trans c3).trans (c7.imp fun _ z => z.elim)).trans ((c4.imp fun _ z => z.elim).trans (c5'.imp fun _ z => z.elim))
      have cB : ChS (fun z => z = d) H1 H5 := ((c2.trans c3).trans (c7.imp fun _ z => z.elim)).trans ((c4.imp fun _ z => z.elim).trans (c5'.imp fun _ z => z.elim))
      have wi5 := ((wi3.keep0 c7).keep0 c4).keep0 c5'
      have tA : TupS H H5 := cA.tupD wi.dr
      have hO5 := cA _ _ nO hO
      have hR5 := cA _ _ nR hR
      have hX5 := cB _ _ nX h1
      have s15 : SqN K H5 p1 ys := (cB.tupD wi1.dr).sq s1
      refine ⟨_, rfl, O false, _, 0, .ref (R false), rfl, rfl, SqL.of hO5, rfl, R false, zs, rfl, .inl (SqL.of hR5), fun q' hq => ?_⟩
      refine ⟨_, rfl, _, rfl, _, rfl, q', zs, n, n, rfl, rfl, upd_same, ixN_k (by omega), ?_⟩
      have c67 : ChS (fun z => z = q') H5 (upd (upd H5 q' (.lst zs)) q' (.lst (zs.set n (.ref pc)))) := (ChS.new hq).trans (.put rfl)
      have c60 : ChS (fun _ => False) H5 (upd (upd H5 q' (.lst zs)) q' (.lst (zs.set n (.ref pc)))) := fun x o _ e => c67 x o (fun z => by rw [z, hq] at e; cases e) e
      have hX7 := c60 _ _ (fun z => z) hX5
      have hq7 : upd (upd H5 q' (.lst zs)) q' (.lst (zs.set n (.ref pc))) q' = some (.lst (zs.set n (.ref pc))) := upd_same
      have wi7 := wi5.keep0 c60
      have t7 := c60.tup0
      generalize upd (upd H5 q' (.lst zs)) q' (.lst (zs.set n (.ref pc))) = H7 at c60 hX7 hq7 wi7 t7
      have nXq : q' ≠ X := fun z => by rw [z, hX7] at hq7; cases hq7
      refine ⟨_, rfl, X, dX, _, rfl, hX7, rfl, _, rfl, _, rfl, X, dX, p1, pc, ys, .non, n, rfl, hX7, t7.sq s15, by omega, by omega, .inl rfl, (fun e => by cases e), fun _ H8 p8 hX8 c8 s8 => ⟨rfl, _, rfl, ?_⟩⟩
      dsimp only
      rw [if_neg (by decide)]
      have t8 : TupS H7 H8 := c8.tup fun x z o u e => by rw [z, hX7] at e; cases e
      have hq8 := c8 _ _ nXq hq7
      have bb : Bk K H8 (.ref pc) nc := ⟨pc, rfl, t8.sq (t7.sq s5)⟩
      have b18 : Bks K H8 (ys.set n (.ref pc)) (bs.set n nc) := (t8.bks (t7.bks (tA.bks b1))).set bb
      have b28 : Bks K H8 (zs.set n (.ref pc)) (bs.set n nc) := (t8.bks (t7.bks (tA.bks b2))).set bb
      have dr8 : Dr H8 d l [] := wi7.dr.keepS c8 (fun z => nX z.symm) fun z => by
        obtain ⟨ms, hl⟩ := dr_src wi7.dr
        rw [z, hX7] at hl
        cases hl
      have wi8 : WI K C d l L t D O R H8 := wi.keep (fun x o nx e => c8 x o (fun z => by rw [z, hX] at e; cases e) (c60 x o (fun z => z) (cA x o nx e))) dr8
      refine ⟨_, rfl, X, dX, _, rfl, hX8, X, dX, _, .ref p8, rfl, hX8, rfl, ?_⟩
      refine ⟨_, rfl, q', _, rfl, .inl ⟨SqL.of hq8, fun q2 o2 hq2 ho2 => ?_⟩⟩
      have c9 : ChS (fun _ => False) H8 (upd H8 q2 (.frz o2 (.tup (zs.set n (.ref pc))))) := .new hq2
      refine ⟨p8, q2, _, _, bs.set n nc, rfl, c9.tup0.sq s8, .inl ⟨o2, ho2, upd_same⟩, c9.tup0.bks b18, c9.tup0.bks b28, by rw [List.length_set]; omega, fun x hx => ?_, fun H10 c10 => ⟨true, rfl, ?_⟩⟩
      · rcases List.mem_or_eq_of_mem_set hx with hx | rfl
        · exact Nat.le_trans (kb x hx) (by decide)
        · omega
      dsimp only
      rw [if_neg (by decide)]
      have wi10 := (wi8.keep0 c9).keep0 c10
      clear hD hp hO hR b1 b2 kb rmv hO5 hR5 b18 b28
      obtain ⟨dx, p, ys', zs', rm, bs', hD, hp, hO, hR, b1, b2, lb', kb, rmv⟩ := wi10.pr false
      refine ⟨_, rfl, D false, dx, _, rfl, hD, D false, dx, _, .ref p, rfl, hD, rfl, ?_⟩
      refine ⟨_, rfl, O false, _, 0, .ref (R false), rfl, rfl, SqL.of hO, rfl, R false, zs', rfl, .inl ⟨SqL.of hR, fun q3 o3 hq3 ho3 => ?_⟩⟩
      have c11 : ChS (fun _ => False) H10 (upd H10 q3 (.frz o3 (.tup zs'))) := .new hq3
      exact ⟨p, q3, ys', zs', bs', rfl, c11.tup0.sq hp, .inl ⟨o3, ho3, upd_same⟩, c11.tup0.bks b1, c11.tup0.bks b2, by omega, fun x hx => Nat.le_trans (kb x hx) (by decide), fun H12 _ => q H12⟩
end
section
variable {P : Program} {w : World} {K : PySem.W.Frag} {mg : Str → Option Value} {base : Heap}
theorem Cal.mono {x : Str} {j k : Nat} {ps : List Str} {sp : Sp} (h : Cal P w K mg base x j ps sp) (l : j ≤ k) : Cal P w K mg base x k ps sp := by
  obtain ⟨f, fd, h1, h2, h3, h4⟩ := h
  exact ⟨f, fd, h1, h2, h3, h4.mono l⟩
theorem ok_Dblocks {C fI fW pB gB : Addr} {fd : FuncData} {x qual : Str} (T : DCl K mg C fI fW pB gB) (F : FunD K x qual (defArgs s_Dblocks) (defBody s_Dblocks) (defScope s_Dblocks) [] [] gB fd) : FnOk P w K mg base CX0 1 gB fd ["self"] (getSp C "rows") := by
  refine F.ok sc_Dblocks (fun vs H Q E h => ?_) (fun cdv A outer s H vs Q E hr h => ?_)
  · obtain ⟨a, dx, fs, v, rfl, _⟩ := h
    rfl
  · obtain ⟨a, dx, fs, v, rfl, ea, l, q⟩ := h
    exact ⟨_, pss_one (ps_ret (pe_fld (pv 0) rfl)), _, rfl, a, C, dx, fs, v, rfl, ea, T.c, T.n1, l, q⟩
end
end Y

namespace Y
open PySem PySem.Spec PyProof.Rows L2 RT RZ TL PySem.NumText
theorem dft {K : PySem.W.Frag} {mg : Str → Option Value} {x : Str} {st : Stmt} {fd : FuncData} (F : FunD K x x (defArgs st) (defBody st) (defScope st) [] [] (He.fAd K (x, none)) fd) (g : mg x = some (.ref (He.ga K x))) : DfT K mg x st (He.cT K (x, none)).1 := by
  refine ⟨_, fd, F, g, ?_⟩
  obtain ⟨oc, od, dV, kV, doc, pm, an, cdv, ct, osl, rfl, lk, hcd, h1, h2⟩ := F.ex
  obtain ⟨c, rfl⟩ := He.codeIn_ref hcd
  show Value.ref c = .ref (He.codeOf K (x, none))
  rw [He.codeOf_eq lk rfl]
theorem dftA {K : PySem.W.Frag} {mg : Str → Option Value} {y x : Str} {st : Stmt} {fd : FuncData} (F : FunD K x x (defArgs st) (defBody st) (defScope st) [] [] (He.fAd K (y, none)) fd) (g : mg y = some (.ref (He.ga K y))) : DfTA K mg y x st (He.cT K (y, none)).1 := by
  refine ⟨_, fd, F, g, ?_⟩
  obtain ⟨oc, od, dV, kV, doc, pm, an, cdv, ct, osl, rfl, lk, hcd, h1, h2⟩ := F.ex
  obtain ⟨c, rfl⟩ := He.codeIn_ref hcd
  show Value.ref c = .ref (He.codeOf K (y, none))
  rw [He.codeOf_eq lk rfl]
theorem facts {P : Program} {w : World} {K : PySem.W.Frag} {h : Heap} {hh : Heap} {mg : Str → Option Value} {f : Addr} (X : K.In h) (G : h.Ns mainGlobals mg) (hfa : mg ("law" : Str) = some (.ref f)) (cx : He.SaysX fa fn tsL tfL ex w hh K) (cg : gnW K (gBA K "Disk" "blocks") = gv) :
    ∃ fd : FuncData, (∀ (s : Shared) (v : Value), BindsTo s fd ⟨[v], []⟩ [("_law_script", v)]) ∧ ∀ base : Heap, K.In base → base.Ns mainGlobals mg → (∀ p ∈ csL K, LamX.TabB base mg p.1 p.2) → FnOk P w K mg base CX0 100 f fd ["_law_script"] (spLaw K (PsL K)) := by
  have c : He.SaysD fa fn K := congrArg (fun z : He.AlT => z.1) cx.t
  have G0 : ∀ (i : Nat) (x : Str) (st : Stmt), fn[i]? = some (dd x st) → fa[i]? = some (.glo x) → Df K mg x st := fun i x st h1 h2 => by
    obtain ⟨fd, F⟩ := c.def_ i (d := dd x st) h1
    exact ⟨_, fd, F, He.glo_ok X G (c.fact i (f := .glo x) h2)⟩
  have G0A : ∀ (i : Nat) (y x : Str) (st : Stmt), fn[i]? = some (ddA y x st) → fa[i]? = some (.glo y) → DfA K mg y x st := fun i y x st h1 h2 => by
    obtain ⟨fd, F⟩ := c.def_ i (d := ddA y x st) h1
    exact ⟨_, fd, F, He.glo_ok X G (c.fact i (f := .glo y) h2)⟩
  have GT : ∀ (i : Nat) (x : Str) (st : Stmt), fn[i]? = some (dd x st) → fa[i]? = some (.glo x) → DfT K mg x st (He.cT K (x, none)).1 := fun i x st h1 h2 => by
    obtain ⟨fd, F⟩ := c.def_ i (d := dd x st) h1
    exact dft F (He.glo_ok X G (c.fact i (f := .glo x) h2))
  have GTA : ∀ (i : Nat) (y x : Str) (st : Stmt), fn[i]? = some (ddA y x st) → fa[i]? = some (.glo y) → DfTA K mg y x st (He.cT K (y, none)).1 := fun i y x st h1 h2 => by
    obtain ⟨fd, F⟩ := c.def_ i (d := ddA y x st) h1
    exact dftA F (He.glo_ok X G (c.fact i (f := .glo y) h2))
  have inP : ∀ {x : He.Defn}, x ∈ tfL → (He.cT K x).2 ∈ PsL K := fun {x} hx => List.mem_map.mpr ⟨_, List.mem_map.mpr ⟨x, hx, rfl⟩, rfl⟩
  have Fr : ∀ (i : Nat) (x : Str), fa[i]? = some (.free x) → mg x = none := fun i x h2 => He.free_ok X G (c.fact i (f := .free x) h2)
  have m_abs := Fr 8 "abs" rfl
  have m_all := Fr 9 "all" rfl
  have m_bool := Fr 10 "bool" rfl
  have m_divmod := Fr 11 "divmod" rfl
  have m_int := Fr 12 "int" rfl
  have m_isinstance := Fr 13 "isinstance" rfl
  have m_len := Fr 14 "len" rfl
  have m_list := Fr 15 "list" rfl
  have m_range := Fr 16 "range" rfl
  have m_str := Fr 17 "str" rfl
  have m_tuple := Fr 18 "tuple" rfl
  have m_zip := Fr 19 "zip" rfl
  have exq13 := cx.more
  obtain ⟨exq12, ex_ec⟩ := He.ba exq13
  obtain ⟨exq11, ex_kD⟩ := He.ba exq12
  obtain ⟨exq10, ex_kT⟩ := He.ba exq11
  obtain ⟨exq9, ex_exm⟩ := He.ba exq10
  obtain ⟨exq8, ex_exc⟩ := He.ba exq9
  obtain ⟨exq7, ex_e0⟩ := He.ba exq8
  obtain ⟨exq6, ex_gb⟩ := He.ba exq7
  obtain ⟨exq5, ex_pb⟩ := He.ba exq6
  obtain ⟨exq4, ex_mw⟩ := He.ba exq5
  obtain ⟨exq3, ex_mk⟩ := He.ba exq4
  obtain ⟨exq2, ex_n2⟩ := He.ba exq3
  obtain ⟨ex_cl, ex_n1⟩ := He.ba exq2
  have GL_BLOCKS : GlobQ K mg "BLOCKS" (.int 32) := (let ⟨t, ht⟩ := He.int_ok X G (c.fact 20 (f := .int "BLOCKS" 32) rfl); ⟨.int 32, _, ht, ⟨t, rfl⟩, fun _ => rfl⟩)
  have gc_TroveError := He.glo_ok X G (c.fact 21 (f := .glo "TroveError") rfl)
  have gc_DeedError := He.glo_ok X G (c.fact 22 (f := .glo "DeedError") rfl)
  have gc_Cut := He.glo_ok X G (c.fact 23 (f := .glo "Cut") rfl)
  have gc_Disk := He.glo_ok X G (c.fact 24 (f := .glo "Disk") rfl)
  have D_begin := G0 0 "_law_begin" s_begin rfl rfl
  have D_mix := G0 1 "_law_mix" s_mix rfl rfl
  have D_draw := G0 2 "_law_draw" s_draw rfl rfl
  have D_alike := G0 3 "_law_alike" s_alike rfl rfl
  have D_block := G0 4 "_law_block" s_block rfl rfl
  have D_begun := G0 5 "_law_begun" s_begun rfl rfl
  have D_write_right := G0 6 "_law_write_right" s_write_right rfl rfl
  obtain ⟨fd_Disk_init, F_Disk_init⟩ := c.def_ 8 (d := ⟨("Disk", some "__init__"), "__init__", "Disk.__init__", defArgs s_Dinit, defBody s_Dinit, defScope s_Dinit, [.adr (He.dflAt ("Disk", some "__init__") 0), .non], []⟩) rfl
  obtain ⟨fd_Disk_write, F_Disk_write⟩ := c.def_ 9 (d := ⟨("Disk", some "write"), "write", "Disk.write", defArgs s_Dwrite, defBody s_Dwrite, defScope s_Dwrite, [], []⟩) rfl
  obtain ⟨fd, F⟩ := c.def_ 7 (d := dd "law" s_law) rfl
  have e := hfa.symm.trans (He.glo_ok X G (c.fact 7 (f := .glo "law") rfl))
  cases e
  have b := FunD.bindsA (ps := ["_law_script"]) F fun _ _ _ _ _ _ us hl => match us, hl with | [_], _ => rfl
  refine ⟨fd, fun s v => b s [v] rfl, fun base _ _ tbs => ?_⟩
  have TB : ∀ {x : He.Defn}, x ∈ tfL → GxR.TabB base mg (He.cT K x).1 (He.cT K x).2 := fun {x} hx => (let z := tbs _ (List.mem_map.mpr ⟨x, hx, rfl⟩); ⟨z.code, z.bm, z.gP⟩)
  have C_mix := ok_mix (P := P) (w := w) (base := base) D_mix m_int
  have C_draw0 := ok_draw D_draw C_mix m_int m_len m_abs m_divmod
  have C_begin := ok_begin (P := P) (w := w) (base := base) D_begin m_list
  have C_draw : ∀ {d l : Addr}, CalQ P w K mg base (wt d l 0 []) "_law_draw" 2 ["_law_d", "_law_many"] (pDraw d) := fun {d l} => cq_draw d l 0 C_draw0
  have C_block : ∀ {d l : Addr}, CalQ P w K mg base (wt d l 0 []) "_law_block" 3 ["_law_d"] (pfBlk d) := fun {d l} => ok_block (k := 2) D_block C_draw m_tuple m_range
  have A_alike : ∀ N : Nat, CalQ P w K mg base w0 "_law_alike" (N + 1) ["_law_told", "_law_due"] (pfAlk N) := fun N => by
    induction N with
    | zero => exact (CalQ.rec0 D_alike fun _ _ _ _ _ _ us h => match us, h with | [_, _], _ => rfl).imp fun ts Φ h => (by obtain ⟨_, _, ht, _⟩ := h; cases ht)
    | succ N ih => exact ok_alike (k := N + 1) D_alike ih m_isinstance m_tuple m_len m_all m_zip m_bool m_int m_str
  have C_alike := cal_alk (A_alike 4)
  have TD : DCl K mg (He.ga K "Disk") (He.ma K (He.ga K "Disk") "__init__") (He.ma K (He.ga K "Disk") "write") (He.ma K (He.ga K "Disk") "blocks") (gBA K "Disk" "blocks") := ⟨gc_Disk, He.cls_ok ex_cl, He.noat_ok ex_n1, He.noat_ok ex_n2, He.mkr_ok ex_mk, He.meth_ok ex_mw, propB_ok ex_pb⟩
  have xc := He.exc_ok ex_exc
  have TC : CCl K mg (He.ga K "Cut") := ⟨gc_Cut, xc.1, xc.2.1, xc.2.2.1, xc.2.2.2⟩
  have TE : EXs K mg (He.ga K "Cut") (He.ga K "TroveError") (He.ga K "DeedError") := ⟨gc_TroveError, gc_DeedError, of_decide_eq_true ex_exm, of_decide_eq_true ex_kT, of_decide_eq_true ex_kD, excB_ok ex_ec, m_isinstance⟩
  have he0 : ∀ H, SqN K H (He.dflAt ("Disk", some "__init__") 0 K) [] := fun H => by
    obtain ⟨o, its, n, h1, h2, h3, h4, h5⟩ := emT_ok ex_e0
    refine .inr ⟨o, its, n, h1, h2, h3, h4, by omega, ?_⟩
    have : its.toList = [] := List.eq_nil_of_length_eq_zero (by rw [Array.length_toList]; exact h5)
    rw [this]
    exact .nil
  have F1 := ok_Dinit (P := P) (w := w) (base := base) TD F_Disk_init GL_BLOCKS
  have FW := ok_Dwrite (P := P) (w := w) (base := base) TD TC F_Disk_write
  have bW := F_Disk_write.bindsN (ps := ["self", "number", "block"]) (fun _ _ _ _ _ _ us h => match us, h with | [_, _, _], _ => rfl)
  obtain ⟨nm0, ql0, fd0, FB0⟩ := gn_ok cg ex_gb
  have FB := ok_Dblocks (P := P) (w := w) (base := base) TD FB0
  have bB := FB0.bindsN (ps := ["self"]) (fun _ _ _ _ _ _ us h => match us, h with | [_], _ => rfl)
  have C_wr := ok_write_right (k := 1) D_write_right TD TC TE FW bW (by decide)
  have C_begun := ok_begun (k := 3) D_begun TD F_Disk_init F1 he0 (C_draw.mono (by omega)) C_block m_range m_tuple (by decide)
  exact ok_law F C_begin (C_draw0.mono (by omega)) (fun d l => (C_begun d l).mono (by omega)) (fun d l => (cal_blk C_block).mono (by omega)) (C_alike.mono (by omega)) (C_wr.mono (by omega)) TD F_Disk_init F1 FW bW FB bB m_range m_tuple m_list
end Y
open PySem PySem.W PySem.Calls PyProof.Rows
theorem PySem.Challenge.cw_telltrove_k70_disk_holds : PySem.Challenge.rw_telltrove_k70_disk.Holds := by
  w_on; o_law
  refine HandSHeadRun.head_any (r := OpenLaw.row PySem.Challenge.rw_telltrove_k70_disk) (q := view (OpenLaw.row PySem.Challenge.rw_telltrove_k70_disk).prog [15]) (H := Y.hk) (ob := Y.ob) (M := 2000) (loose := Y.loose) (d := HandSHeadRun.topDef (OpenLaw.row PySem.Challenge.rw_telltrove_k70_disk).prog 15) (kwd := []) Y.ob_eq
    (by kernel_rfl) (fun s => by kernel_rfl) Y.run (by kernel_rfl) (by kernel_rfl) (by kernel_rfl) (by rfl) (by first | assumption | decide +kernel) (by decide +kernel) ⟨rfl, rfl, rfl, rfl, rfl, by decide +kernel⟩ ?hw ?hc
  case hw => w_witness2
  case hc =>
    refine LamX.walk_ofTsE (l := PySem.Challenge.rw_telltrove_k70_disk) (n := 63) (k := 100) (x := "_law_script") (CX := fun _ => L2.CX0) rfl (by decide) (by kernel_rfl) ⟨rfl, by decide, by decide⟩ ?F (fun _ _ _ _ _ z => z)
    intro w mg fa h YY G hmg0
    obtain ⟨K, KX, c, cg⟩ := YY
    have hmg : mg ("law" : PySem.Str) = some (.ref fa) := by
      have e : (HandSHeadRun.topDef (OpenLaw.row PySem.Challenge.rw_telltrove_k70_disk).prog 15).name = ("law" : PySem.Str) := by kernel_rfl
      rw [← e]
      exact hmg0
    obtain ⟨fd, hb, hF⟩ := Y.facts (P := (PySem.Challenge.rw_telltrove_k70_disk).prog) (w := w) KX G hmg c cg
    refine ⟨K, KX, fd, Y.csL K, Y.spLaw K (Y.PsL K), ?_, ?_, ?_, hb, ?_, hF⟩
    · intro p hp
      obtain ⟨q, hq, rfl⟩ := List.mem_map.mp hp
      exact c.empty q hq
    · intro p hp
      obtain ⟨q, hq, rfl⟩ := List.mem_map.mp hp
      exact c.out q hq
    · intro p hp
      obtain ⟨q, hq, rfl⟩ := List.mem_map.mp hp
      exact PySem.W.codeHd_of_K KX (c.hd q hq)
    · intro H a ns hl _ hT hS
      refine ⟨a, ns, rfl, hS, hl, fun p hp => ?_, fun _ => rfl⟩
      obtain ⟨q, hq, rfl⟩ := List.mem_map.mp hp
      exact hT q hq

