import PyProof.Rows.All
import Wide.All
import OpenK.AllK
import Wide.FinOn
import HandS.Replace
import PyProof.MeetsStr3
import PyProof.FitsReplace
import PyProof.StrCalls6
import KE.KTryMore
import HandS.SetFor
import HandS.SetKeys
import HandS.StrMore
import HandS.More
import PyProof.FString2
import KE.KStateDown
import KE.KSuper
import HandS.Base
import HandS.Call
import HandS.Ends
import HandS.Words
import HandS.Exc
import HandS.Head0
import HandS.Head1
import HandS.Head2
import HandS.HeadEnd
import HandS.HeadHook1
import HandS.HeadHook2
import HandS.HeadHook3
import HandS.ForMost
import HandS.Evl
import HandS.IsInst
import HandS.TupAny
import HandS.SortInts
import HandS.Flow
import HandS.Wide
import HandS.Style
import KE.SortData
import HandS.ListItems
import KE.KDictList
import HandS.DictTup
import KE.KDictWalk
import HandS.DictComp
import PyProof.ListRange
import HandS.Conv
import HandS.Iter
import KE.GoesEnumKw
import KE.KxField
import HandS.FStr
import HandS.StrSplit
import HandS.Text
import KE.KExcSuper
import HandS.ExcInit
import HandS.ExcOwn
import HandS.ExcField
import HandS.TryMany
import HandS.WordsExc
import HandS.RaiseMore
import HandS.Small
import HandS.Nested
import HandS.ExcSuper
import HandS.Strs
import HandS.Zip
import PyProof.StrLawsOcc
import PyProof.StrBlock2
import PyProof.StrLawsChain
import HandS.Set
import PyProof.Rows.SortShellAny
import HandS.ExcIs
import HandS.SortOrd
import HandS.Sort
import HandS.SortRule
import HandS.Deep
import HandS.TupLe
import HandS.Property
import HandS.TryOnly
import HandS.ExcCtx
import HandS.Hot
import HandS.HotCalls
import HandS.SuiteRaise
import HandS.RaiseFrom
import HandS.ExcInitHot
import HandS.NestedHot
import HandS.SortKw
import KE.DatumOrd
import PyProof.WalksMore
import HandS.WordsDict
import PyProof.ReprText
import PyProof.StrLawsRepr
import PyProof.ReprLen
import PyProof.Rows.StrSplitMax
import KE.KIntText
import PySem.Challenge.RW_limitweave_k48_beginnings_of_rows
set_option Elab.async false
set_option linter.all false
set_option maxRecDepth 100000
set_option maxHeartbeats 3900000
namespace HX
open PySem PySem.Spec PyProof.Rows L2
open PySem.W (Frag)
/-- what an object names -/
def refsX (o : Obj) : List Addr := match o.data with
  | .seq its _ => its.toList.flatMap He.refV
  | .dict es _ => es.toList.flatMap fun e => He.refV e.val
  | .func fd => He.refV fd.code ++ (He.refV fd.defaults ++ fd.closure.map (·.2))
  | .cls cd => [cd.ns]
  | .fields vs => (match decide (o.cls = .type "property") with
    | true => vs.toList.flatMap He.refV
    | false => [])
  | _ => []
def lev (g : Addr → Option Obj) : Nat → List Addr → List Addr
  | 0, as => as
  | n + 1, as => as ++ lev g n (as.flatMap fun a => match g a with
    | some o => refsX o
    | none => [])
def asX (g : Addr → Option Obj) (n : Nat) : List Addr := PySem.cStatics :: lev g n [mainGlobals]
def frX (g : Addr → Option Obj) : List Addr → Frag
  | [] => []
  | a :: r => HandSHeadRun.frNat a fun a => match g a with
    | some o => (a, o) :: frX g r
    | none => frX g r
theorem frX_at {g : Addr → Option Obj} {a : Addr} {o : Obj} : ∀ as : List Addr, (frX g as).lookup a = some o → g a = some o
  | [], e => nomatch (show (none : Option Obj) = some o from e)
  | b :: r, e => by
    rw [frX, HandSHeadRun.frNat_eq] at e
    cases hb : g b with
    | none =>
      rw [hb] at e
      exact frX_at r e
    | some ob =>
      rw [hb] at e
      have e2 : (match a == b with | true => some ob | false => (frX g r).lookup a) = some o := e
      cases q : (a == b) with
      | true =>
        rw [q] at e2
        have eo : ob = o := Option.some.inj e2
        rw [beq_iff_eq.mp q, hb, eo]
      | false =>
        rw [q] at e2
        exact frX_at r e2
theorem frX_in {as : List Addr} {h : Heap} : (frX h.get? as).In h := fun _ _ e => frX_at as e
/-- the object that the name x stands for in the dict at ns -/
def na (K : Frag) (ns : Addr) (x : Str) : Addr := match PySem.W.nsIn K ns x with
  | some (some (.ref a)) => a
  | _ => 0
def tk (K : Frag) (ns : Addr) (x : Str) : Tok := match PySem.W.nsIn K ns x with
  | some (some (.int _ t)) => t
  | some (some (.str _ t)) => t
  | _ => default
def rr (K : Frag) (p : Addr) (T : String) : List Value := match PySem.W.recIn K p T with
  | some (_ :: r) => r
  | _ => []
abbrev FV : Type := Option (Str × Str × Arguments × FuncBody × Scope × Addr × List Str × Value × Addr)
def fnO (K : Frag) (a : Addr) : FV := match K.lookup a with
  | some ⟨_, _, .func fd, _⟩ => some (fd.name, fd.qualname, fd.params, fd.body, fd.scope, fd.globals, fd.closure.map (·.1), fd.defaults, fd.builtins)
  | _ => none
structure FD where
  at_ : Frag → Addr
  name : Str
  qual : Str
  st : Stmt
  cl : List Str := []
def FD.val (d : FD) : FV := some (d.name, d.qual, defArgs d.st, .stmts (defBody d.st), defScope d.st, mainGlobals, d.cl, .none, builtinsNs)
def codeB (K : Frag) (a : Addr) (q : Str) : Bool := match K.lookup a with
  | some ⟨_, _, .func fd, _⟩ => PySem.W.codeIn K fd.code q && PySem.W.keepIn K (.ref a)
  | _ => false
def FnIn (K : Frag) (f : Addr) (x qual : Str) (st : Stmt) : Prop := ∃ (oc : Value) (od : Option Addr) (kV dc pm : Value) (an : Option Addr) (cd ct : Value) (sl : Array (Option Value)), K.lookup f = some ⟨oc, od, .func (PySem.W.fnOf x qual (defArgs st) (defBody st) (defScope st) .none kV dc pm an cd ct), sl⟩ ∧ PySem.W.codeIn K cd qual = true ∧ PySem.W.keepIn K (.ref f) = true
theorem fd_cases {K : Frag} {d : FD} (e : fnO K (d.at_ K) = d.val) (c : codeB K (d.at_ K) d.qual = true) :
    ∃ (oc : Value) (od : Option Addr) (fd : FuncData) (sl : Array (Option Value)), K.lookup (d.at_ K) = some ⟨oc, od, .func fd, sl⟩ ∧ fd.closure.map (·.1) = d.cl ∧ (∀ cl, fd.closure = cl → ∃ kV dc pm an ct, fd = PySem.W.fnX d.name d.qual (defArgs d.st) (defBody d.st) (defScope d.st) cl .none kV dc pm an fd.code ct) ∧ PySem.W.codeIn K fd.code d.qual = true ∧ PySem.W.keepIn K (.ref (d.at_ K)) = true := by
  unfold codeB at c
  unfold fnO at e
  cases q : K.lookup (d.at_ K) with
  | none =>
    rw [q] at c
    cases c
  | some o =>
    obtain ⟨oc, od, dt, osl⟩ := o
    rw [q] at c e
    cases dt with
    | func fd =>
      obtain ⟨c1, c2⟩ := Bool.and_eq_true_iff.mp (show (PySem.W.codeIn K fd.code d.qual && PySem.W.keepIn K (.ref (d.at_ K))) = true from c)
      obtain ⟨n1, n2, n3, n4, n5, n6, n7, n8, n9, n10, n11, n12, n13, n14, n15⟩ := fd
      have e2 : (some (n1, n2, n3, n4, n5, n6, n7.map (·.1), n8, n15) : FV) = some (d.name, d.qual, defArgs d.st, .stmts (defBody d.st), defScope d.st, mainGlobals, d.cl, .none, builtinsNs) := e
      simp only [Option.some.injEq, Prod.mk.injEq] at e2
      obtain ⟨h1, h2, h3, h4, h5, h6, h7, h8, h9⟩ := e2
      refine ⟨oc, od, _, osl, rfl, h7, fun cl hc => ⟨n9, n10, n11, n12, n14, ?_⟩, c1, c2⟩
      have hc2 : n7 = cl := hc
      subst h1 h2 h3 h4 h5 h6 h8 h9 hc2
      rfl
    | _ => cases c
theorem fd_in {K : Frag} {d : FD} (hcl : d.cl = []) (e : fnO K (d.at_ K) = d.val) (c : codeB K (d.at_ K) d.qual = true) : FnIn K (d.at_ K) d.name d.qual d.st := by
  obtain ⟨oc, od, fd, sl, h1, h2, h3, h4, h5⟩ := fd_cases e c
  rw [hcl] at h2
  obtain ⟨kV, dc, pm, an, ct, h6⟩ := h3 [] (List.map_eq_nil_iff.mp h2)
  exact ⟨oc, od, kV, dc, pm, an, fd.code, ct, sl, h1.trans (congrArg (fun z => some (⟨oc, od, .func z, sl⟩ : Obj)) h6), h4, h5⟩
abbrev Tab : Type := (Frag → Addr) × List Str
abbrev Al : Type := Bool × List FV × List (Option (List (Option (Str × Int))))
def obsK (bs : List (List (Frag → Bool))) (fs : List FD) (ts : List Tab) (K : Frag) : Al := ((bs.all fun b => b.all fun f => f K) && fs.all fun d => codeB K (d.at_ K) d.qual, fs.map fun d => fnO K (d.at_ K), ts.map fun t => He.dicW K (t.1 K))
def valK (fs : List FD) (ts : List Tab) (w : World) : Al := (true, fs.map FD.val, ts.map fun t => some (He.keysIn w.params t.2))
def obsG (n : Nat) (bs : List (List (Frag → Bool))) (fs : List FD) (ts : List Tab) (g : Addr → Option Obj) : Al := obsK bs fs ts (frX g (asX g n))
def Says (bs : List (List (Frag → Bool))) (fs : List FD) (ts : List Tab) (w : World) (K : Frag) : Prop := obsK bs fs ts K = valK fs ts w
def hook (n : Nat) (bs : List (List (Frag → Bool))) (fs : List FD) (ts : List Tab) : PySem.W.Hook where
  α := Al
  obs := fun s => obsG n bs fs ts s.heap.get?
  val := fun w => valK fs ts w
  says := fun w h => ∃ K : Frag, K.In h ∧ Says bs fs ts w K
  of := fun _ _ e => ⟨_, frX_in, e⟩
  keeps := fun _ _ _ ⟨K, hK, c⟩ k => ⟨K, PySem.W.Frag.In.keeps hK k, c⟩
theorem obsG_eq {n : Nat} {bs : List (List (Frag → Bool))} {fs : List FD} {ts : List Tab} {g : Addr → Option Obj} {s : Shared} (h : ∀ a, g a = s.heap.get? a) : obsG n bs fs ts g = (hook n bs fs ts).obs s := by
  have e : g = s.heap.get? := funext h
  rw [e] <;> rfl
section
variable {bs : List (List (Frag → Bool))} {fs : List FD} {ts : List Tab} {w : World} {K : Frag}
theorem Says.both (c : Says bs fs ts w K) : (bs.all fun b => b.all fun f => f K) = true ∧ (fs.all fun d => codeB K (d.at_ K) d.qual) = true :=
  Bool.and_eq_true_iff.mp (show ((bs.all fun b => b.all fun f => f K) && fs.all fun d => codeB K (d.at_ K) d.qual) = true from congrArg (fun z : Al => z.1) c)
theorem Says.b (c : Says bs fs ts w K) (i j : Nat) {b : List (Frag → Bool)} {f : Frag → Bool} (h : bs[i]? = some b) (h2 : b[j]? = some f) : f K = true :=
  List.all_eq_true.mp (List.all_eq_true.mp c.both.1 b (List.mem_of_getElem? h)) f (List.mem_of_getElem? h2)
theorem Says.fd (c : Says bs fs ts w K) (i : Nat) {d : FD} (h : fs[i]? = some d) : fnO K (d.at_ K) = d.val ∧ codeB K (d.at_ K) d.qual = true := by
  have e : fs.map (fun d => fnO K (d.at_ K)) = fs.map FD.val := congrArg (fun z : Al => z.2.1) c
  have e2 : (fs.map fun d => fnO K (d.at_ K))[i]? = (fs.map FD.val)[i]? := by rw [e]
  rw [List.getElem?_map, List.getElem?_map, h] at e2
  exact ⟨Option.some.inj e2, List.all_eq_true.mp c.both.2 d (List.mem_of_getElem? h)⟩
theorem Says.fn (c : Says bs fs ts w K) (i : Nat) {d : FD} (h : fs[i]? = some d) (hcl : d.cl = []) : FnIn K (d.at_ K) d.name d.qual d.st := fd_in hcl (c.fd i h).1 (c.fd i h).2
end
end HX

namespace Toy
open PySem PyProof.Rows L2
def top (i : Nat) : Stmt := PySem.Challenge.pw_limitweave_k48_beginnings_of_rows.main.body.getD i (.Pass ⟨0, 0, 0, 0⟩)
end Toy

namespace Hd
open PySem PyProof.Rows L2
def bk0 : List (PySem.W.Frag → Bool) := [
  fun K => decide (PySem.W.nsIn K mainGlobals "Past" = some (some (.ref (He.ga K "Past")))),
  fun K => decide (PySem.W.plainGet K (He.ga K "Past") Str.empty = true),
  fun K => decide (PySem.W.hasDictIn K (He.ga K "Past") = true),
  fun K => decide (PySem.W.plainOver K (He.ga K "Past") = true),
  fun K => decide (PySem.W.findIn K (.ref (He.ga K "Past")) "__setattr__" = some (some (.builtin "object.__setattr__"))),
  fun K => decide (PySem.W.makesIn K (He.ga K "Past") = true),
  fun K => decide (PySem.W.keepIn K (.ref (He.ga K "Past")) = true),
  fun K => decide (PySem.W.findIn K (.ref (He.ga K "Past")) "is_blank" = some none),
  fun K => decide (PySem.W.findIn K (.ref (He.ga K "Past")) "dropped" = some none),
  fun K => decide (PySem.W.findIn K (.ref (He.ga K "Past")) "many_entries" = some none),
  fun K => decide (PySem.W.findIn K (.ref (He.ga K "Past")) "moment" = some none),
  fun K => decide (PySem.W.findIn K (.ref (He.ga K "Past")) "view" = some none),
  fun K => decide (PySem.W.findIn K (.ref (He.ga K "Past")) "_asked" = some none),
  fun K => decide (PySem.W.findIn K (.ref (He.ga K "Past")) "_was_let" = some none),
  fun K => decide (PySem.W.findIn K (.ref (He.ga K "Past")) "_released" = some none),
  fun K => decide (PySem.W.nsIn K mainGlobals "Journal" = some (some (.ref (He.ga K "Journal")))),
  fun K => decide (PySem.W.plainGet K (He.ga K "Journal") Str.empty = true),
  fun K => decide (PySem.W.hasDictIn K (He.ga K "Journal") = true),
  fun K => decide (PySem.W.plainOver K (He.ga K "Journal") = true),
  fun K => decide (PySem.W.findIn K (.ref (He.ga K "Journal")) "__setattr__" = some (some (.builtin "object.__setattr__"))),
  fun K => decide (PySem.W.makesIn K (He.ga K "Journal") = true),
  fun K => decide (PySem.W.keepIn K (.ref (He.ga K "Journal")) = true),
  fun K => decide (PySem.W.findIn K (.ref (He.ga K "Journal")) "_first" = some none),
  fun K => decide (PySem.W.findIn K (.ref (He.ga K "Journal")) "_bodies" = some none),
  fun K => decide (PySem.W.findIn K (.ref (He.ga K "Journal")) "_entries" = some none),
  fun K => decide (PySem.W.findIn K (.ref (He.ga K "Journal")) "_past" = some none),
  fun K => decide (PySem.W.findIn K (.ref (He.ga K "Journal")) "_lines" = some none),
  fun K => decide (PySem.W.findIn K (.ref (He.ga K "Journal")) "_last_head" = some none),
  fun K => decide (PySem.W.findIn K (.ref (He.ga K "Past")) "__init__" = some (some (.ref (He.ma K (He.ga K "Past") "__init__")))),
  fun K => decide (PySem.W.isFn K (.ref (He.ma K (He.ga K "Past") "__init__")) = true)]
def bk1 : List (PySem.W.Frag → Bool) := [
  fun K => decide (PySem.W.findIn K (.ref (He.ga K "Past")) "fits" = some (some (.ref (He.ma K (He.ga K "Past") "fits")))),
  fun K => decide (PySem.W.isFn K (.ref (He.ma K (He.ga K "Past") "fits")) = true),
  fun K => decide (PySem.W.findIn K (.ref (He.ga K "Past")) "take" = some (some (.ref (He.ma K (He.ga K "Past") "take")))),
  fun K => decide (PySem.W.isFn K (.ref (He.ma K (He.ga K "Past") "take")) = true),
  fun K => decide (PySem.W.findIn K (.ref (He.ga K "Past")) "_fits_view" = some (some (.ref (He.ma K (He.ga K "Past") "_fits_view")))),
  fun K => decide (PySem.W.isFn K (.ref (He.ma K (He.ga K "Past") "_fits_view")) = true),
  fun K => decide (PySem.W.findIn K (.ref (He.ga K "Past")) "_is_told_by" = some (some (.ref (He.ma K (He.ga K "Past") "_is_told_by")))),
  fun K => decide (PySem.W.isFn K (.ref (He.ma K (He.ga K "Past") "_is_told_by")) = true),
  fun K => decide (PySem.W.findIn K (.ref (He.ga K "Past")) "_fits_row" = some (some (.ref (He.ma K (He.ga K "Past") "_fits_row")))),
  fun K => decide (PySem.W.isFn K (.ref (He.ma K (He.ga K "Past") "_fits_row")) = true),
  fun K => decide (PySem.W.findIn K (.ref (He.ga K "Past")) "_take_entry" = some (some (.ref (He.ma K (He.ga K "Past") "_take_entry")))),
  fun K => decide (PySem.W.isFn K (.ref (He.ma K (He.ga K "Past") "_take_entry")) = true),
  fun K => decide (PySem.W.findIn K (.ref (He.ga K "Past")) "_take_snapshot" = some (some (.ref (He.ma K (He.ga K "Past") "_take_snapshot")))),
  fun K => decide (PySem.W.isFn K (.ref (He.ma K (He.ga K "Past") "_take_snapshot")) = true),
  fun K => decide (PySem.W.findIn K (.ref (He.ga K "Journal")) "__init__" = some (some (.ref (He.ma K (He.ga K "Journal") "__init__")))),
  fun K => decide (PySem.W.isFn K (.ref (He.ma K (He.ga K "Journal") "__init__")) = true),
  fun K => decide (PySem.W.findIn K (.ref (He.ga K "Journal")) "entries" = some (some (.ref (He.ma K (He.ga K "Journal") "entries")))),
  fun K => decide (PySem.W.isFn K (.ref (He.ma K (He.ga K "Journal") "entries")) = true),
  fun K => decide (PySem.W.findIn K (.ref (He.ga K "Journal")) "first_entry" = some (some (.ref (He.ma K (He.ga K "Journal") "first_entry")))),
  fun K => decide (PySem.W.isFn K (.ref (He.ma K (He.ga K "Journal") "first_entry")) = true),
  fun K => decide (PySem.W.findIn K (.ref (He.ga K "Journal")) "_put" = some (some (.ref (He.ma K (He.ga K "Journal") "_put")))),
  fun K => decide (PySem.W.isFn K (.ref (He.ma K (He.ga K "Journal") "_put")) = true),
  fun K => decide (PySem.W.findIn K (.ref (He.ga K "Journal")) "_take" = some (some (.ref (He.ma K (He.ga K "Journal") "_take")))),
  fun K => decide (PySem.W.isFn K (.ref (He.ma K (He.ga K "Journal") "_take")) = true),
  fun K => decide (PySem.W.nsIn K mainGlobals "is_name" = some (some (.ref (He.ga K "is_name")))),
  fun K => decide (PySem.W.nsIn K mainGlobals "is_key" = some (some (.ref (He.ga K "is_key")))),
  fun K => decide (PySem.W.nsIn K mainGlobals "is_within" = some (some (.ref (He.ga K "is_within")))),
  fun K => decide (PySem.W.nsIn K mainGlobals "is_moment" = some (some (.ref (He.ga K "is_moment")))),
  fun K => decide (PySem.W.nsIn K mainGlobals "is_request" = some (some (.ref (He.ga K "is_request")))),
  fun K => decide (PySem.W.nsIn K mainGlobals "is_entry" = some (some (.ref (He.ga K "is_entry"))))]
def bk2 : List (PySem.W.Frag → Bool) := [
  fun K => decide (PySem.W.nsIn K mainGlobals "goes_on" = some (some (.ref (He.ga K "goes_on")))),
  fun K => decide (PySem.W.nsIn K mainGlobals "is_ascending" = some (some (.ref (He.ga K "is_ascending")))),
  fun K => decide (PySem.W.nsIn K mainGlobals "parse_number" = some (some (.ref (He.ga K "parse_number")))),
  fun K => decide (PySem.W.nsIn K mainGlobals "parse_entry" = some (some (.ref (He.ga K "parse_entry")))),
  fun K => decide (PySem.W.nsIn K mainGlobals "is_count" = some (some (.ref (He.ga K "is_count")))),
  fun K => decide (PySem.W.nsIn K mainGlobals "is_view" = some (some (.ref (He.ga K "is_view")))),
  fun K => decide (PySem.W.nsIn K mainGlobals "read_view" = some (some (.ref (He.ga K "read_view")))),
  fun K => decide (PySem.W.nsIn K mainGlobals "read_head" = some (some (.ref (He.ga K "read_head")))),
  fun K => decide (PySem.W.nsIn K mainGlobals "read_decision" = some (some (.ref (He.ga K "read_decision")))),
  fun K => decide (PySem.W.nsIn K mainGlobals "read_row" = some (some (.ref (He.ga K "read_row")))),
  fun K => decide (PySem.W.nsIn K mainGlobals "read_body" = some (some (.ref (He.ga K "read_body")))),
  fun K => decide (PySem.W.nsIn K mainGlobals "is_descending" = some (some (.ref (He.ga K "is_descending")))),
  fun K => decide (PySem.W.nsIn K mainGlobals "can_begin" = some (some (.ref (He.ga K "can_begin")))),
  fun K => decide (PySem.W.nsIn K mainGlobals "check_digits" = some (some (.ref (He.ga K "check_digits")))),
  fun K => decide (PySem.W.nsIn K mainGlobals "record_line" = some (some (.ref (He.ga K "record_line")))),
  fun K => decide (PySem.W.nsIn K mainGlobals "is_body" = some (some (.ref (He.ga K "is_body")))),
  fun K => decide (PySem.W.nsIn K mainGlobals "read_record" = some (some (.ref (He.ga K "read_record")))),
  fun K => decide (PySem.W.nsIn K mainGlobals "whole_records" = some (some (.ref (He.ga K "whole_records")))),
  fun K => decide (PySem.W.nsIn K mainGlobals "read_unit" = some (some (.ref (He.ga K "read_unit")))),
  fun K => decide (PySem.W.nsIn K mainGlobals "journal_of" = some (some (.ref (He.ga K "journal_of")))),
  fun K => decide (PySem.W.nsIn K mainGlobals "recovered" = some (some (.ref (He.ga K "recovered")))),
  fun K => decide (PySem.W.nsIn K mainGlobals "agree" = some (some (.ref (He.ga K "agree")))),
  fun K => decide (PySem.W.nsIn K mainGlobals "common_beginning" = some (some (.ref (He.ga K "common_beginning")))),
  fun K => decide (PySem.W.nsIn K mainGlobals "is_beginning" = some (some (.ref (He.ga K "is_beginning")))),
  fun K => decide (PySem.W.nsIn K mainGlobals "_law_row" = some (some (.ref (He.ga K "_law_row")))),
  fun K => decide (PySem.W.nsIn K mainGlobals "_law_numbers" = some (some (.ref (He.ga K "_law_numbers")))),
  fun K => decide (PySem.W.nsIn K mainGlobals "_law_three" = some (some (.ref (He.ga K "_law_three")))),
  fun K => decide (PySem.W.nsIn K mainGlobals "_law_digits" = some (some (.ref (He.ga K "_law_digits")))),
  fun K => decide (PySem.W.nsIn K mainGlobals "_law_line" = some (some (.ref (He.ga K "_law_line")))),
  fun K => decide (PySem.W.nsIn K mainGlobals "_law_text" = some (some (.ref (He.ga K "_law_text"))))]
def bk3 : List (PySem.W.Frag → Bool) := [
  fun K => decide (PySem.W.nsIn K mainGlobals "_law_limit" = some (some (.ref (He.ga K "_law_limit")))),
  fun K => decide (PySem.W.nsIn K mainGlobals "_law_limits" = some (some (.ref (He.ga K "_law_limits")))),
  fun K => decide (PySem.W.nsIn K mainGlobals "_law_entries" = some (some (.ref (He.ga K "_law_entries")))),
  fun K => decide (PySem.W.nsIn K mainGlobals "_law_asked" = some (some (.ref (He.ga K "_law_asked")))),
  fun K => decide (PySem.W.nsIn K mainGlobals "_law_body" = some (some (.ref (He.ga K "_law_body")))),
  fun K => decide (PySem.W.nsIn K mainGlobals "_law_looks" = some (some (.ref (He.ga K "_law_looks")))),
  fun K => decide (PySem.W.nsIn K mainGlobals "_law_pool_fits" = some (some (.ref (He.ga K "_law_pool_fits")))),
  fun K => decide (PySem.W.nsIn K mainGlobals "_law_bucket_fits" = some (some (.ref (He.ga K "_law_bucket_fits")))),
  fun K => decide (PySem.W.nsIn K mainGlobals "_law_fits" = some (some (.ref (He.ga K "_law_fits")))),
  fun K => decide (PySem.W.nsIn K mainGlobals "_law_never" = some (some (.ref (He.ga K "_law_never")))),
  fun K => decide (PySem.W.nsIn K mainGlobals "_law_earliest" = some (some (.ref (He.ga K "_law_earliest")))),
  fun K => decide (PySem.W.nsIn K mainGlobals "_law_taken" = some (some (.ref (He.ga K "_law_taken")))),
  fun K => decide (PySem.W.nsIn K mainGlobals "_law_rows" = some (some (.ref (He.ga K "_law_rows")))),
  fun K => decide (PySem.W.nsIn K mainGlobals "_law_row_body" = some (some (.ref (He.ga K "_law_row_body")))),
  fun K => decide (PySem.W.nsIn K mainGlobals "_law_head_body" = some (some (.ref (He.ga K "_law_head_body")))),
  fun K => decide (PySem.W.nsIn K mainGlobals "_law_view_words" = some (some (.ref (He.ga K "_law_view_words")))),
  fun K => decide (PySem.W.nsIn K mainGlobals "_law_journal" = some (some (.ref (He.ga K "_law_journal")))),
  fun K => decide (PySem.W.nsIn K mainGlobals "_law_agree" = some (some (.ref (He.ga K "_law_agree")))),
  fun K => decide (PySem.W.nsIn K mainGlobals "law" = some (some (.ref (He.ga K "law")))),
  fun K => decide (PySem.W.nsIn K mainGlobals "len" = some none),
  fun K => decide (PySem.W.nsIn K mainGlobals "int" = some none),
  fun K => decide (PySem.W.nsIn K mainGlobals "abs" = some none),
  fun K => decide (PySem.W.nsIn K mainGlobals "range" = some none),
  fun K => decide (PySem.W.nsIn K mainGlobals "tuple" = some none),
  fun K => decide (PySem.W.nsIn K mainGlobals "list" = some none),
  fun K => decide (PySem.W.nsIn K mainGlobals "sorted" = some none),
  fun K => decide (PySem.W.nsIn K mainGlobals "set" = some none),
  fun K => decide (PySem.W.nsIn K mainGlobals "isinstance" = some none),
  fun K => decide (PySem.W.nsIn K mainGlobals "bool" = some none),
  fun K => decide (PySem.W.nsIn K mainGlobals "min" = some none)]
def bk4 : List (PySem.W.Frag → Bool) := [
  fun K => decide (PySem.W.nsIn K mainGlobals "max" = some none),
  fun K => decide (PySem.W.nsIn K mainGlobals "sum" = some none),
  fun K => decide (PySem.W.nsIn K mainGlobals "all" = some none),
  fun K => decide (PySem.W.nsIn K mainGlobals "any" = some none),
  fun K => decide (PySem.W.nsIn K mainGlobals "str" = some none),
  fun K => decide (PySem.W.nsIn K mainGlobals "zip" = some none),
  fun K => decide (PySem.W.nsIn K mainGlobals "enumerate" = some none),
  fun K => decide (PySem.W.nsIn K mainGlobals "NAME_SIGNS" = some (some (.str "abcdefghijklmnopqrstuvwxyz0123456789" (HX.tk K mainGlobals "NAME_SIGNS")))),
  fun K => decide (PySem.W.nsIn K mainGlobals "KEY_SIGNS" = some (some (.str "abcdefghijklmnopqrstuvwxyz0123456789-" (HX.tk K mainGlobals "KEY_SIGNS")))),
  fun K => decide (PySem.W.nsIn K mainGlobals "GREATEST_MOMENT" = some (some (.int 1000000000 (HX.tk K mainGlobals "GREATEST_MOMENT")))),
  fun K => decide (PySem.W.nsIn K mainGlobals "GREATEST_COST" = some (some (.int 1000 (HX.tk K mainGlobals "GREATEST_COST")))),
  fun K => decide (PySem.W.nsIn K mainGlobals "DIGITS" = some (some (.str "0123456789" (HX.tk K mainGlobals "DIGITS")))),
  fun K => decide (PySem.W.nsIn K mainGlobals "NUMBER_DIGITS_notation" = some (some (.int 7 (HX.tk K mainGlobals "NUMBER_DIGITS_notation")))),
  fun K => decide (PySem.W.nsIn K mainGlobals "MOMENT_DIGITS" = some (some (.int 10 (HX.tk K mainGlobals "MOMENT_DIGITS")))),
  fun K => decide (PySem.W.nsIn K mainGlobals "NONE" = some (some (.str "none" (HX.tk K mainGlobals "NONE")))),
  fun K => decide (PySem.W.nsIn K mainGlobals "NEVER" = some (some (.str "never" (HX.tk K mainGlobals "NEVER")))),
  fun K => decide (PySem.W.nsIn K mainGlobals "GREATEST_COUNT" = some (some (.int 999999 (HX.tk K mainGlobals "GREATEST_COUNT")))),
  fun K => decide (PySem.W.nsIn K mainGlobals "COUNT_DIGITS" = some (some (.int 6 (HX.tk K mainGlobals "COUNT_DIGITS")))),
  fun K => decide (PySem.W.nsIn K mainGlobals "COST_DIGITS" = some (some (.int 4 (HX.tk K mainGlobals "COST_DIGITS")))),
  fun K => decide (PySem.W.nsIn K mainGlobals "EARLIEST_DIGITS" = some (some (.int 12 (HX.tk K mainGlobals "EARLIEST_DIGITS")))),
  fun K => decide (PySem.W.nsIn K mainGlobals "MOST_NAMES" = some (some (.int 8 (HX.tk K mainGlobals "MOST_NAMES")))),
  fun K => decide (PySem.W.nsIn K mainGlobals "LONGEST_BODY" = some (some (.int 700 (HX.tk K mainGlobals "LONGEST_BODY")))),
  fun K => decide (PySem.W.nsIn K mainGlobals "PRIME" = some (some (.int 997 (HX.tk K mainGlobals "PRIME")))),
  fun K => decide (PySem.W.nsIn K mainGlobals "SIZE_DIGITS" = some (some (.int 3 (HX.tk K mainGlobals "SIZE_DIGITS")))),
  fun K => decide (PySem.W.nsIn K mainGlobals "NUMBER_DIGITS_records" = some (some (.int 6 (HX.tk K mainGlobals "NUMBER_DIGITS_records")))),
  fun K => decide (PySem.W.nsIn K mainGlobals "END" = some (some (.int 7 (HX.tk K mainGlobals "END")))),
  fun K => decide (PySem.W.nsIn K mainGlobals "ord" = some none)]
def bss : List (List (PySem.W.Frag → Bool)) := [bk0, bk1, bk2, bk3, bk4]
def fk0 : List HX.FD := [
  ⟨fun K => (He.ma K (He.ga K "Past") "__init__"), "__init__", "Past.__init__", inClass (Toy.top 42) 0, []⟩,
  ⟨fun K => (He.ma K (He.ga K "Past") "fits"), "fits", "Past.fits", inClass (Toy.top 42) 2, []⟩,
  ⟨fun K => (He.ma K (He.ga K "Past") "take"), "take", "Past.take", inClass (Toy.top 42) 3, []⟩,
  ⟨fun K => (He.ma K (He.ga K "Past") "_fits_view"), "_fits_view", "Past._fits_view", inClass (Toy.top 42) 4, []⟩,
  ⟨fun K => (He.ma K (He.ga K "Past") "_is_told_by"), "_is_told_by", "Past._is_told_by", inClass (Toy.top 42) 5, []⟩,
  ⟨fun K => (He.ma K (He.ga K "Past") "_fits_row"), "_fits_row", "Past._fits_row", inClass (Toy.top 42) 6, []⟩,
  ⟨fun K => (He.ma K (He.ga K "Past") "_take_entry"), "_take_entry", "Past._take_entry", inClass (Toy.top 42) 7, []⟩,
  ⟨fun K => (He.ma K (He.ga K "Past") "_take_snapshot"), "_take_snapshot", "Past._take_snapshot", inClass (Toy.top 42) 8, []⟩,
  ⟨fun K => (He.ma K (He.ga K "Journal") "__init__"), "__init__", "Journal.__init__", inClass (Toy.top 58) 0, []⟩,
  ⟨fun K => (He.ma K (He.ga K "Journal") "entries"), "entries", "Journal.entries", inClass (Toy.top 58) 6, []⟩,
  ⟨fun K => (He.ma K (He.ga K "Journal") "first_entry"), "first_entry", "Journal.first_entry", inClass (Toy.top 58) 7, []⟩,
  ⟨fun K => (He.ma K (He.ga K "Journal") "_put"), "_put", "Journal._put", inClass (Toy.top 58) 14, []⟩,
  ⟨fun K => (He.ma K (He.ga K "Journal") "_take"), "_take", "Journal._take", inClass (Toy.top 58) 15, []⟩,
  ⟨fun K => (He.ga K "is_name"), "is_name", "is_name", Toy.top 9, []⟩,
  ⟨fun K => (He.ga K "is_key"), "is_key", "is_key", Toy.top 10, []⟩,
  ⟨fun K => (He.ga K "is_within"), "is_within", "is_within", Toy.top 11, []⟩,
  ⟨fun K => (He.ga K "is_moment"), "is_moment", "is_moment", Toy.top 12, []⟩,
  ⟨fun K => (He.ga K "is_request"), "is_request", "is_request", Toy.top 13, []⟩,
  ⟨fun K => (He.ga K "is_entry"), "is_entry", "is_entry", Toy.top 14, []⟩,
  ⟨fun K => (He.ga K "goes_on"), "goes_on", "goes_on", Toy.top 15, []⟩,
  ⟨fun K => (He.ga K "is_ascending"), "is_ascending", "is_ascending", Toy.top 16, []⟩,
  ⟨fun K => (He.ga K "parse_number"), "parse_number", "parse_number", Toy.top 22, []⟩,
  ⟨fun K => (He.ga K "parse_entry"), "parse_entry", "parse_entry", Toy.top 23, []⟩,
  ⟨fun K => (He.ga K "is_count"), "is_count", "is_count", Toy.top 32, []⟩,
  ⟨fun K => (He.ga K "is_view"), "is_view", "is_view", Toy.top 33, []⟩,
  ⟨fun K => (He.ga K "read_view"), "read_view", "read_view", Toy.top 34, []⟩,
  ⟨fun K => (He.ga K "read_head"), "read_head", "read_head", Toy.top 35, []⟩,
  ⟨fun K => (He.ga K "read_decision"), "read_decision", "read_decision", Toy.top 36, []⟩,
  ⟨fun K => (He.ga K "read_row"), "read_row", "read_row", Toy.top 37, []⟩,
  ⟨fun K => (He.ga K "read_body"), "read_body", "read_body", Toy.top 38, []⟩]
def fk1 : List HX.FD := [
  ⟨fun K => (He.ga K "is_descending"), "is_descending", "is_descending", Toy.top 40, []⟩,
  ⟨fun K => (He.ga K "can_begin"), "can_begin", "can_begin", Toy.top 41, []⟩,
  ⟨fun K => (He.ga K "check_digits"), "check_digits", "check_digits", Toy.top 50, []⟩,
  ⟨fun K => (He.ga K "record_line"), "record_line", "record_line", Toy.top 51, []⟩,
  ⟨fun K => (He.ga K "is_body"), "is_body", "is_body", Toy.top 53, []⟩,
  ⟨fun K => (He.ga K "read_record"), "read_record", "read_record", Toy.top 54, []⟩,
  ⟨fun K => (He.ga K "whole_records"), "whole_records", "whole_records", Toy.top 55, []⟩,
  ⟨fun K => (He.ga K "read_unit"), "read_unit", "read_unit", Toy.top 57, []⟩,
  ⟨fun K => (He.ga K "journal_of"), "journal_of", "journal_of", Toy.top 59, []⟩,
  ⟨fun K => (He.ga K "recovered"), "recovered", "recovered", Toy.top 60, []⟩,
  ⟨fun K => (He.ga K "agree"), "agree", "agree", Toy.top 62, []⟩,
  ⟨fun K => (He.ga K "common_beginning"), "common_beginning", "common_beginning", Toy.top 63, []⟩,
  ⟨fun K => (He.ga K "is_beginning"), "is_beginning", "is_beginning", Toy.top 64, []⟩,
  ⟨fun K => (He.ga K "_law_row"), "_law_row", "_law_row", Toy.top 66, []⟩,
  ⟨fun K => (He.ga K "_law_numbers"), "_law_numbers", "_law_numbers", Toy.top 67, []⟩,
  ⟨fun K => (He.ga K "_law_three"), "_law_three", "_law_three", Toy.top 68, []⟩,
  ⟨fun K => (He.ga K "_law_digits"), "_law_digits", "_law_digits", Toy.top 69, []⟩,
  ⟨fun K => (He.ga K "_law_line"), "_law_line", "_law_line", Toy.top 70, []⟩,
  ⟨fun K => (He.ga K "_law_text"), "_law_text", "_law_text", Toy.top 71, []⟩,
  ⟨fun K => (He.ga K "_law_limit"), "_law_limit", "_law_limit", Toy.top 72, []⟩,
  ⟨fun K => (He.ga K "_law_limits"), "_law_limits", "_law_limits", Toy.top 73, []⟩,
  ⟨fun K => (He.ga K "_law_entries"), "_law_entries", "_law_entries", Toy.top 74, []⟩,
  ⟨fun K => (He.ga K "_law_asked"), "_law_asked", "_law_asked", Toy.top 75, []⟩,
  ⟨fun K => (He.ga K "_law_body"), "_law_body", "_law_body", Toy.top 76, []⟩,
  ⟨fun K => (He.ga K "_law_looks"), "_law_looks", "_law_looks", Toy.top 77, []⟩,
  ⟨fun K => (He.ga K "_law_pool_fits"), "_law_pool_fits", "_law_pool_fits", Toy.top 78, []⟩,
  ⟨fun K => (He.ga K "_law_bucket_fits"), "_law_bucket_fits", "_law_bucket_fits", Toy.top 79, []⟩,
  ⟨fun K => (He.ga K "_law_fits"), "_law_fits", "_law_fits", Toy.top 80, []⟩,
  ⟨fun K => (He.ga K "_law_never"), "_law_never", "_law_never", Toy.top 81, []⟩,
  ⟨fun K => (He.ga K "_law_earliest"), "_law_earliest", "_law_earliest", Toy.top 82, []⟩]
def fk2 : List HX.FD := [
  ⟨fun K => (He.ga K "_law_taken"), "_law_taken", "_law_taken", Toy.top 83, []⟩,
  ⟨fun K => (He.ga K "_law_rows"), "_law_rows", "_law_rows", Toy.top 84, []⟩,
  ⟨fun K => (He.ga K "_law_row_body"), "_law_row_body", "_law_row_body", Toy.top 85, []⟩,
  ⟨fun K => (He.ga K "_law_head_body"), "_law_head_body", "_law_head_body", Toy.top 86, []⟩,
  ⟨fun K => (He.ga K "_law_view_words"), "_law_view_words", "_law_view_words", Toy.top 87, []⟩,
  ⟨fun K => (He.ga K "_law_journal"), "_law_journal", "_law_journal", Toy.top 89, []⟩,
  ⟨fun K => (He.ga K "_law_agree"), "_law_agree", "_law_agree", Toy.top 90, []⟩,
  ⟨fun K => (He.ga K "law"), "law", "law", Toy.top 91, []⟩]
def fds : List HX.FD := fk0 ++ (fk1 ++ (fk2))
def tbs : List HX.Tab := []
def nm0 : List PySem.Str := [
  "_wall",
  "LimitError",
  "InvalidEntry",
  "NAME_SIGNS",
  "KEY_SIGNS",
  "GREATEST_MOMENT",
  "GREATEST_COST",
  "is_name",
  "is_key",
  "is_within",
  "is_moment",
  "is_request",
  "is_entry",
  "goes_on",
  "is_ascending",
  "DIGITS",
  "NUMBER_DIGITS_notation",
  "MOMENT_DIGITS",
  "format_entry",
  "parse_number",
  "parse_entry",
  "NONE",
  "NEVER",
  "GREATEST_COUNT",
  "COUNT_DIGITS",
  "COST_DIGITS",
  "EARLIEST_DIGITS",
  "MOST_NAMES",
  "is_count",
  "is_view"]
def nm1 : List PySem.Str := [
  "read_view",
  "read_head",
  "read_decision",
  "read_row",
  "read_body",
  "is_descending",
  "can_begin",
  "Past",
  "GREATEST_RECORD",
  "LONGEST_BODY",
  "PRIME",
  "SIZE_DIGITS",
  "NUMBER_DIGITS_records",
  "END",
  "check_digits",
  "record_line",
  "record_text",
  "is_body",
  "read_record",
  "whole_records",
  "read_unit",
  "Journal",
  "journal_of",
  "recovered",
  "agree",
  "common_beginning",
  "is_beginning",
  "_law_row",
  "_law_numbers",
  "_law_three"]
def nm2 : List PySem.Str := [
  "_law_digits",
  "_law_line",
  "_law_text",
  "_law_limit",
  "_law_limits",
  "_law_entries",
  "_law_asked",
  "_law_body",
  "_law_looks",
  "_law_pool_fits",
  "_law_bucket_fits",
  "_law_fits",
  "_law_never",
  "_law_earliest",
  "_law_taken",
  "_law_rows",
  "_law_row_body",
  "_law_head_body",
  "_law_view_words",
  "_law_view_body",
  "_law_journal",
  "_law_agree"]
def names : List PySem.Str := nm0 ++ (nm1 ++ (nm2))
abbrev R : PySem.W.OpenRow := PySem.W.OpenLaw.row PySem.Challenge.rw_limitweave_k48_beginnings_of_rows
abbrev qv : Program := PySem.W.view R.prog [91]
abbrev hk : PySem.W.Hook := HX.hook 5 bss fds tbs
def ob (s : PySem.W.SharedT) : HX.Al := HX.obsG 5 bss fds tbs (HandSHeadRun.getT s)
theorem ob_eq (s : PySem.W.SharedT) : ob s = hk.obs s.abs := HX.obsG_eq (HandSHeadRun.getT_eq s)
theorem runF (w : World) : HandSHeadRun.RunEq R qv hk ob 60000 names (w.withFollow "special-get-raises" false) := by
  intro os
  kernel_rfl
theorem runT (w : World) : HandSHeadRun.RunEq R qv hk ob 60000 names (w.withFollow "special-get-raises" true) := by
  intro os
  kernel_rfl
theorem run (w : World) : HandSHeadRun.RunEq R qv hk ob 60000 names w :=
  PySem.W.byRow2 "special-get-raises" (P := fun w => HandSHeadRun.RunEq R qv hk ob 60000 names w) runF runT w
end Hd
open PySem.W PyProof.Rows PySem in
theorem Hd.head (call : PySem.W.WalkO Hd.qv Hd.names (PySem.W.XL Hd.qv []) Hd.hk.says Hd.R.toRowW (HandSHeadRun.topDef Hd.R.prog 91) [] (fun f vs => PySem.call f vs)) : PySem.Challenge.rw_limitweave_k48_beginnings_of_rows.Holds := by
  w_on; o_law
  refine HandSHeadRun.head_any (r := Hd.R) (q := Hd.qv) (H := Hd.hk) (ob := Hd.ob) (M := 60000) (loose := Hd.names) (d := HandSHeadRun.topDef Hd.R.prog 91) (kwd := []) Hd.ob_eq (by kernel_rfl) (fun s => by kernel_rfl) Hd.run (by kernel_rfl) (by kernel_rfl) (by kernel_rfl) (by rfl) (by first | assumption | decide +kernel) (by decide +kernel) ⟨rfl, rfl, rfl, rfl, rfl, by decide +kernel⟩ ?hw call
  w_witness2

namespace Pf
open PySem L2
open Evl (Ex)

inductive D where
  | non | bl (b : Bool) | int (i : Int) | str (x : Str)
  | lst (xs : List D) | tup (xs : List D) | dct (kvs : List (Key × D)) | ins (C : Addr) (fs : List (Str × D))
  /-- a list of ints that is read only (the script) -/
  | scr (ns : List Int)
  /-- a built-in class -/
  | ty (n : String)
  /-- an error that a handler has caught: where its attributes stand, and they -/
  | exc (a : Addr) (o : Option Addr) (fs : List (Str × D))
  /-- a tuple that is known to have no dict -/
  | ftup (xs : List D)

mutual
/-- v stands for d in H -/
inductive Rep (K : PySem.W.Frag) (H : Hp) : D → V → Prop
  | non : Rep K H .non .non
  | bl (b : Bool) : Rep K H (.bl b) (.bl b)
  | int (i : Int) : Rep K H (.int i) (.int i)
  | str (x : Str) : Rep K H (.str x) (.str x)
  | ty (n : String) : Rep K H (.ty n) (.ty n)
  | exc {a : Addr} {o : Option Addr} {fs : List (Str × V)} {fds : List (Str × D)} : (∀ dd, o = some dd → H dd = some (.xd fs)) → fs.map (·.1) = fds.map (·.1) → RepAll K H (fds.map (·.2)) (fs.map (·.2)) → Rep K H (.exc a o fds) (.ref a)
  | scr {a : Addr} {ns : List Int} : SqL K H a (ns.map V.int) → Rep K H (.scr ns) (.ref a)
  | lst {a : Addr} {vs : List V} {ds : List D} : H a = some (.lst vs) → RepAll K H ds vs → Rep K H (.lst ds) (.ref a)
  | tup {a : Addr} {vs : List V} {ds : List D} : SqT K H a vs → RepAll K H ds vs → Rep K H (.tup ds) (.ref a)
  | dct {a : Addr} {kvs : List (Key × V)} {kds : List (Key × D)} : H a = some (.dK kvs) → kvs.map (·.1) = kds.map (·.1) → RepAll K H (kds.map (·.2)) (kvs.map (·.2)) → Rep K H (.dct kds) (.ref a)
  | ins {a C dx : Addr} {fs : List (Str × V)} {fds : List (Str × D)} : H a = some (.ins C dx fs) → fs.map (·.1) = fds.map (·.1) → RepAll K H (fds.map (·.2)) (fs.map (·.2)) → Rep K H (.ins C fds) (.ref a)
  | ftup {a : Addr} {o : Obj} {vs : List V} {ds : List D} : H a = some (.frz o (.tup vs)) → o.dict = none → o.cls = .type "tuple" → RepAll K H ds vs → Rep K H (.ftup ds) (.ref a)
inductive RepAll (K : PySem.W.Frag) (H : Hp) : List D → List V → Prop
  | nil : RepAll K H [] []
  | cons {d : D} {v : V} {ds : List D} {vs : List V} : Rep K H d v → RepAll K H ds vs → RepAll K H (d :: ds) (v :: vs)
end

section
variable {K : PySem.W.Frag} {H H' : Hp}
theorem Rep.mono (e : Ex H H') {d : D} {v : V} (h : Rep K H d v) : Rep K H' d v := by
  refine Rep.rec (motive_1 := fun d v _ => Rep K H' d v) (motive_2 := fun ds vs _ => RepAll K H' ds vs) ?_ ?_ ?_ ?_ ?_ ?_ ?_ ?_ ?_ ?_ ?_ ?_ ?_ ?_ h
  · exact .non
  · exact fun b => .bl b
  · exact fun b => .int b
  · exact fun b => .str b
  · exact fun b => .ty b
  · exact fun h k _ ih => .exc (fun dd q => e _ _ (h dd q)) k ih
  · exact fun h => .scr (Evl.ex_l e h)
  · exact fun h _ ih => .lst (e _ _ h) ih
  · exact fun h _ ih => .tup (Evl.ex_t e h) ih
  · exact fun h k _ ih => .dct (e _ _ h) k ih
  · exact fun h k _ ih => .ins (e _ _ h) k ih
  · exact fun h k1 k2 _ ih => .ftup (e _ _ h) k1 k2 ih
  · exact .nil
  · exact fun _ _ a b => .cons a b
theorem RepAll.mono (e : Ex H H') : ∀ {ds : List D} {vs : List V}, RepAll K H ds vs → RepAll K H' ds vs
  | _, _, .nil => .nil
  | _, _, .cons a b => .cons (a.mono e) (RepAll.mono e b)
theorem RepAll.length : ∀ {ds : List D} {vs : List V}, RepAll K H ds vs → ds.length = vs.length
  | _, _, .nil => rfl
  | _, _, .cons _ b => congrArg (· + 1) (RepAll.length b)
theorem RepAll.get : ∀ {ds : List D} {vs : List V} {i : Nat} {d : D}, RepAll K H ds vs → ds[i]? = some d → ∃ v, vs[i]? = some v ∧ Rep K H d v
  | _, _, _, _, .nil, e => by simp at e
  | _, _, 0, _, .cons r _, e => by simp at e; subst e; exact ⟨_, rfl, r⟩
  | _, _, i + 1, d, .cons _ t, e => by
    obtain ⟨u, h1, h2⟩ := RepAll.get (i := i) (d := d) t (by simpa using e)
    exact ⟨u, by simpa using h1, h2⟩
theorem RepAll.append : ∀ {ds es : List D} {vs us : List V}, RepAll K H ds vs → RepAll K H es us → RepAll K H (ds ++ es) (vs ++ us)
  | _, _, _, _, .nil, s => s
  | _, _, _, _, .cons r t, s => .cons r (RepAll.append t s)
theorem RepAll.take : ∀ {ds : List D} {vs : List V} (n : Nat), RepAll K H ds vs → RepAll K H (ds.take n) (vs.take n)
  | _, _, 0, _ => .nil
  | _, _, _ + 1, .nil => .nil
  | _, _, n + 1, .cons r t => .cons r (RepAll.take n t)
theorem RepAll.drop : ∀ {ds : List D} {vs : List V} (n : Nat), RepAll K H ds vs → RepAll K H (ds.drop n) (vs.drop n)
  | _, _, 0, r => r
  | _, _, _ + 1, .nil => .nil
  | _, _, n + 1, .cons r t => RepAll.drop n t
theorem RepAll.ints : ∀ {ns : List Int} {vs : List V}, RepAll K H (ns.map D.int) vs → vs = ns.map V.int
  | [], _, .nil => rfl
  | n :: ns, _, .cons r t => by cases r; rw [RepAll.ints t]; rfl
theorem RepAll.toInts : ∀ (ns : List Int), RepAll K H (ns.map D.int) (ns.map V.int)
  | [] => .nil
  | n :: ns => .cons (.int n) (RepAll.toInts ns)
theorem RepAll.strs : ∀ {ns : List Str} {vs : List V}, RepAll K H (ns.map D.str) vs → vs = ns.map V.str
  | [], _, .nil => rfl
  | n :: ns, _, .cons r t => by cases r; rw [RepAll.strs t]; rfl
theorem RepAll.toStrs : ∀ (ns : List Str), RepAll K H (ns.map D.str) (ns.map V.str)
  | [] => .nil
  | n :: ns => .cons (.str n) (RepAll.toStrs ns)
theorem RepAll.bools : ∀ {ns : List Bool} {vs : List V}, RepAll K H (ns.map D.bl) vs → vs = ns.map V.bl
  | [], _, .nil => rfl
  | n :: ns, _, .cons r t => by cases r; rw [RepAll.bools t]; rfl
end

def Fr (W W' H : Hp) : Prop := ∀ b, W' b ≠ none → W b = none → H b = none
structure Step (W H W' H' : Hp) : Prop where
  ww : Ex W W'
  wh : Ex W' H'
  hh : Ex H H'
  fr : Fr W W' H
theorem Step.refl {W H : Hp} (e : Ex W H) : Step W H W H := ⟨.refl _, e, .refl _, fun b h1 h2 => absurd h2 h1⟩
theorem Step.trans {W H W1 H1 W2 H2 : Hp} (a : Step W H W1 H1) (b : Step W1 H1 W2 H2) : Step W H W2 H2 :=
  ⟨a.ww.trans b.ww, b.wh, a.hh.trans b.hh, fun c h1 h2 => by
    by_cases e : W1 c = none
    · exact Evl.fresh_back a.hh (b.fr c h1 e)
    · exact a.fr c e h2⟩
theorem Step.new {W H : Hp} {p : Addr} {o : HO} (e : Ex W H) (hp : H p = none) : Step W H (upd W p o) (upd H p o) :=
  ⟨.new (Evl.fresh_back e hp), fun a u h => by
    by_cases ha : a = p
    · subst ha; rw [upd_same] at h ⊢; exact h
    · rw [upd_ne ha] at h ⊢; exact e a u h, .new hp, fun b h1 h2 => by
    by_cases ha : b = p
    · subst ha; exact hp
    · rw [upd_ne ha] at h1; exact absurd h2 h1⟩
/-- new in H alone -/
theorem Step.newH {W H : Hp} {p : Addr} {o : HO} (e : Ex W H) (hp : H p = none) : Step W H W (upd H p o) :=
  ⟨.refl _, e.trans (.new hp), .new hp, fun b h1 h2 => absurd h2 h1⟩

def GoodE (K : PySem.W.Frag) (W H : Hp) (d : D) (Q : VK) : Prop := ∀ v W' H', Step W H W' H' → Rep K W' d v → Q v H'
def GoodA (K : PySem.W.Frag) (W H : Hp) (ds : List D) (Q : List V → Hp → Prop) : Prop := ∀ vs W' H', Step W H W' H' → RepAll K W' ds vs → Q vs H'
def GoodT (W H : Hp) (b : Bool) (Q : Bool → Hp → Prop) : Prop := ∀ W' H', Step W H W' H' → Q b H'
theorem GoodE.step {K : PySem.W.Frag} {W H W1 H1 : Hp} {d : D} {Q : VK} (g : GoodE K W H d Q) (s : Step W H W1 H1) : GoodE K W1 H1 d Q := fun v W' H' t r => g v W' H' (s.trans t) r
theorem GoodE.now {K : PySem.W.Frag} {W H : Hp} {d : D} {v : V} {Q : VK} (g : GoodE K W H d Q) (e : Ex W H) (r : Rep K W d v) : Q v H := g v W H (.refl e) r
theorem GoodT.step {W H W1 H1 : Hp} {b : Bool} {Q : Bool → Hp → Prop} (g : GoodT W H b Q) (s : Step W H W1 H1) : GoodT W1 H1 b Q := fun W' H' t => g W' H' (s.trans t)
theorem GoodT.now {W H : Hp} {b : Bool} {Q : Bool → Hp → Prop} (g : GoodT W H b Q) (e : Ex W H) : Q b H := g W H (.refl e)
theorem GoodA.step {K : PySem.W.Frag} {W H W1 H1 : Hp} {d : List D} {Q : List V → Hp → Prop} (g : GoodA K W H d Q) (s : Step W H W1 H1) : GoodA K W1 H1 d Q := fun v W' H' t r => g v W' H' (s.trans t) r

abbrev Rho := List (Option D)
structure Vis (K : PySem.W.Frag) (ρ : Rho) (W : Hp) (σ : L2.St) : Prop where
  len : ρ.length = σ.length
  at_ : ∀ (i : Nat) (d : D), ρ[i]? = some (some d) → ∃ v, σ[i]? = some (some v) ∧ Rep K W d v
theorem Vis.mono {K : PySem.W.Frag} {ρ : Rho} {W W' : Hp} {σ : L2.St} (h : Vis K ρ W σ) (e : Ex W W') : Vis K ρ W' σ := ⟨h.len, fun i d q => by
  obtain ⟨v, h1, h2⟩ := h.at_ i d q
  exact ⟨v, h1, h2.mono e⟩⟩

def wE (X : Cx) (e : Expr) : TE := fun σ H Q => ∀ (pins : List (Addr × Obj)) (s : Shared), Inv X pins σ H s → wpAny (model X.prog X.w) X.A (eval e X.env) (EP X pins σ Q) X.xe s
def wT (X : Cx) (e : Expr) : TT := fun σ H Q => ∀ (pins : List (Addr × Obj)) (s : Shared), Inv X pins σ H s → wpAny (model X.prog X.w) X.A (isTrue e X.env (eval e X.env)) (TP X pins σ Q) X.xe s
def wW (X : Cx) (e : Expr) : TT := fun σ H Q => ∀ (whole : Sem Value) (pins : List (Addr × Obj)) (s : Shared), Inv X pins σ H s → wpAny (model X.prog X.w) X.A (isTrue e X.env whole) (TP X pins σ Q) X.xe s
def wA (X : Cx) (es : List Expr) : TA := fun σ H Q => ∀ (pos : Pos) (pins : List (Addr × Obj)) (s : Shared), Inv X pins σ H s → wpAny (model X.prog X.w) X.A (spliced (backTo pos (starEach es X.env))) (AP X pins σ Q) X.xe s
def wS (X : Cx) (st : Stmt) : TS := fun D σ H => ∀ (pins : List (Addr × Obj)) (s : Shared), Inv X pins σ H s → wpAny (model X.prog X.w) X.A (exec st X.env) (SP X pins D) X.xe s
def wSs (X : Cx) (st : List Stmt) : TS := fun D σ H => ∀ (pins : List (Addr × Obj)) (s : Shared), Inv X pins σ H s → wpAny (model X.prog X.w) X.A (execs st X.env) (SP X pins D) X.xe s
section
variable {X : Cx} {e : Expr} {es : List Expr} {st : Stmt} {sts : List Stmt}
theorem pe_w : PE X e (wE X e) := ⟨fun pins s _ _ _ I h => h pins s I⟩
theorem pt_w : PT X e (wT X e) := ⟨fun pins s _ _ _ I h => h pins s I⟩
theorem pw_w : PW X e (wW X e) := ⟨fun w pins s _ _ _ I h => h w pins s I⟩
theorem pa_w : PA X es (wA X es) := ⟨fun pos pins s _ _ _ I h => h pos pins s I⟩
theorem ps_w : PS X st (wS X st) := ⟨fun pins s _ _ _ I h => h pins s I⟩
theorem pss_w : PSs X sts (wSs X sts) := ⟨fun pins s _ _ _ I h => h pins s I⟩
theorem wE.of {t : TE} (h : PE X e t) {σ : L2.St} {H : Hp} {Q : VK} (q : t σ H Q) : wE X e σ H Q := fun pins s I => h.run pins s σ H Q I q
theorem wT.of {t : TT} (h : PT X e t) {σ : L2.St} {H : Hp} {Q : Bool → Hp → Prop} (q : t σ H Q) : wT X e σ H Q := fun pins s I => h.run pins s σ H Q I q
theorem wW.of {t : TT} (h : PW X e t) {σ : L2.St} {H : Hp} {Q : Bool → Hp → Prop} (q : t σ H Q) : wW X e σ H Q := fun w pins s I => h.run w pins s σ H Q I q
theorem wA.of {t : TA} (h : PA X es t) {σ : L2.St} {H : Hp} {Q : List V → Hp → Prop} (q : t σ H Q) : wA X es σ H Q := fun pos pins s I => h.run pos pins s σ H Q I q
theorem wS.of {t : TS} (h : PS X st t) {σ : L2.St} {H : Hp} {D : Ends} (q : t D σ H) : wS X st D σ H := fun pins s I => h.run pins s σ H D I q
theorem wSs.of {t : TS} (h : PSs X sts t) {σ : L2.St} {H : Hp} {D : Ends} (q : t D σ H) : wSs X sts D σ H := fun pins s I => h.run pins s σ H D I q
end

structure J (X : Cx) (e : Expr) (ρ : Rho) (d : D) : Prop where
  run : ∀ W σ H, Ex W H → Vis X.K ρ W σ → ∀ Q : VK, GoodE X.K W H d Q → wE X e σ H Q
instance {X : Cx} {e : Expr} {ρ : Rho} {d : D} : CoeFun (J X e ρ d) (fun _ => ∀ W σ H, Ex W H → Vis X.K ρ W σ → ∀ Q : VK, GoodE X.K W H d Q → wE X e σ H Q) := ⟨J.run⟩
structure JT (X : Cx) (e : Expr) (ρ : Rho) (b : Bool) : Prop where
  run : ∀ W σ H, Ex W H → Vis X.K ρ W σ → ∀ Q : Bool → Hp → Prop, GoodT W H b Q → wT X e σ H Q
instance {X : Cx} {e : Expr} {ρ : Rho} {b : Bool} : CoeFun (JT X e ρ b) (fun _ => ∀ W σ H, Ex W H → Vis X.K ρ W σ → ∀ Q : Bool → Hp → Prop, GoodT W H b Q → wT X e σ H Q) := ⟨JT.run⟩
structure JW (X : Cx) (e : Expr) (ρ : Rho) (b : Bool) : Prop where
  run : ∀ W σ H, Ex W H → Vis X.K ρ W σ → ∀ Q : Bool → Hp → Prop, GoodT W H b Q → wW X e σ H Q
instance {X : Cx} {e : Expr} {ρ : Rho} {b : Bool} : CoeFun (JW X e ρ b) (fun _ => ∀ W σ H, Ex W H → Vis X.K ρ W σ → ∀ Q : Bool → Hp → Prop, GoodT W H b Q → wW X e σ H Q) := ⟨JW.run⟩
structure JA (X : Cx) (es : List Expr) (ρ : Rho) (ds : List D) : Prop where
  run : ∀ W σ H, Ex W H → Vis X.K ρ W σ → ∀ Q : List V → Hp → Prop, GoodA X.K W H ds Q → wA X es σ H Q
instance {X : Cx} {es : List Expr} {ρ : Rho} {ds : List D} : CoeFun (JA X es ρ ds) (fun _ => ∀ W σ H, Ex W H → Vis X.K ρ W σ → ∀ Q : List V → Hp → Prop, GoodA X.K W H ds Q → wA X es σ H Q) := ⟨JA.run⟩
/-- a rule over two values, over one, over several -/
def R2D (K : PySem.W.Frag) (r : R2) (x y z : D) : Prop := ∀ W H v u, Ex W H → Rep K W x v → Rep K W y u → ∀ Q : VK, GoodE K W H z Q → r v u H Q
def R1D (K : PySem.W.Frag) (r : V → Hp → VK → Prop) (x z : D) : Prop := ∀ W H v, Ex W H → Rep K W x v → ∀ Q : VK, GoodE K W H z Q → r v H Q
def RCD (K : PySem.W.Frag) (r : List V → Hp → VK → Prop) (xs : List D) (z : D) : Prop := ∀ W H vs, Ex W H → RepAll K W xs vs → ∀ Q : VK, GoodE K W H z Q → r vs H Q

section
variable {X : Cx} {a b c e : Expr} {es rest : List Expr} {ρ : Rho} {x y z d : D} {ds : List D} {pos p : Pos} {op op' : CmpOp} {bo : Operator} {t u : Bool}

theorem J.to {d' : D} (h : J X e ρ d) (q : d = d') : J X e ρ d' := q ▸ h
theorem JT.to (h : JT X e ρ t) (q : t = u) : JT X e ρ u := q ▸ h
theorem j_var {i : Nat} {n : Str} (hr : ρ[i]? = some (some d)) (hN : X.N[i]? = some n) (hv : L2.Vis X.env.scope n) (hd : (n == ("__debug__" : Str)) = false := by decide) (hcd : (n == ("__classdict__" : Str)) = false := by decide) : J X (.Name n pos) ρ d := ⟨fun W σ H e V Q g => by
  obtain ⟨v, h1, h2⟩ := V.at_ i d hr
  exact .of (pe_var hN hv hd hcd) ⟨v, h1, g.now e h2⟩⟩
theorem j_int {i : Int} {k} : J X (.Constant (.int i) k pos) ρ (.int i) := ⟨fun W σ H e V Q g => .of pe_int (g.now e (.int i))⟩
theorem j_bl {i : Bool} {k} : J X (.Constant (.bool i) k pos) ρ (.bl i) := ⟨fun W σ H e V Q g => .of pe_bl (g.now e (.bl i))⟩
theorem j_non {k} : J X (.Constant .none k pos) ρ .non := ⟨fun W σ H e V Q g => .of pe_non (g.now e .non)⟩
theorem j_str {i : Str} {k} : J X (.Constant (.str i) k pos) ρ (.str i) := ⟨fun W σ H e V Q g => .of pe_str (g.now e (.str i))⟩
theorem j_op {r : R2} (ho : OpR X (binaryOp bo) r) (ha : J X a ρ x) (hb : J X b ρ y) (hr : R2D X.K r x y z) : J X (.BinOp a bo b pos) ρ z := ⟨fun W σ H e V Q g =>
  .of (pe_op ho pe_w pe_w) (ha W σ H e V _ fun v W1 H1 s1 r1 => hb W1 σ H1 s1.wh (V.mono s1.ww) _ fun u W2 H2 s2 r2 => hr W2 H2 v u s2.wh (r1.mono s2.ww) r2 Q (g.step (s1.trans s2)))⟩
theorem j_un {uo : UnaryOp} {r : V → Hp → VK → Prop} (ho : UnR X (unaryOp uo) r) (ha : J X a ρ x) (hr : R1D X.K r x z) : J X (.UnaryOp uo a pos) ρ z := ⟨fun W σ H e V Q g =>
  .of (pe_un ho pe_w) (ha W σ H e V _ fun v W1 H1 s1 r1 => hr W1 H1 v s1.wh r1 Q (g.step s1))⟩
theorem j_cmp {r : R2} (ho : OpR X (compareOp op) r) (ha : J X a ρ x) (hb : J X b ρ y) (hr : R2D X.K r x y z) (hm : behindInMarks op b = false := by first | exact nobehind _ (by decide) (by decide) | rfl) : J X (.Compare a [op] [b] pos) ρ z := ⟨fun W σ H e V Q g =>
  .of (pe_cmpR ho pe_w pe_w hm) (ha W σ H e V _ fun v W1 H1 s1 r1 => hb W1 σ H1 s1.wh (V.mono s1.ww) _ fun u W2 H2 s2 r2 => hr W2 H2 v u s2.wh (r1.mono s2.ww) r2 Q (g.step (s1.trans s2)))⟩
theorem jt_cmp {r : R2} (ho : OpR X (compareOp op) r) (ha : J X a ρ x) (hb : J X b ρ y) (hr : R2D X.K r x y (.bl t)) (hm : behindInMarks op b = false := by first | exact nobehind _ (by decide) (by decide) | rfl) : JT X (.Compare a [op] [b] pos) ρ t := ⟨fun W σ H e V Q g =>
  .of (pt_cmpR ho pe_w pe_w hm) (ha W σ H e V _ fun v W1 H1 s1 r1 => hb W1 σ H1 s1.wh (V.mono s1.ww) _ fun u W2 H2 s2 r2 => hr W2 H2 v u s2.wh (r1.mono s2.ww) r2 _ fun v3 W3 H3 s3 r3 => by
    cases r3; exact ⟨t, rfl, g W3 H3 ((s1.trans s2).trans s3)⟩)⟩
theorem j_chain {r r' : R2} (ho : OpR X (compareOp op) r) (ho' : OpR X (compareOp op') r') (ha : J X a ρ x) (hb : J X b ρ y) (hc : t = true → J X c ρ z) (hr : R2D X.K r x y (.bl t)) (hr' : t = true → R2D X.K r' y z (.bl u))
    (hm : lastMarks [op, op'] [b, c] = false := by with_unfolding_all rfl) : J X (.Compare a [op, op'] [b, c] pos) ρ (.bl (t && u)) := ⟨fun W σ H e V Q g =>
  .of (pe_chain ho ho' pe_w pe_w pe_w hm) (ha W σ H e V _ fun v W1 H1 s1 r1 => hb W1 σ H1 s1.wh (V.mono s1.ww) _ fun w W2 H2 s2 r2 => hr W2 H2 v w s2.wh (r1.mono s2.ww) r2 _ fun v3 W3 H3 s3 r3 => by
    cases r3
    refine ⟨t, rfl, ?_⟩
    cases t with
    | false =>
      rw [if_neg Bool.false_ne_true]
      exact g _ W3 H3 ((s1.trans s2).trans s3) (.bl false)
    | true =>
      rw [if_pos rfl]
      exact hc rfl W3 σ H3 s3.wh (V.mono ((s1.trans s2).trans s3).ww) _ fun w3 W4 H4 s4 r4 => hr' rfl W4 H4 w w3 s4.wh (r2.mono (s3.trans s4).ww) r4 Q (g.step (((s1.trans s2).trans s3).trans s4)))⟩
theorem jt_chain {r r' : R2} (ho : OpR X (compareOp op) r) (ho' : OpR X (compareOp op') r') (ha : J X a ρ x) (hb : J X b ρ y) (hc : t = true → J X c ρ z) (hr : R2D X.K r x y (.bl t)) (hr' : t = true → R2D X.K r' y z (.bl u)) (hm : lastMarks [op, op'] [b, c] = false := by with_unfolding_all rfl) : JT X (.Compare a [op, op'] [b, c] pos) ρ (t && u) := ⟨fun W σ H e V Q g =>
  .of (pt_chain ho ho' pe_w pe_w pe_w hm) (ha W σ H e V _ fun v W1 H1 s1 r1 => hb W1 σ H1 s1.wh (V.mono s1.ww) _ fun w W2 H2 s2 r2 => hr W2 H2 v w s2.wh (r1.mono s2.ww) r2 _ fun v3 W3 H3 s3 r3 => by
    cases r3
    refine ⟨t, rfl, ?_⟩
    cases t with
    | false =>
      rw [if_neg Bool.false_ne_true]
      exact ⟨_, rfl, g W3 H3 ((s1.trans s2).trans s3)⟩
    | true =>
      rw [if_pos rfl]
      exact hc rfl W3 σ H3 s3.wh (V.mono ((s1.trans s2).trans s3).ww) _ fun w3 W4 H4 s4 r4 => hr' rfl W4 H4 w w3 s4.wh (r2.mono (s3.trans s4).ww) r4 _ fun v5 W5 H5 s5 r5 => by
        cases r5
        exact ⟨_, rfl, g W5 H5 ((((s1.trans s2).trans s3).trans s4).trans s5)⟩)⟩
theorem jt_val (h : J X e ρ (.bl t)) (he : ∀ whole, isTrue e X.env whole = (do let v ← whole; standAt e.pos; holding [v] (truthy v)) := by intro _; rfl) : JT X e ρ t := ⟨fun W σ H ex V Q g =>
  .of (pt_val pe_w he) (h W σ H ex V _ fun v W1 H1 s1 r1 => by cases r1; exact ⟨t, rfl, g W1 H1 s1⟩)⟩
def truth : D → Option Bool
  | .non => some false
  | .bl b => some b
  | .int i => some (i != 0)
  | .str x => if x.length ≤ sizeLine then some ((x.length : Int) != 0) else none
  | .lst xs => some (!xs.isEmpty)
  | .tup xs => some (!xs.isEmpty)
  | .dct kvs => some (!kvs.isEmpty)
  | .scr ns => some (!ns.isEmpty)
  | _ => none
theorem Rep.truth {K : PySem.W.Frag} {W H : Hp} {v : V} (e : Ex W H) (h : Rep K W d v) (q : truth d = some t) : TruV K v H t := by
  cases h with
  | non => cases q; rfl
  | bl b => cases q; rfl
  | int i => cases q; rfl
  | str x =>
    unfold Pf.truth at q
    dsimp only at q
    split at q
    · cases q; exact ⟨by assumption, rfl⟩
    · cases q
  | lst h1 h2 => cases q; exact .inl ⟨_, SqL.of (e _ _ h1), by cases h2 <;> rfl⟩
  | tup h1 h2 => cases q; exact .inr (.inl ⟨_, Evl.ex_t e h1, by cases h2 <;> rfl⟩)
  | @dct a kvs kds h1 h2 h3 =>
    cases q
    refine .inr (.inr ⟨kvs, e _ _ h1, ?_⟩)
    cases kvs <;> cases kds <;> simp at h2 ⊢
  | ins _ _ _ => cases q
  | ty _ => cases q
  | exc _ _ _ => cases q
  | ftup _ _ _ _ => cases q
  | @scr a ns h => cases q; exact .inl ⟨_, Evl.ex_l e h, by cases ns <;> rfl⟩
theorem jt_truth (h : J X e ρ d) (q : truth d = some t) (he : ∀ whole, isTrue e X.env whole = (do let v ← whole; standAt e.pos; holding [v] (truthy v)) := by intro _; rfl) : JT X e ρ t := ⟨fun W σ H ex V Q g =>
  .of (pt_truth pe_w he) (h W σ H ex V _ fun v W1 H1 s1 r1 => ⟨t, r1.truth s1.wh q, g W1 H1 s1⟩)⟩
theorem jt_not (h : JT X a ρ t) : JT X (.UnaryOp .Not a pos) ρ (!t) := ⟨fun W σ H ex V Q g =>
  .of (pt_not pt_w) (h W σ H ex V _ fun W1 H1 s1 => g W1 H1 s1)⟩
theorem jt_w (h : JW X e ρ t) : JT X e ρ t := ⟨fun W σ H ex V Q g => .of (PW.pt pw_w) (h W σ H ex V Q g)⟩
theorem jw_and1 (h : JT X a ρ t) : JW X (.BoolOp .And [a] pos) ρ t := ⟨fun W σ H ex V Q g => .of (pw_and1 pt_w) (h W σ H ex V Q g)⟩
theorem jw_or1 (h : JT X a ρ t) : JW X (.BoolOp .Or [a] pos) ρ t := ⟨fun W σ H ex V Q g => .of (pw_or1 pt_w) (h W σ H ex V Q g)⟩
theorem jw_and (h : JT X a ρ t) (h2 : t = true → JW X (.BoolOp .And (b :: rest) pos) ρ u) : JW X (.BoolOp .And (a :: b :: rest) pos) ρ (t && u) := ⟨fun W σ H ex V Q g =>
  .of (pw_and pt_w pw_w) (h W σ H ex V _ fun W1 H1 s1 => by
    cases t with
    | true => rw [if_pos rfl]; exact h2 rfl W1 σ H1 s1.wh (V.mono s1.ww) Q (g.step s1)
    | false => rw [if_neg Bool.false_ne_true]; exact g W1 H1 s1)⟩
theorem jw_or (h : JT X a ρ t) (h2 : t = false → JW X (.BoolOp .Or (b :: rest) pos) ρ u) : JW X (.BoolOp .Or (a :: b :: rest) pos) ρ (t || u) := ⟨fun W σ H ex V Q g =>
  .of (pw_or pt_w pw_w) (h W σ H ex V _ fun W1 H1 s1 => by
    cases t with
    | false => rw [if_neg Bool.false_ne_true]; exact h2 rfl W1 σ H1 s1.wh (V.mono s1.ww) Q (g.step s1)
    | true => rw [if_pos rfl]; exact g W1 H1 s1)⟩
theorem j_one {o} (h : J X a ρ d) : J X (.BoolOp o [a] pos) ρ d := ⟨fun W σ H ex V Q g => .of (pe_one pe_w) (h W σ H ex V Q g)⟩
end
end Pf

namespace Pf
open PySem L2
open Evl (Ex)

section
variable {X : Cx} {K : PySem.W.Frag} {a b c e e2 : Expr} {es rest : List Expr} {ρ : Rho} {x y z d d1 d2 : D} {ds : List D} {pos p p2 : Pos} {op op' : CmpOp} {bo : Operator} {t u : Bool}

theorem j_and (h : J X a ρ (.bl t)) (h2 : t = true → J X (.BoolOp .And (b :: rest) pos) ρ (.bl u)) : J X (.BoolOp .And (a :: b :: rest) pos) ρ (.bl (t && u)) := ⟨fun W σ H ex hV Q g =>
  .of (pe_and pe_w pe_w) (h W σ H ex hV _ fun v W1 H1 s1 r1 => by
    cases r1
    refine ⟨t, rfl, ?_⟩
    cases t with
    | true => rw [if_pos rfl]; exact h2 rfl W1 σ H1 s1.wh (hV.mono s1.ww) Q (g.step s1)
    | false => rw [if_neg Bool.false_ne_true]; exact g _ W1 H1 s1 (.bl false))⟩
theorem j_or (h : J X a ρ (.bl t)) (h2 : t = false → J X (.BoolOp .Or (b :: rest) pos) ρ (.bl u)) : J X (.BoolOp .Or (a :: b :: rest) pos) ρ (.bl (t || u)) := ⟨fun W σ H ex hV Q g =>
  .of (pe_or pe_w pe_w) (h W σ H ex hV _ fun v W1 H1 s1 r1 => by
    cases r1
    refine ⟨t, rfl, ?_⟩
    cases t with
    | false => rw [if_neg Bool.false_ne_true]; exact h2 rfl W1 σ H1 s1.wh (hV.mono s1.ww) Q (g.step s1)
    | true => rw [if_pos rfl]; exact g _ W1 H1 s1 (.bl true))⟩
theorem j_not (h : J X a ρ (.bl t)) : J X (.UnaryOp .Not a pos) ρ (.bl (!t)) := ⟨fun W σ H ex hV Q g =>
  .of (pe_not pe_w) (h W σ H ex hV _ fun v W1 H1 s1 r1 => by cases r1; exact ⟨t, rfl, g _ W1 H1 s1 (.bl _)⟩)⟩
/-- x or y, x and y by truth -/
theorem j_orT (h : J X a ρ d1) (q : truth d1 = some t) (h2 : t = false → J X (.BoolOp .Or (b :: rest) pos) ρ d2) : J X (.BoolOp .Or (a :: b :: rest) pos) ρ (if t = true then d1 else d2) := ⟨fun W σ H ex hV Q g =>
  .of (pe_orT pe_w pe_w) (h W σ H ex hV _ fun v W1 H1 s1 r1 => ⟨t, r1.truth s1.wh q, by
    cases t with
    | false => rw [if_neg Bool.false_ne_true]; rw [if_neg Bool.false_ne_true] at g; exact h2 rfl W1 σ H1 s1.wh (hV.mono s1.ww) Q (g.step s1)
    | true => rw [if_pos rfl]; rw [if_pos rfl] at g; exact g _ W1 H1 s1 r1⟩)⟩
theorem j_ifExp (hc : JT X c ρ t) (ha : t = true → J X a ρ d1) (hb : t = false → J X b ρ d2) : J X (.IfExp c a b pos) ρ (if t = true then d1 else d2) := ⟨fun W σ H ex hV Q g =>
  .of (pe_ifExp pt_w pe_w pe_w) (hc W σ H ex hV _ fun W1 H1 s1 => by
    cases t with
    | true => rw [if_pos rfl]; rw [if_pos rfl] at g; exact ha rfl W1 σ H1 s1.wh (hV.mono s1.ww) Q (g.step s1)
    | false => rw [if_neg Bool.false_ne_true]; rw [if_neg Bool.false_ne_true] at g; exact hb rfl W1 σ H1 s1.wh (hV.mono s1.ww) Q (g.step s1))⟩

theorem ja_nil : JA X [] ρ [] := ⟨fun W σ H ex hV Q g => .of pa_nil (g [] W H (.refl ex) .nil)⟩
theorem ja_cons (h : J X e ρ d) (h2 : JA X es ρ ds) (hs : starEach (e :: es) X.env = (false, eval e X.env) :: starEach es X.env := by rfl) : JA X (e :: es) ρ (d :: ds) := ⟨fun W σ H ex hV Q g =>
  .of (pa_cons pe_w pa_w hs) (h W σ H ex hV _ fun v W1 H1 s1 r1 => h2 W1 σ H1 s1.wh (hV.mono s1.ww) _ fun vs W2 H2 s2 r2 => g (v :: vs) W2 H2 (s1.trans s2) (.cons (r1.mono s2.ww) r2))⟩
theorem j_tup {k} (h : JA X es ρ ds) (hl : ds.length ≤ sizeLine := by (simp only [List.length_cons, List.length_nil]; decide)) : J X (.Tuple es k pos) ρ (.tup ds) := ⟨fun W σ H ex hV Q g =>
  .of (pe_tup pa_w) (h W σ H ex hV _ fun vs W1 H1 s1 r1 => ⟨by rw [← r1.length]; exact hl, fun q hq =>
    g _ _ _ (s1.trans (.new s1.wh hq)) (.tup (SqT.of upd_same) (r1.mono (Evl.Ex.new (Evl.fresh_back s1.wh hq))))⟩)⟩
theorem j_lst (h : JA X es ρ ds) (hl : ds.length ≤ sizeLine := by (simp only [List.length_cons, List.length_nil]; decide)) : J X (.List es pos) ρ (.lst ds) := ⟨fun W σ H ex hV Q g =>
  .of (pe_lst pa_w) (h W σ H ex hV _ fun vs W1 H1 s1 r1 => ⟨by rw [← r1.length]; exact hl, fun q hq =>
    g _ _ _ (s1.trans (.new s1.wh hq)) (.lst upd_same (r1.mono (Evl.Ex.new (Evl.fresh_back s1.wh hq))))⟩)⟩

theorem RepAll.at {H : Hp} {vs : List V} {i : Int} (h : RepAll K H ds vs) (q : atI ds i = some d) : ∃ v, atI vs i = some v ∧ Rep K H d v := by
  unfold atI at q ⊢
  rw [h.length] at q
  cases hk : ixN vs.length i with
  | none => rw [hk] at q; cases q
  | some j =>
    rw [hk] at q
    obtain ⟨v, h1, h2⟩ := h.get (show ds[j]? = some d from q)
    exact ⟨v, h1, h2⟩
theorem atI_ints {ns : List Int} {i : Int} (h0 : 0 ≤ i) (h1 : i < ns.length) : atI (ns.map D.int) i = some (.int (ns.getD i.toNat 0)) := by
  unfold atI ixN
  rw [List.length_map, if_pos h0, if_pos h1]
  show (ns.map D.int)[i.toNat]? = _
  have : i.toNat < ns.length := by omega
  rw [List.getElem?_map, List.getElem?_eq_getElem this, List.getD_eq_getElem?_getD, List.getElem?_eq_getElem this]
  rfl
theorem j_ixL {i : Int} (ha : J X a ρ (.lst ds)) (hb : J X b ρ (.int i)) (q : atI ds i = some d) (hs : PlainIx b := by exact fun _ _ => rfl) : J X (.Subscript a b pos) ρ d := ⟨fun W σ H ex hV Q g =>
  .of (pe_ix ix_list pe_w pe_w hs) (ha W σ H ex hV _ fun v W1 H1 s1 r1 => hb W1 σ H1 s1.wh (hV.mono s1.ww) _ fun w W2 H2 s2 r2 => by
    cases r2
    cases r1 with
    | lst h1 h2 =>
      obtain ⟨v, e1, e2⟩ := h2.at q
      exact ⟨_, _, i, v, rfl, rfl, SqL.of ((s1.trans s2).wh _ _ (s2.ww _ _ h1)), e1, g _ W2 H2 (s1.trans s2) (e2.mono s2.ww)⟩)⟩
theorem j_ixT {i : Int} (ha : J X a ρ (.tup ds)) (hb : J X b ρ (.int i)) (q : atI ds i = some d) (hs : PlainIx b := by exact fun _ _ => rfl) : J X (.Subscript a b pos) ρ d := ⟨fun W σ H ex hV Q g =>
  .of (pe_ix ix_tup pe_w pe_w hs) (ha W σ H ex hV _ fun v W1 H1 s1 r1 => hb W1 σ H1 s1.wh (hV.mono s1.ww) _ fun w W2 H2 s2 r2 => by
    cases r2
    cases r1 with
    | tup h1 h2 =>
      obtain ⟨v, e1, e2⟩ := h2.at q
      exact ⟨_, _, i, v, rfl, rfl, Evl.ex_t s2.wh (Evl.ex_t s2.ww h1), e1, g _ W2 H2 (s1.trans s2) (e2.mono s2.ww)⟩)⟩
theorem j_ixS {z : Str} {i : Int} {n : Nat} (ha : J X a ρ (.str z)) (hb : J X b ρ (.int i)) (hz : z.length ≤ sizeLine) (q : atI z.cps.toList i = some n) (hs : PlainIx b := by exact fun _ _ => rfl) : J X (.Subscript a b pos) ρ (.str ⟨#[n]⟩) := ⟨fun W σ H ex hV Q g =>
  .of (pe_ix ix_str pe_w pe_w hs) (ha W σ H ex hV _ fun v W1 H1 s1 r1 => hb W1 σ H1 s1.wh (hV.mono s1.ww) _ fun w W2 H2 s2 r2 => by
    cases r2
    cases r1
    exact ⟨z, i, n, rfl, rfl, hz, q, g _ W2 H2 (s1.trans s2) (.str _)⟩)⟩

def JO (X : Cx) (e : Option Expr) (ρ : Rho) (o : Option Int) : Prop := (e = none ∧ o = none) ∨ ∃ e' i, e = some e' ∧ o = some i ∧ J X e' ρ (.int i)
theorem jo_none : JO X none ρ none := .inl ⟨rfl, rfl⟩
theorem jo_some {i : Int} (h : J X e ρ (.int i)) : JO X (some e) ρ (some i) := .inr ⟨e, i, rfl, rfl, h⟩
def wO (X : Cx) (e : Option Expr) : TO := match e with
  | none => tNoPart
  | some e => tPart (wE X e)
theorem po_w {e : Option Expr} : PO X e (wO X e) := match e with
  | none => po_none
  | some e => po_some pe_w
theorem JO.run {e : Option Expr} {o : Option Int} (h : JO X e ρ o) {W : Hp} {σ : L2.St} {H : Hp} (ex : Ex W H) (hV : Vis X.K ρ W σ) {Q : Option Int → Hp → Prop} (g : ∀ W' H', Step W H W' H' → Q o H') : wO X e σ H Q := by
  rcases h with ⟨rfl, rfl⟩ | ⟨e', i, rfl, rfl, h⟩
  · exact g W H (.refl ex)
  · exact h W σ H ex hV _ fun v W1 H1 s1 r1 => by cases r1; exact ⟨i, rfl, g W1 H1 s1⟩
def cut {α : Type} (xs : List α) (lo hi : Option Int) : List α := (xs.drop (HT.sIx xs.length 0 lo)).take (HT.sIx xs.length xs.length hi - HT.sIx xs.length 0 lo)
theorem RepAll.cut {H : Hp} {vs : List V} (h : RepAll K H ds vs) (lo hi : Option Int) : RepAll K H (Pf.cut ds lo hi) (cutV vs lo hi) := by
  unfold Pf.cut cutV
  rw [h.length]
  exact (h.drop _).take _
theorem j_slL {lo hi : Option Expr} {o1 o2 : Option Int} (ha : J X a ρ (.lst ds)) (h1 : JO X lo ρ o1) (h2 : JO X hi ρ o2) : J X (.Subscript a (.Slice lo hi none p2) pos) ρ (.lst (cut ds o1 o2)) := ⟨fun W σ H ex hV Q g =>
  .of (pe_slice sl_list pe_w po_w po_w) (ha W σ H ex hV _ fun v W1 H1 s1 r1 => h1.run s1.wh (hV.mono s1.ww) fun W2 H2 s2 => h2.run s2.wh (hV.mono (s1.trans s2).ww) fun W3 H3 s3 => by
    cases r1 with
    | lst k1 k2 =>
      have s4 := (s1.trans s2).trans s3
      refine ⟨_, _, rfl, SqL.of ((s2.trans s3).hh _ _ (s1.wh _ _ k1)), fun q hq => ?_⟩
      exact g _ _ _ (s4.trans (.new s4.wh hq)) (.lst upd_same ((k2.mono ((s2.trans s3).ww.trans (Evl.Ex.new (Evl.fresh_back s4.wh hq)))).cut _ _)))⟩
theorem j_slScr {ns : List Int} {lo hi : Option Expr} {o1 o2 : Option Int} (ha : J X a ρ (.scr ns)) (h1 : JO X lo ρ o1) (h2 : JO X hi ρ o2) : J X (.Subscript a (.Slice lo hi none p2) pos) ρ (.lst ((cut ns o1 o2).map D.int)) := ⟨fun W σ H ex hV Q g =>
  .of (pe_slice sl_list pe_w po_w po_w) (ha W σ H ex hV _ fun v W1 H1 s1 r1 => h1.run s1.wh (hV.mono s1.ww) fun W2 H2 s2 => h2.run s2.wh (hV.mono (s1.trans s2).ww) fun W3 H3 s3 => by
    cases r1 with
    | scr k1 =>
      have s4 := (s1.trans s2).trans s3
      refine ⟨_, _, rfl, Evl.ex_l (s2.trans s3).hh (Evl.ex_l s1.wh k1), fun q hq => ?_⟩
      have e1 : cutV (ns.map V.int) o1 o2 = (cut ns o1 o2).map V.int := by
        unfold cutV cut
        rw [List.length_map, ← List.map_drop, ← List.map_take]
      exact g _ _ _ (s4.trans (.new s4.wh hq)) (.lst upd_same (by rw [e1]; exact .toInts _)))⟩
theorem j_slT {lo hi : Option Expr} {o1 o2 : Option Int} (ha : J X a ρ (.tup ds)) (h1 : JO X lo ρ o1) (h2 : JO X hi ρ o2) : J X (.Subscript a (.Slice lo hi none p2) pos) ρ (.tup (cut ds o1 o2)) := ⟨fun W σ H ex hV Q g =>
  .of (pe_slice sl_tupA pe_w po_w po_w) (ha W σ H ex hV _ fun v W1 H1 s1 r1 => h1.run s1.wh (hV.mono s1.ww) fun W2 H2 s2 => h2.run s2.wh (hV.mono (s1.trans s2).ww) fun W3 H3 s3 => by
    cases r1 with
    | @tup l vs _ k1 k2 =>
      have s4 := (s1.trans s2).trans s3
      refine ⟨l, vs, rfl, Evl.ex_t (s2.trans s3).hh (Evl.ex_t s1.wh k1), fun hw => ?_, fun hw q hq => ?_⟩
      · refine g _ _ _ s4 ?_
        have e1 : cut ds o1 o2 = ds := by
          unfold cut
          rw [k2.length, hw.1, hw.2]
          simp [← k2.length]
        rw [e1]
        exact .tup (Evl.ex_t (s2.trans s3).ww k1) (k2.mono (s2.trans s3).ww)
      · exact g _ _ _ (s4.trans (.new s4.wh hq)) (.tup (SqT.of upd_same) ((k2.mono ((s2.trans s3).ww.trans (Evl.Ex.new (Evl.fresh_back s4.wh hq)))).cut _ _)))⟩
theorem j_slS {z : Str} {lo hi : Option Expr} {o1 o2 : Option Int} (ha : J X a ρ (.str z)) (hz : z.length ≤ sizeLine) (h1 : JO X lo ρ o1) (h2 : JO X hi ρ o2) : J X (.Subscript a (.Slice lo hi none p2) pos) ρ (.str (cutS z o1 o2)) := ⟨fun W σ H ex hV Q g =>
  .of (pe_slice sl_str pe_w po_w po_w) (ha W σ H ex hV _ fun v W1 H1 s1 r1 => h1.run s1.wh (hV.mono s1.ww) fun W2 H2 s2 => h2.run s2.wh (hV.mono (s1.trans s2).ww) fun W3 H3 s3 => by
    cases r1
    exact ⟨z, rfl, hz, g _ _ _ ((s1.trans s2).trans s3) (.str _)⟩)⟩
theorem j_cb {r : List V → Hp → VK → Prop} {id : String} {n : Str} (hc : CallR X (.builtin id) r) (hm : X.mg n = none) (hv : bootBuiltins n = some (.builtin id)) (ha : JA X (e :: es) ρ ds) (hr : RCD X.K r ds d) (hg : Gl X n := by rfl) (hn : n ≠ "__name__" := by decide) (hdb : (n == ("__debug__" : Str)) = false := by decide)
    (he : starEach (e :: es) X.env = (false, eval e X.env) :: starEach es X.env := by rfl) (hpl : (backTo pos (starEach es X.env)).any (·.1) = false := by rfl) : J X (.Call (.Name n p) (e :: es) [] pos) ρ d := ⟨fun W σ H ex hV Q g =>
  .of (pe_callB hc hg hm hv pa_w hn hdb he hpl) (ha W σ H ex hV _ fun vs W1 H1 s1 r1 => hr W1 H1 vs s1.wh r1 Q (g.step s1))⟩
theorem j_ct {r : List V → Hp → VK → Prop} {T : String} {n : Str} (hc : CallR X (.type T) r) (hm : X.mg n = none) (hv : bootBuiltins n = some (.type T)) (ha : JA X (e :: es) ρ ds) (hr : RCD X.K r ds d) (hg : Gl X n := by rfl) (hn : n ≠ "__name__" := by decide) (hdb : (n == ("__debug__" : Str)) = false := by decide)
    (he : starEach (e :: es) X.env = (false, eval e X.env) :: starEach es X.env := by rfl) (hpl : (backTo pos (starEach es X.env)).any (·.1) = false := by rfl) : J X (.Call (.Name n p) (e :: es) [] pos) ρ d := ⟨fun W σ H ex hV Q g =>
  .of (pe_callTy hc hg hm hv pa_w hn hdb he hpl) (ha W σ H ex hV _ fun vs W1 H1 s1 r1 => hr W1 H1 vs s1.wh r1 Q (g.step s1))⟩
/-- a built-in's name as a value: a class -/
theorem j_ty {T : String} {n : Str} (hm : X.mg n = none) (hv : bootBuiltins n = some (.type T)) (hg : Gl X n := by rfl) (hn : n ≠ "__name__" := by decide) (hd : (n == ("__debug__" : Str)) = false := by decide) : J X (.Name n pos) ρ (.ty T) := ⟨fun W σ H ex hV Q g =>
  .of (pe_bltn hg hm hv (show RelV (.ty T) (.type T) from rfl) hn hd) (g.now ex (.ty T))⟩
/-- a module's constant -/
theorem j_glob {n : Str} {v : V} {w : Value} (hm : X.mg n = some w) (r : RelV v w) (hd : ∀ H, Rep X.K H d v) (hg : Gl X n := by rfl) (hdb : (n == ("__debug__" : Str)) = false := by decide) : J X (.Name n pos) ρ d := ⟨fun W σ H ex hV Q g =>
  .of (pe_glob hg hm r hdb) (g.now ex (hd W))⟩
end

/-- a def's promise: at arguments that stand for ds, where G ds P, it hands back what P holds of -/
def spP (K : PySem.W.Frag) (n : Nat) (G : List D → (D → Prop) → Prop) : Sp := fun vs H Q _ => vs.length = n ∧ ∃ W ds P, Ex W H ∧ RepAll K W ds vs ∧ G ds P ∧ ∀ d, P d → GoodE K W H d Q
structure PFn (P : Program) (w : World) (K : PySem.W.Frag) (mg : Str → Option Value) (base : Heap) (k : Nat) (x : Str) (n : Nat) (G : List D → (D → Prop) → Prop) : Prop where
  ex : ∃ f fd ps, FnOk P w K mg base CX0 k f fd ps (spP K n G) ∧ mg x = some (.ref f) ∧ PySem.W.keepIn K (.ref f) = true ∧ Binds K fd ps []
section
variable {X : Cx} {e : Expr} {es : List Expr} {ρ : Rho} {d : D} {ds : List D} {pos p : Pos} {k j n : Nat} {x : Str} {G : List D → (D → Prop) → Prop} {P : D → Prop}
theorem j_call (c : PFn X.prog X.w X.K X.mg X.base k x n G) (hr : Room j X.A) (ha : JA X (e :: es) ρ ds) (hG : G ds P) (hP : ∀ d', P d' → d' = d) (hk : k ≤ j := by decide) (hn : ds.length = n := by rfl) (hg : Gl X x := by rfl) (hdb : (x == ("__debug__" : Str)) = false := by decide)
    (he : starEach (e :: es) X.env = (false, eval e X.env) :: starEach es X.env := by rfl) (hpl : (backTo pos (starEach es X.env)).any (·.1) = false := by rfl) : J X (.Call (.Name x p) (e :: es) [] pos) ρ d := ⟨fun W σ H ex hV Q g => by
  obtain ⟨f, fd, ps, F, hm, hkp, hb⟩ := c.ex
  refine .of (pe_call (F.mono hk) hr hg hm hkp hb .nil pass0 pa_w hdb he hpl) (ha W σ H ex hV _ fun vs W1 H1 s1 r1 => ?_)
  rw [List.append_nil]
  exact ⟨by rw [← r1.length]; exact hn, W1, ds, P, s1.wh, r1, hG, fun d' hd => by rw [hP d' hd]; exact g.step s1⟩⟩
end
end Pf

namespace Pf
open PySem L2
open Evl (Ex)

section
variable {K : PySem.W.Frag} {i j : Int} {s t : Str} {b c : Bool} {d : D} {ds es : List D}
theorem r2_I {C : Int → Int → Prop} {g : Int → Int → Int} (h : C i j) : R2D K (rI C fun i j => .int (g i j)) (.int i) (.int j) (.int (g i j)) := fun W H v u ex r1 r2 Q q => by
  cases r1; cases r2; exact ⟨i, j, rfl, rfl, h, q.now ex (.int _)⟩
theorem r2_I0 {g : Int → Int → Int} : R2D K (rI0 fun i j => .int (g i j)) (.int i) (.int j) (.int (g i j)) := fun W H v u ex r1 r2 Q q => by
  cases r1; cases r2; exact ⟨i, j, rfl, rfl, q.now ex (.int _)⟩
theorem r2_B0 {g : Int → Int → Bool} : R2D K (rI0 fun i j => .bl (g i j)) (.int i) (.int j) (.bl (g i j)) := fun W H v u ex r1 r2 Q q => by
  cases r1; cases r2; exact ⟨i, j, rfl, rfl, q.now ex (.bl _)⟩
theorem r2_eqI : R2D K rEq (.int i) (.int j) (.bl (decide (i = j))) := fun W H v u ex r1 r2 Q q => by
  cases r1; cases r2
  refine ⟨rfl, ?_⟩
  have e : decide (V.int i = V.int j) = decide (i = j) := decide_eq_decide.mpr ⟨fun h => V.int.inj h, fun h => h ▸ rfl⟩
  rw [e]; exact q.now ex (.bl _)
theorem r2_eqS : R2D K rEq (.str s) (.str t) (.bl (decide (s = t))) := fun W H v u ex r1 r2 Q q => by
  cases r1; cases r2
  refine ⟨rfl, ?_⟩
  have e : decide (V.str s = V.str t) = decide (s = t) := decide_eq_decide.mpr ⟨fun h => V.str.inj h, fun h => h ▸ rfl⟩
  rw [e]; exact q.now ex (.bl _)
theorem r2_eqB : R2D K rEq (.bl b) (.bl c) (.bl (decide (b = c))) := fun W H v u ex r1 r2 Q q => by
  cases r1; cases r2
  refine ⟨rfl, ?_⟩
  have e : decide (V.bl b = V.bl c) = decide (b = c) := decide_eq_decide.mpr ⟨fun h => V.bl.inj h, fun h => h ▸ rfl⟩
  rw [e]; exact q.now ex (.bl _)
theorem r2_neI : R2D K rNe (.int i) (.int j) (.bl (!decide (i = j))) := fun W H v u ex r1 r2 Q q => by
  cases r1; cases r2
  refine ⟨rfl, ?_⟩
  have e : decide (V.int i = V.int j) = decide (i = j) := decide_eq_decide.mpr ⟨fun h => V.int.inj h, fun h => h ▸ rfl⟩
  rw [e]; exact q.now ex (.bl _)
theorem r2_neS : R2D K rNe (.str s) (.str t) (.bl (!decide (s = t))) := fun W H v u ex r1 r2 Q q => by
  cases r1; cases r2
  refine ⟨rfl, ?_⟩
  have e : decide (V.str s = V.str t) = decide (s = t) := decide_eq_decide.mpr ⟨fun h => V.str.inj h, fun h => h ▸ rfl⟩
  rw [e]; exact q.now ex (.bl _)
theorem r2_neB : R2D K rNe (.bl b) (.bl c) (.bl (!decide (b = c))) := fun W H v u ex r1 r2 Q q => by
  cases r1; cases r2
  refine ⟨rfl, ?_⟩
  have e : decide (V.bl b = V.bl c) = decide (b = c) := decide_eq_decide.mpr ⟨fun h => V.bl.inj h, fun h => h ▸ rfl⟩
  rw [e]; exact q.now ex (.bl _)
def isNon : D → Bool
  | .non => true
  | _ => false
theorem Rep.isNon {H : Hp} {v : V} (r : Rep K H d v) : decide (v = .non) = isNon d := by
  cases r <;> simp [Pf.isNon]
theorem r2_isN : R2D K (fun x y H Q => y = .non ∧ Q (.bl (decide (x = .non))) H) d .non (.bl (isNon d)) := fun W H v u ex r1 r2 Q q => by
  cases r2; rw [r1.isNon]; exact ⟨rfl, q.now ex (.bl _)⟩
theorem r2_notN : R2D K (fun x y H Q => y = .non ∧ Q (.bl (!decide (x = .non))) H) d .non (.bl (!isNon d)) := fun W H v u ex r1 r2 Q q => by
  cases r2; rw [r1.isNon]; exact ⟨rfl, q.now ex (.bl _)⟩
theorem r2_addS (h : s.length + t.length ≤ sizeLine) : R2D K (fun x y H Q => ∃ i j, x = .str i ∧ y = .str j ∧ i.length + j.length ≤ sizeLine ∧ Q (.str (i ++ j)) H) (.str s) (.str t) (.str (s ++ t)) := fun W H v u ex r1 r2 Q q => by
  cases r1; cases r2; exact ⟨s, t, rfl, rfl, h, q.now ex (.str _)⟩
theorem r2_addL (h : ds.length + es.length ≤ sizeLine) : R2D K rCat (.lst ds) (.lst es) (.lst (ds ++ es)) := fun W H v u ex r1 r2 Q q => by
  cases r1 with
  | lst h1 k1 =>
    cases r2 with
    | lst h2 k2 =>
      refine ⟨_, _, _, _, rfl, rfl, ex _ _ h1, ex _ _ h2, by rw [← k1.length, ← k2.length]; exact h, fun p hp => q _ _ _ (.new ex hp) (.lst upd_same ?_)⟩
      exact (k1.append k2).mono (Evl.Ex.new (Evl.fresh_back ex hp))
theorem r2_addT (h : ds.length + es.length ≤ sizeLine) : R2D K (rCatA K) (.tup ds) (.tup es) (.tup (ds ++ es)) := fun W H v u ex r1 r2 Q q => by
  cases r1 with
  | tup h1 k1 =>
    cases r2 with
    | tup h2 k2 =>
      refine ⟨_, _, _, _, rfl, rfl, Evl.ex_t ex h1, Evl.ex_t ex h2, by rw [← k1.length, ← k2.length]; exact h, fun e => ?_, fun e1 e2 => ?_, fun e1 e2 p hp => ?_⟩
      · subst e; cases k1; exact q.now ex (.tup h2 k2)
      · subst e2; cases k2; rw [List.append_nil] at q; exact q.now ex (.tup h1 k1)
      · exact q _ _ _ (.new ex hp) (.tup (SqT.of upd_same) ((k1.append k2).mono (Evl.Ex.new (Evl.fresh_back ex hp))))
/-- in, over flat items -/
def flatD : D → Bool
  | .non => true
  | .bl _ => true
  | .int _ => true
  | .str _ => true
  | _ => false
def eqD : D → D → Bool
  | .non, .non => true
  | .bl a, .bl b => a == b
  | .bl a, .int b => (if a then 1 else 0) == b
  | .int a, .bl b => a == (if b then 1 else 0)
  | .int a, .int b => a == b
  | .str a, .str b => a == b
  | _, _ => false
theorem Rep.flat {H : Hp} {v : V} (r : Rep K H d v) (h : flatD d = true) : flatV v = true := by
  cases r <;> first | rfl | cases h
theorem Rep.eqV {H : Hp} {v u : V} {e : D} (r1 : Rep K H d v) (r2 : Rep K H e u) (h1 : flatD d = true) (h2 : flatD e = true) : L2.eqV v u = eqD d e := by
  cases r1 <;> first | (cases r2 <;> first | rfl | cases h2) | cases h1
theorem RepAll.flat : ∀ {ds : List D} {vs : List V} {H : Hp}, RepAll K H ds vs → ds.all flatD = true → vs.all flatV = true
  | _, _, _, .nil, _ => rfl
  | _, _, _, .cons r t, h => by
    rw [List.all_cons, Bool.and_eq_true] at h ⊢
    exact ⟨r.flat h.1, RepAll.flat t h.2⟩
theorem RepAll.inV {H : Hp} {v : V} (r : Rep K H d v) (hd : flatD d = true) : ∀ {ds : List D} {vs : List V}, RepAll K H ds vs → ds.all flatD = true → L2.inV v vs = ds.any fun y => eqD y d
  | _, _, .nil, _ => rfl
  | _, _, .cons r' t, h => by
    rw [List.all_cons, Bool.and_eq_true] at h
    show (L2.eqV _ _ || _) = _
    rw [List.any_cons, r'.eqV r h.1 hd]
    have := RepAll.inV r hd t h.2
    unfold L2.inV at this
    rw [this]
theorem r2_inL {neg : Bool} (hd : flatD d = true) (hs : ds.all flatD = true) : R2D K (rIn K neg) d (.lst ds) (.bl (if neg then !(ds.any fun y => eqD y d) else ds.any fun y => eqD y d)) := fun W H v u ex r1 r2 Q q => by
  cases r2 with
  | lst h k =>
    refine ⟨_, _, rfl, .inl (SqL.of (ex _ _ h)), r1.flat hd, k.flat hs, ?_⟩
    rw [RepAll.inV r1 hd k hs]
    exact q.now ex (.bl _)
theorem r2_inT {neg : Bool} (hd : flatD d = true) (hs : ds.all flatD = true) : R2D K (rIn K neg) d (.tup ds) (.bl (if neg then !(ds.any fun y => eqD y d) else ds.any fun y => eqD y d)) := fun W H v u ex r1 r2 Q q => by
  cases r2 with
  | tup h k =>
    refine ⟨_, _, rfl, .inr (Evl.ex_t ex h), r1.flat hd, k.flat hs, ?_⟩
    rw [RepAll.inV r1 hd k hs]
    exact q.now ex (.bl _)
theorem any_eqStr (x : Str) (xs : List Str) : ((xs.map D.str).any fun y => eqD y (.str x)) = decide (x ∈ xs) := by
  induction xs with
  | nil => rfl
  | cons y ys ih =>
    rw [List.map_cons, List.any_cons, ih]
    show ((y == x) || _) = _
    by_cases e : y = x
    · subst e; simp
    · have : ¬ x = y := fun z => e z.symm
      simp [e, this]
theorem all_flatStr (xs : List Str) : (xs.map D.str).all flatD = true := by
  induction xs with
  | nil => rfl
  | cons y ys ih => rw [List.map_cons, List.all_cons, ih]; rfl
theorem r2_inStrL {x : Str} {xs : List Str} : R2D K (rIn K false) (.str x) (.lst (xs.map D.str)) (.bl (decide (x ∈ xs))) := by
  have h := r2_inL (K := K) (neg := false) (d := .str x) (ds := xs.map D.str) rfl (all_flatStr xs)
  rw [any_eqStr] at h; exact h
theorem r2_inStrT {x : Str} {xs : List Str} : R2D K (rIn K false) (.str x) (.tup (xs.map D.str)) (.bl (decide (x ∈ xs))) := by
  have h := r2_inT (K := K) (neg := false) (d := .str x) (ds := xs.map D.str) rfl (all_flatStr xs)
  rw [any_eqStr] at h; exact h
theorem r2_inSign {c : Nat} {z : Str} : R2D K (fun x y H Q => ∃ (c : Nat) (z : Str), x = .str ⟨#[c]⟩ ∧ y = .str z ∧ Q (.bl (decide (c ∈ z.cps.toList))) H) (.str ⟨#[c]⟩) (.str z) (.bl (decide (c ∈ z.cps.toList))) := fun W H v u ex r1 r2 Q q => by
  cases r1; cases r2; exact ⟨c, z, rfl, rfl, q.now ex (.bl _)⟩
mutual
def toPy : D → Option PyData
  | .non => some .none
  | .bl b => some (.bool b)
  | .int i => some (.int i)
  | .str s => some (.str s)
  | .lst xs => (toPys xs).map .list
  | .tup xs => (toPys xs).map .tuple
  | _ => none
def toPys : List D → Option (List PyData)
  | [] => some []
  | x :: xs => match toPy x, toPys xs with
    | some y, some ys => some (y :: ys)
    | _, _ => none
end
theorem Rep.dp {H : Hp} {v : V} (h : Rep K H d v) : ∀ p, toPy d = some p → Dp K H v p := by
  refine Rep.rec (motive_1 := fun d v _ => ∀ p, toPy d = some p → Dp K H v p) (motive_2 := fun ds vs _ => ∀ ps, toPys ds = some ps → DpAll K H vs ps) ?_ ?_ ?_ ?_ ?_ ?_ ?_ ?_ ?_ ?_ ?_ ?_ ?_ ?_ h
  · intro p e; cases e; exact .non
  · intro b p e; cases e; exact .bl b
  · intro b p e; cases e; exact .int b
  · intro b p e; cases e; exact .str b
  · intro b p e; cases e
  · intro a dd fs fds _ _ _ _ p e; cases e
  · intro a ns h p e; cases e
  · intro a vs ds h _ ih p e
    simp only [toPy, Option.map_eq_some_iff] at e
    obtain ⟨ps, e1, rfl⟩ := e
    exact .lst (SqL.of h) (ih ps e1)
  · intro a vs ds h _ ih p e
    simp only [toPy, Option.map_eq_some_iff] at e
    obtain ⟨ps, e1, rfl⟩ := e
    exact .tup h (ih ps e1)
  · intro a kvs kds _ _ _ _ p e; cases e
  · intro a C dx fs fds _ _ _ _ p e; cases e
  · intro a o vs ds _ _ _ _ _ p e; cases e
  · intro ps e; cases e; exact .nil
  · intro d v ds vs _ _ i1 i2 ps e
    simp only [toPys] at e
    split at e
    · rename_i y ys e1 e2
      cases e
      exact .cons (i1 _ e1) (i2 _ e2)
    · cases e
theorem r2_eqD {d e : D} {p q : PyData} {b : Bool} (h1 : toPy d = some p) (h2 : toPy e = some q) (s1 : SeqAt.shaped p = true) (s2 : SeqAt.shaped q = true) (hb : PyData.eqv p q = b) : R2D K (rEqD K) d e (.bl b) := fun W H v u ex r1 r2 Q g =>
  ⟨p, q, (r1.mono ex).dp p h1, (r2.mono ex).dp q h2, s1, s2, by rw [hb]; exact g.now ex (.bl _)⟩
theorem r2_neD {d e : D} {p q : PyData} {b : Bool} (h1 : toPy d = some p) (h2 : toPy e = some q) (s1 : SeqAt.shaped p = true) (s2 : SeqAt.shaped q = true) (hb : PyData.eqv p q = b) : R2D K (rNeD K) d e (.bl (!b)) := fun W H v u ex r1 r2 Q g =>
  ⟨p, q, (r1.mono ex).dp p h1, (r2.mono ex).dp q h2, s1, s2, by rw [hb]; exact g.now ex (.bl _)⟩

theorem rc_int : RCD K (fun xs H Q => (∃ i, xs = [.int i] ∧ Q (.int i) H) ∨ ∃ k, xs = [.bl k] ∧ Q (.int (if k then 1 else 0)) H) [.int i] (.int i) := fun W H vs ex r Q q => by
  cases r with | cons r t => cases t; cases r; exact .inl ⟨i, rfl, q.now ex (.int _)⟩
theorem rc_intB : RCD K (fun xs H Q => (∃ i, xs = [.int i] ∧ Q (.int i) H) ∨ ∃ k, xs = [.bl k] ∧ Q (.int (if k then 1 else 0)) H) [.bl b] (.int (if b then 1 else 0)) := fun W H vs ex r Q q => by
  cases r with | cons r t => cases t; cases r; exact .inr ⟨b, rfl, q.now ex (.int _)⟩
theorem rc_abs : RCD K (fun xs H Q => ∃ i, xs = [.int i] ∧ Q (.int (if i < 0 then -i else i)) H) [.int i] (.int (if i < 0 then -i else i)) := fun W H vs ex r Q q => by
  cases r with | cons r t => cases t; cases r; exact ⟨i, rfl, q.now ex (.int _)⟩
theorem rc_max2 : RCD K (fun xs H Q => ∃ i j, xs = [.int i, .int j] ∧ Q (.int (if j > i then j else i)) H) [.int i, .int j] (.int (if j > i then j else i)) := fun W H vs ex r Q q => by
  cases r with | cons r t => cases t with | cons r' t' => cases t'; cases r; cases r'; exact ⟨i, j, rfl, q.now ex (.int _)⟩
theorem rc_min2 : RCD K (fun xs H Q => ∃ i j, xs = [.int i, .int j] ∧ Q (.int (if j < i then j else i)) H) [.int i, .int j] (.int (if j < i then j else i)) := fun W H vs ex r Q q => by
  cases r with | cons r t => cases t with | cons r' t' => cases t'; cases r; cases r'; exact ⟨i, j, rfl, q.now ex (.int _)⟩
theorem rc_strI (h : i.natAbs.log2 < 1920) : RCD K (fun xs H Q => ∃ i, xs = [.int i] ∧ i.natAbs.log2 < 1920 ∧ Q (.str (toString i)) H) [.int i] (.str (toString i)) := fun W H vs ex r Q q => by
  cases r with | cons r t => cases t; cases r; exact ⟨i, rfl, h, q.now ex (.str _)⟩
def lenD : D → Option Nat
  | .lst ds => some ds.length
  | .tup ds => some ds.length
  | .scr ns => some ns.length
  | .str s => if s.length ≤ sizeLine then some s.length else none
  | _ => none
theorem rc_len {n : Nat} (h : lenD d = some n) : RCD K (fun xs H Q => ∃ x n, xs = [x] ∧ LenV K x H n ∧ Q (.int n) H) [d] (.int n) := fun W H vs ex r Q q => by
  cases r with
  | cons r t =>
    cases t
    refine ⟨_, n, rfl, ?_, q.now ex (.int _)⟩
    cases r with
    | lst h1 k => cases h; exact .inl ⟨_, SqL.of (ex _ _ h1), k.length⟩
    | tup h1 k => cases h; exact .inr ⟨_, Evl.ex_t ex h1, k.length⟩
    | scr h1 => cases h; exact .inl ⟨_, Evl.ex_l ex h1, by rw [List.length_map]⟩
    | str x =>
      simp only [lenD] at h
      split at h
      · cases h; exact ⟨by assumption, rfl⟩
      · cases h
    | _ => cases h
theorem rc_sum {ns : List Int} : RCD K (rSum K) [.lst (ns.map D.int)] (.int ns.sum) := fun W H vs ex r Q q => by
  cases r with
  | cons r t =>
    cases t
    cases r with
    | lst h1 k => cases k.ints; exact ⟨_, ns, rfl, SqL.of (ex _ _ h1), q.now ex (.int _)⟩
theorem rc_all {bs : List Bool} : RCD K (rAll K) [.lst (bs.map D.bl)] (.bl (bs.all id)) := fun W H vs ex r Q q => by
  cases r with
  | cons r t =>
    cases t
    cases r with
    | lst h1 k => cases k.bools; exact ⟨_, bs, rfl, SqL.of (ex _ _ h1), q.now ex (.bl _)⟩
theorem rc_any {bs : List Bool} : RCD K (rAny K) [.lst (bs.map D.bl)] (.bl (bs.any id)) := fun W H vs ex r Q q => by
  cases r with
  | cons r t =>
    cases t
    cases r with
    | lst h1 k => cases k.bools; exact ⟨_, bs, rfl, SqL.of (ex _ _ h1), q.now ex (.bl _)⟩
theorem rc_tupleL : RCD K (fun xs H Q => ∃ p ys, xs = [.ref p] ∧ ((SqL K H p ys ∧ ∀ l, H l = none → Q (.ref l) (upd H l (.tup ys))) ∨ (SqT K H p ys ∧ Q (.ref p) H))) [.lst ds] (.tup ds) := fun W H vs ex r Q q => by
  cases r with
  | cons r t =>
    cases t
    cases r with
    | lst h1 k => exact ⟨_, _, rfl, .inl ⟨SqL.of (ex _ _ h1), fun l hl => q _ _ _ (.new ex hl) (.tup (SqT.of upd_same) (k.mono (Evl.Ex.new (Evl.fresh_back ex hl))))⟩⟩
theorem rc_listL : RCD K (fun xs H Q => ∃ p ys, xs = [.ref p] ∧ (SqL K H p ys ∨ SqT K H p ys) ∧ ∀ l, H l = none → Q (.ref l) (upd H l (.lst ys))) [.lst ds] (.lst ds) := fun W H vs ex r Q q => by
  cases r with
  | cons r t =>
    cases t
    cases r with
    | lst h1 k => exact ⟨_, _, rfl, .inl (SqL.of (ex _ _ h1)), fun l hl => q _ _ _ (.new ex hl) (.lst upd_same (k.mono (Evl.Ex.new (Evl.fresh_back ex hl))))⟩
theorem rc_listT : RCD K (fun xs H Q => ∃ p ys, xs = [.ref p] ∧ (SqL K H p ys ∨ SqT K H p ys) ∧ ∀ l, H l = none → Q (.ref l) (upd H l (.lst ys))) [.tup ds] (.lst ds) := fun W H vs ex r Q q => by
  cases r with
  | cons r t =>
    cases t
    cases r with
    | tup h1 k => exact ⟨_, _, rfl, .inr (Evl.ex_t ex h1), fun l hl => q _ _ _ (.new ex hl) (.lst upd_same (k.mono (Evl.Ex.new (Evl.fresh_back ex hl))))⟩
/-- isinstance(x, T), T a built-in class, x no instance -/
def tyD : D → Option Value
  | .non => some (.type "NoneType")
  | .bl _ => some (.type "bool")
  | .int _ => some (.type "int")
  | .str _ => some (.type "str")
  | .lst _ => some (.type "list")
  | .dct _ => some (.type "dict")
  | _ => none
theorem rc_isi {T : String} {t : Value} (h : tyD d = some t) (hk : PySem.W.kitOne K t (.type T) = some b) : RCD K (rIsi K) [d, .ty T] (.bl b) := fun W H vs ex r Q q => by
  cases r with
  | cons r t =>
    cases t with
    | cons r' t' =>
      cases t'
      cases r'
      refine ⟨_, _, _, _, b, rfl, .ty T, .base ?_, hk, q.now ex (.bl _)⟩
      cases r with
      | non => cases h; exact .non
      | bl b => cases h; exact .bl _
      | int i => cases h; exact .int _
      | str s => cases h; exact .str _
      | lst h1 _ => cases h; exact .lst (ex _ _ h1)
      | dct h1 _ _ => cases h; exact .dK (ex _ _ h1)
      | _ => cases h
end

structure Walks (K : PySem.W.Frag) (J : It) (W : Hp) (ds : List D) : Prop where
  go : ∀ i H, Ex W H → i < ds.length → J.go i H
  yld : ∀ i H x H' d, Ex W H → ds[i]? = some d → J.yld i H x H' → ∀ W2, Ex W W2 → Ex W2 H → ∃ W3, Step W2 H W3 H' ∧ Rep K W3 d x
  stop : ∀ H, Ex W H → J.stop ds.length H
def wI (X : Cx) (tg iter : Expr) : TI := fun σ H R => ∀ (pins : List (Addr × Obj)) (s : Shared), Inv X pins σ H s →
  wpAny (model X.prog X.w) X.A (eval iter X.env) (fun v s1 => wpAny (model X.prog X.w) X.A (pyIter v) (PIE X pins σ tg R) X.xe s1) X.xe s
theorem pi_w {X : Cx} {tg iter : Expr} : PI X tg iter (wI X tg iter) := ⟨fun pins s _ _ _ I h => h pins s I⟩
theorem wI.of {X : Cx} {tg iter : Expr} {t : TI} (h : PI X tg iter t) {σ : L2.St} {H : Hp} {R : It → Hp → Prop} (q : t σ H R) : wI X tg iter σ H R := fun pins s I => h.run pins s σ H R I q
structure JI (X : Cx) (tg iter : Expr) (ρ : Rho) (ds : List D) : Prop where
  run : ∀ W σ H, Ex W H → Vis X.K ρ W σ → ∀ R : It → Hp → Prop, (∀ J W1 H1, Step W H W1 H1 → Walks X.K J W1 ds → R J H1) → wI X tg iter σ H R
instance {X : Cx} {tg iter : Expr} {ρ : Rho} {ds : List D} : CoeFun (JI X tg iter ρ ds) (fun _ => ∀ W σ H, Ex W H → Vis X.K ρ W σ → ∀ R : It → Hp → Prop, (∀ J W1 H1, Step W H W1 H1 → Walks X.K J W1 ds → R J H1) → wI X tg iter σ H R) := ⟨JI.run⟩
section
variable {X : Cx} {K : PySem.W.Frag} {tg iter a b : Expr} {ρ : Rho} {ds : List D} {pos p : Pos}
theorem walks_list {W : Hp} {l : Addr} {vs : List V} (h : W l = some (.lst vs)) (k : RepAll K W ds vs) : Walks K (Itl K l) W ds where
  go := fun i H ex hi => by
    have hv : i < vs.length := by rw [← k.length]; exact hi
    exact ⟨vs, vs[i], SqL.of (ex _ _ h), by simp [hv]⟩
  yld := fun i H x H' d ex hd hy W2 e1 e2 => by
    obtain ⟨rfl, hy⟩ := hy
    obtain ⟨v, h1, h2⟩ := k.get hd
    have := hy vs (SqL.of (ex _ _ h))
    rw [h1] at this
    cases this
    exact ⟨W2, .refl e2, h2.mono e1⟩
  stop := fun H ex => ⟨vs, SqL.of (ex _ _ h), Nat.le_of_eq k.length.symm⟩
theorem ji_list (h : J X iter ρ (.lst ds)) : JI X tg iter ρ ds := ⟨fun W σ H ex hV R g => .of (pi_list pe_w) (h W σ H ex hV _ fun v W1 H1 s1 r1 => by
  cases r1 with
  | lst h1 k => exact ⟨_, rfl, ⟨_, SqL.of (s1.wh _ _ h1)⟩, g _ W1 H1 s1 (walks_list h1 k)⟩)⟩
theorem walks_tup {W : Hp} {l : Addr} {vs : List V} (uq : ∀ H xs ys, SqT K H l xs → SqT K H l ys → Ex W H → xs = ys → True) (h : SqT K W l vs) (k : RepAll K W ds vs) : Walks K (Itt K l) W ds where
  go := fun i H ex hi => by
    have hv : i < vs.length := by rw [← k.length]; exact hi
    exact ⟨vs, vs[i], Evl.ex_t ex h, by simp [hv]⟩
  yld := fun i H x H' d ex hd hy W2 e1 e2 => by
    obtain ⟨rfl, hy⟩ := hy
    obtain ⟨v, h1, h2⟩ := k.get hd
    have := hy vs (Evl.ex_t ex h)
    rw [h1] at this
    cases this
    exact ⟨W2, .refl e2, h2.mono e1⟩
  stop := fun H ex => ⟨vs, Evl.ex_t ex h, Nat.le_of_eq k.length.symm⟩
theorem ji_tup (h : J X iter ρ (.tup ds)) : JI X tg iter ρ ds := ⟨fun W σ H ex hV R g => .of (pi_tup pe_w) (h W σ H ex hV _ fun v W1 H1 s1 r1 => by
  cases r1 with
  | tup h1 k => exact ⟨_, rfl, ⟨_, Evl.ex_t s1.wh h1⟩, g _ W1 H1 s1 (walks_tup (fun _ _ _ _ _ _ _ => trivial) h1 k)⟩)⟩
def rangeD (lo : Int) (n : Nat) : List D := (List.range n).map fun k => D.int (lo + (k : Nat))
theorem walks_range {W : Hp} {lo : Int} {n : Nat} : Walks K (Itr lo n) W (rangeD lo n) where
  go := fun i H ex hi => by unfold rangeD at hi; rw [List.length_map, List.length_range] at hi; exact hi
  yld := fun i H x H' d ex hd hy W2 e1 e2 => by
    obtain ⟨rfl, rfl⟩ := hy
    unfold rangeD at hd
    rw [List.getElem?_map] at hd
    cases e : (List.range n)[i]? with
    | none => rw [e] at hd; cases hd
    | some k =>
      rw [e] at hd
      obtain ⟨hk, e'⟩ := List.getElem?_eq_some_iff.mp e
      rw [List.getElem_range] at e'
      subst e'
      cases hd
      exact ⟨W2, .refl e2, .int _⟩
  stop := fun H ex => by unfold rangeD; rw [List.length_map, List.length_range]; exact Nat.le_refl n
theorem ji_range1 {n : Int} (hm : X.mg "range" = none) (h : J X a ρ (.int n)) (h1 : -(2 ^ 62) ≤ n) (h2 : n < 2 ^ 62) (hg : Gl X "range" := by rfl) (hs : starEach [a] X.env = [(false, eval a X.env)] := by rfl) : JI X tg (.Call (.Name "range" p) [a] [] pos) ρ (rangeD 0 n.toNat) := ⟨fun W σ H ex hV R g =>
  .of (pi_range1 hg hm pa_w hs) (ja_cons h ja_nil hs W σ H ex hV _ fun vs W1 H1 s1 r1 => by
    cases r1 with
    | cons r t => cases t; cases r; exact ⟨n, rfl, h1, h2, g _ W1 H1 s1 walks_range⟩)⟩
theorem ji_range2 {m n : Int} (hm : X.mg "range" = none) (ha : J X a ρ (.int m)) (hb : J X b ρ (.int n)) (h1 : -(2 ^ 62) ≤ m ∧ m < 2 ^ 62 ∧ -(2 ^ 62) ≤ n ∧ n < 2 ^ 62) (hg : Gl X "range" := by rfl) (hs : starEach [a, b] X.env = [(false, eval a X.env), (false, eval b X.env)] := by rfl) (hs2 : starEach [b] X.env = [(false, eval b X.env)] := by rfl) :
    JI X tg (.Call (.Name "range" p) [a, b] [] pos) ρ (rangeD m (n - m).toNat) := ⟨fun W σ H ex hV R g =>
  .of (pi_range2 hg hm pa_w hs hs2) (ja_cons ha (ja_cons hb ja_nil hs2) (by rw [hs, hs2]) W σ H ex hV _ fun vs W1 H1 s1 r1 => by
    cases r1 with
    | cons r t => cases t with | cons r' t' => cases t'; cases r; cases r'; exact ⟨m, n, rfl, h1, g _ W1 H1 s1 walks_range⟩)⟩
end
end Pf

namespace Pf
open PySem L2
open Evl (Ex)

inductive Pat where
  | nm (i : Nat) | tp (is : List Nat) | tn (ps : List (Nat ⊕ List Nat))
def gNames : List Nat → TGs
  | [] => gNil
  | i :: is => gCons (gName i) (gNames is)
def gComps (K : PySem.W.Frag) : List (Nat ⊕ List Nat) → TGs
  | [] => gNil
  | .inl i :: ps => gCons (gName i) (gComps K ps)
  | .inr is :: ps => gCons (gTup K is.length (gNames is)) (gComps K ps)
def Pat.g (K : PySem.W.Frag) : Pat → TG
  | .nm i => gName i
  | .tp is => gTup K is.length (gNames is)
  | .tn ps => gTup K ps.length (gComps K ps)
def slotsC : List (Nat ⊕ List Nat) → List Nat
  | [] => []
  | .inl i :: ps => i :: slotsC ps
  | .inr is :: ps => is ++ slotsC ps
def Pat.slots : Pat → List Nat
  | .nm i => [i]
  | .tp is => is
  | .tn ps => slotsC ps
def setAll {α : Type} (ρ : List (Option α)) : List Nat → List α → List (Option α)
  | i :: is, d :: ds => setAll (ρ.set i (some d)) is ds
  | _, _ => ρ
/-- by data, each as f -/
def setC {α : Type} (f : D → α) : List (Nat ⊕ List Nat) → List D → List (Option α) → Option (List (Option α))
  | [], [], ρ => some ρ
  | .inl i :: ps, d :: ds, ρ => setC f ps ds (ρ.set i (some (f d)))
  | .inr is :: ps, .tup es :: ds, ρ => if es.length = is.length then setC f ps ds (setAll ρ is (es.map f)) else none
  | _, _, _ => none
def Pat.set : Pat → D → Rho → Option Rho
  | .nm i, d, ρ => some (ρ.set i (some d))
  | .tp is, .tup ds, ρ => if ds.length = is.length then some (setAll ρ is ds) else none
  | .tp _, _, _ => none
  | .tn ps, .tup ds, ρ => setC id ps ds ρ
  | .tn _, _, _ => none
theorem setAll_length {α : Type} : ∀ (is : List Nat) (ds : List α) (ρ : List (Option α)), (setAll ρ is ds).length = ρ.length
  | [], _, _ => rfl
  | _ :: _, [], _ => rfl
  | i :: is, d :: ds, ρ => by
    show (setAll (ρ.set i (some d)) is ds).length = _
    rw [setAll_length is ds, List.length_set]
theorem setAll_out {α : Type} : ∀ (is : List Nat) (ds : List α) (ρ : List (Option α)) (j : Nat), j ∉ is → (setAll ρ is ds)[j]? = ρ[j]?
  | [], _, _, _, _ => rfl
  | _ :: _, [], _, _, _ => rfl
  | i :: is, d :: ds, ρ, j, h => by
    show (setAll (ρ.set i (some d)) is ds)[j]? = _
    rw [List.mem_cons, not_or] at h
    rw [setAll_out is ds _ j h.2, List.getElem?_set_ne (fun e => h.1 e.symm)]
theorem setC_length {α : Type} {f : D → α} : ∀ {ps : List (Nat ⊕ List Nat)} {ds : List D} {ρ ρ' : List (Option α)}, setC f ps ds ρ = some ρ' → ρ'.length = ρ.length
  | [], [], ρ, ρ', h => by cases h; rfl
  | [], _ :: _, ρ, ρ', h => by cases h
  | .inl i :: ps, [], ρ, ρ', h => by cases h
  | .inl i :: ps, d :: ds, ρ, ρ', h => by have := setC_length (f := f) (ps := ps) (ds := ds) h; rw [this, List.length_set]
  | .inr is :: ps, [], ρ, ρ', h => by cases h
  | .inr is :: ps, d :: ds, ρ, ρ', h => by
    cases d <;> simp only [setC] at h <;> first | cases h | skip
    split at h
    · have := setC_length (f := f) (ps := ps) (ds := ds) h; rw [this, setAll_length]
    · cases h
theorem Pat.set_length {pat : Pat} {d : D} {ρ ρ' : Rho} (h : pat.set d ρ = some ρ') : ρ'.length = ρ.length := by
  cases pat with
  | nm i => cases h; exact List.length_set
  | tp is =>
    cases d <;> simp only [Pat.set] at h <;> first | cases h | skip
    split at h
    · cases h; exact setAll_length _ _ _
    · cases h
  | tn ps =>
    cases d <;> simp only [Pat.set] at h <;> first | cases h | skip
    exact setC_length h
section
variable {K : PySem.W.Frag} {ρ ρ' : Rho} {W H : Hp} {σ : L2.St} {d : D} {v : V}
theorem Vis.set (h : Vis K ρ W σ) (r : Rep K W d v) (i : Nat) : Vis K (ρ.set i (some d)) W (σ.set i (some v)) := ⟨by rw [List.length_set, List.length_set, h.len], fun j e q => by
  by_cases hj : i = j
  · subst hj
    by_cases hi : i < ρ.length
    · rw [List.getElem?_set_self hi] at q
      cases q
      exact ⟨v, List.getElem?_set_self (by rw [← h.len]; exact hi), r⟩
    · rw [List.getElem?_eq_none (by rw [List.length_set]; omega)] at q
      cases q
  · rw [List.getElem?_set_ne hj] at q ⊢
    exact h.at_ j e q⟩
theorem Vis.setAll : ∀ (is : List Nat) {ds : List D} {vs : List V} {ρ : Rho} {σ : L2.St}, Vis K ρ W σ → RepAll K W ds vs → ds.length = is.length → Vis K (Pf.setAll ρ is ds) W (Pf.setAll σ is vs)
  | [], _, _, _, _, h, .nil, _ => h
  | i :: is, _, _, _, _, h, .cons r t, e => Vis.setAll is (h.set r i) t (by simpa using e)
  | [], _, _, _, _, _, .cons _ _, e => by simp at e
  | _ :: _, _, _, _, _, _, .nil, e => by simp at e
theorem gNames_run : ∀ (is : List Nat) {vs : List V} {σ : L2.St} {Q : L2.St → Hp → Prop}, vs.length = is.length → Q (Pf.setAll σ is vs) H → gNames is vs σ H Q
  | [], [], _, _, _, q => ⟨rfl, q⟩
  | i :: is, v :: vs, σ, Q, e, q => ⟨v, vs, rfl, gNames_run is (σ := σ.set i (some v)) (by simpa using e) q⟩
  | [], _ :: _, _, _, e, _ => by simp at e
  | _ :: _, [], _, _, e, _ => by simp at e
theorem gComps_run (ex : Ex W H) : ∀ (ps : List (Nat ⊕ List Nat)) {ds : List D} {vs : List V} {ρ ρ' : Rho} {σ σ0 : L2.St} {Q : L2.St → Hp → Prop}, Vis K ρ W σ → RepAll K W ds vs → setC id ps ds ρ = some ρ' →
    (∀ σ', Vis K ρ' W σ' → (∀ j, j ∉ slotsC ps → σ'[j]? = σ[j]?) → Q σ' H) → gComps K ps vs σ H Q
  | [], _, _, ρ, ρ', σ, _, Q, h, .nil, hs, q => by cases hs; exact ⟨rfl, q σ h fun _ _ => rfl⟩
  | [], _, _, ρ, ρ', σ, _, Q, h, .cons _ _, hs, q => by cases hs
  | .inl i :: ps, _, _, ρ, ρ', σ, σ0, Q, h, .nil, hs, q => by cases hs
  | .inr is :: ps, _, _, ρ, ρ', σ, σ0, Q, h, .nil, hs, q => by cases hs
  | .inl i :: ps, _, v :: vs, ρ, ρ', σ, σ0, Q, h, .cons r t, hs, q => ⟨v, vs, rfl, gComps_run ex ps (σ0 := σ0) (h.set r i) t hs fun σ' h' ho => q σ' h' fun j hj => by
      have h1 : ¬ (j = i ∨ j ∈ slotsC ps) := fun z => hj (List.mem_cons.mpr z)
      rw [ho j fun z => h1 (.inr z), List.getElem?_set_ne fun z => h1 (.inl z.symm)]⟩
  | .inr is :: ps, d :: ds, v :: vs, ρ, ρ', σ, σ0, Q, h, .cons r t, hs, q => by
    cases r with
    | @tup a us es h1 k =>
      simp only [setC] at hs
      split at hs
      · rename_i hl
        rw [List.map_id] at hs
        refine ⟨_, vs, rfl, a, us, rfl, Evl.ex_t ex h1, by rw [← k.length]; exact hl, gNames_run is (by rw [← k.length]; exact hl) ?_⟩
        refine gComps_run ex ps (σ0 := σ0) (h.setAll is k hl) t hs fun σ' h' ho => q σ' h' fun j hj => ?_
        have h2 : ¬ (j ∈ is ∨ j ∈ slotsC ps) := fun z => hj (List.mem_append.mpr z)
        rw [ho j fun z => h2 (.inr z)]
        exact setAll_out is _ σ j fun z => h2 (.inl z)
      · cases hs
    | _ => cases hs
theorem Pat.run {pat : Pat} (h : Vis K ρ W σ) (ex : Ex W H) (r : Rep K W d v) (hs : pat.set d ρ = some ρ') {Q : L2.St → Hp → Prop}
    (q : ∀ σ', Vis K ρ' W σ' → (∀ j, j ∉ pat.slots → σ'[j]? = σ[j]?) → Q σ' H) : pat.g K v σ H Q := by
  cases pat with
  | nm i =>
    cases hs
    exact q _ (h.set r i) fun j hj => List.getElem?_set_ne (by intro e; subst e; exact hj (List.mem_singleton.mpr rfl))
  | tp is =>
    cases r with
    | tup h1 k =>
      simp only [Pat.set] at hs
      split at hs
      · rename_i hl
        cases hs
        refine ⟨_, _, rfl, Evl.ex_t ex h1, by rw [← k.length]; exact hl, gNames_run is (by rw [← k.length]; exact hl) ?_⟩
        exact q _ (h.setAll is k hl) fun j hj => setAll_out is _ σ j hj
      · cases hs
    | _ => cases hs
  | tn ps =>
    cases r with
    | tup h1 k =>
      have hl : ∀ (ps : List (Nat ⊕ List Nat)) (ds : List D) (ρ ρ' : Rho), setC id ps ds ρ = some ρ' → ds.length = ps.length := fun ps => by
        induction ps with
        | nil => intro ds ρ ρ' h; cases ds with
          | nil => rfl
          | cons _ _ => cases h
        | cons p ps ih =>
          intro ds ρ ρ' h
          cases ds with
          | nil => cases p <;> cases h
          | cons d ds =>
            cases p with
            | inl i => exact congrArg (· + 1) (ih ds _ _ h)
            | inr is =>
              cases d <;> simp only [setC] at h <;> first | cases h | skip
              split at h
              · exact congrArg (· + 1) (ih ds _ _ h)
              · cases h
      exact ⟨_, _, rfl, Evl.ex_t ex h1, by rw [← k.length]; exact hl _ _ _ _ hs, gComps_run ex ps (σ0 := σ) h k hs q⟩
    | _ => cases hs
end
theorem wipe_get (σ : L2.St) : ∀ (vs : List Nat) (j : Nat), (wipe σ vs)[j]? = if j ∈ vs ∧ j < σ.length then some none else σ[j]?
  | [], j => by simp [wipe]
  | v :: vs, j => by
    unfold wipe
    by_cases e : v = j
    · subst e
      by_cases hl : v < σ.length
      · rw [List.getElem?_set_self (by rw [wipe_length]; exact hl), if_pos ⟨List.mem_cons_self, hl⟩]
      · rw [List.getElem?_eq_none (by rw [List.length_set, wipe_length]; omega), if_neg (fun z => hl z.2), List.getElem?_eq_none (by omega)]
    · rw [List.getElem?_set_ne e, wipe_get σ vs j]
      have : (j ∈ v :: vs) ↔ j ∈ vs := by rw [List.mem_cons]; exact ⟨fun h => h.resolve_left (fun z => e z.symm), .inr⟩
      simp only [this]
theorem wipe_eq {σ τ : L2.St} {vs is : List Nat} (hl : σ.length = τ.length) (hs : ∀ i ∈ is, i ∈ vs) (h : ∀ j, j ∉ is → τ[j]? = (wipe σ vs)[j]?) : wipe τ vs = wipe σ vs := by
  apply List.ext_getElem?
  intro j
  rw [wipe_get τ vs j, wipe_get σ vs j, hl]
  by_cases hj : j ∈ vs ∧ j < τ.length
  · rw [if_pos hj, if_pos hj]
  · rw [if_neg hj, if_neg hj]
    by_cases hi : j ∈ is
    · have : ¬ j < τ.length := fun z => hj ⟨hs j hi, z⟩
      rw [List.getElem?_eq_none (by omega), List.getElem?_eq_none (by omega)]
    · rw [h j hi, wipe_get, hl, if_neg hj]
def wipeR (ρ : Rho) : List Nat → Rho
  | [] => ρ
  | v :: vs => (wipeR ρ vs).set v none
theorem Vis.wipe {K : PySem.W.Frag} {ρ : Rho} {W : Hp} {σ : L2.St} (h : Vis K ρ W σ) : ∀ vs, Vis K (wipeR ρ vs) W (L2.wipe σ vs)
  | [] => h
  | v :: vs => by
    have ih := Vis.wipe h vs
    refine ⟨by unfold wipeR L2.wipe; rw [List.length_set, List.length_set, ih.len], fun j e q => ?_⟩
    unfold wipeR at q
    unfold L2.wipe
    by_cases hj : v = j
    · subst hj
      by_cases hi : v < (wipeR ρ vs).length
      · rw [List.getElem?_set_self hi] at q; cases q
      · rw [List.getElem?_eq_none (by rw [List.length_set]; omega)] at q; cases q
    · rw [List.getElem?_set_ne hj] at q ⊢
      exact ih.at_ j e q
def wTs (X : Cx) (ifs : List Expr) : TT := fun σ H Q => ∀ (pins : List (Addr × Obj)) (s : Shared), Inv X pins σ H s →
  wpAny (model X.prog X.w) X.A (forIn ifs true fun c r => if r = true then do let ok ← isTrue c X.env (eval c X.env); pure (ForInStep.yield ok) else pure (ForInStep.yield r)) (TP X pins σ Q) X.xe s
theorem wTs.of {X : Cx} {ifs : List Expr} {t : TT} (h : PTs X ifs t) {σ : L2.St} {H : Hp} {Q : Bool → Hp → Prop} (q : t σ H Q) : wTs X ifs σ H Q := fun pins s I => h.run pins s σ H Q I q
structure JTs (X : Cx) (ifs : List Expr) (ρ : Rho) (b : Bool) : Prop where
  run : ∀ W σ H, Ex W H → Vis X.K ρ W σ → ∀ Q : Bool → Hp → Prop, GoodT W H b Q → wTs X ifs σ H Q
instance {X : Cx} {ifs : List Expr} {ρ : Rho} {b : Bool} : CoeFun (JTs X ifs ρ b) (fun _ => ∀ W σ H, Ex W H → Vis X.K ρ W σ → ∀ Q : Bool → Hp → Prop, GoodT W H b Q → wTs X ifs σ H Q) := ⟨JTs.run⟩
theorem jts_nil {X : Cx} {ρ : Rho} : JTs X [] ρ true := ⟨fun W σ H ex hV Q g => .of pts_nil (g.now ex)⟩
theorem jts_one {X : Cx} {ρ : Rho} {c : Expr} {b : Bool} (h : JT X c ρ b) : JTs X [c] ρ b := ⟨fun W σ H ex hV Q g => .of (pts_one pt_w) (h W σ H ex hV Q g)⟩
/-- a block's context -/
abbrev blkX (X : Cx) (scope : Scope) (s : Shared) (H : Hp) (C : Addr) (cl : List (Str × Addr)) (fp : List Addr) : Cx := X.blk s H scope (compEnvC scope cl C X.env) fp
section
variable {X : Cx} {elt tg iter : Expr} {ifs : List Expr} {scope : Scope} {own : List (Str × Nat)} {pos : Pos} {ρ : Rho} {its : List (D × Option D)} {pat : Pat}
/-- what one turn of a comprehension does with the item d -/
def LcTurn (X : Cx) (scope : Scope) (pat : Pat) (elt : Expr) (ifs : List Expr) (ρ : Rho) (d : D) (y : Option D) : Prop :=
  ∃ ρ', pat.set d ρ = some ρ' ∧ ∀ s H C cl fp, match y with
    | none => JTs (blkX X scope s H C cl fp) ifs ρ' false
    | some y => JTs (blkX X scope s H C cl fp) ifs ρ' true ∧ J (blkX X scope s H C cl fp) elt ρ' y
/-- the reading of a comprehension, as it is used for a value and for a stored one. D: the new list -/
theorem lc_readAt {W H : Hp} {σ : L2.St} (hi : ∀ R : It → Hp → Prop, (∀ J W1 H1, Step W H W1 H1 → Walks X.K J W1 (its.map (·.1)) → R J H1) → wI X tg iter σ H R) (hown : ∀ i ∈ pat.slots, i ∈ own.map (·.2)) (hlen : its.length < sizeLine)
    (turn : ∀ q ∈ its, LcTurn X scope pat elt ifs (wipeR ρ (own.map (·.2))) q.1 q.2) (ex : Ex W H) (hV : Vis X.K ρ W σ) {Q : VK}
    (g : ∀ (Dn : Addr) (W' H' : Hp) (vs : List V), Step W H W' H' → H Dn = none → W' Dn = none → H' Dn = some (.lst vs) → RepAll X.K W' (its.filterMap (·.2)) vs → Q (.ref Dn) H') :
    tLc (wI X tg iter) (pat.g X.K) (fun σ H Q => ∀ s H0 C cl fp, wTs (blkX X scope s H0 C cl fp) ifs σ H Q) (fun σ H Q => ∀ s H0 C cl fp, wE (blkX X scope s H0 C cl fp) elt σ H Q) (own.map (·.2)) σ H Q := by
  refine hi _ fun Jt W1 H1 s1 wk => ?_
  intro Dn hD
  have hW1 : W1 Dn = none := Evl.fresh_back s1.wh hD
  refine ⟨fun i m H2 => m = its.length - i ∧ i ≤ its.length ∧ ∃ W2 vs, Step W1 H1 W2 H2 ∧ W2 Dn = none ∧ H2 Dn = some (.lst vs) ∧ RepAll X.K W2 ((its.take i).filterMap (·.2)) vs, ⟨_, rfl, Nat.zero_le _, W1, [], .newH s1.wh hD, hW1, upd_same, .nil⟩, ?_⟩
  rintro i m H2 ⟨rfl, hil, W2, vs, s2, hW2, hH2, rv⟩
  by_cases hlt : i < its.length
  · refine .inr ⟨wk.go i H2 (s2.ww.trans s2.wh) (by rw [List.length_map]; exact hlt), _, fun H' z => ⟨_, (by omega : its.length - (i + 1) < its.length - i), rfl, hlt, z⟩, fun x H3 hy => ?_⟩
    obtain ⟨⟨d, fd⟩, hd⟩ : ∃ d, its[i]? = some d := ⟨its[i], by simp [hlt]⟩
    obtain ⟨W3, s3, rx⟩ := wk.yld i H2 x H3 d (s2.ww.trans s2.wh) (by rw [List.getElem?_map, hd]; rfl) hy W2 s2.ww s2.wh
    obtain ⟨ρ', hset, ht⟩ := turn _ (List.mem_of_getElem? hd)
    have hV3 : Vis X.K ρ W3 σ := hV.mono ((s1.trans s2).trans s3).ww
    have hW3 : W3 Dn = none := by
      cases q : W3 Dn with
      | none => rfl
      | some o =>
        have := s3.fr Dn (by rw [q]; simp) hW2
        rw [hH2] at this; cases this
    have hH3 : H3 Dn = some (.lst vs) := s3.hh _ _ hH2
    have tk : its.take (i + 1) = its.take i ++ [(d, fd)] := by
      rw [List.take_add_one, hd]; rfl
    refine Pat.run (hV3.wipe _) s3.wh rx hset fun σ2 hV4 ho => ⟨wipe_eq (by rw [← hV4.len, ← hV3.len, Pat.set_length hset]; have := (hV3.wipe (own.map (·.2))).len; rw [wipe_length, ← hV3.len] at this; exact this.symm) hown ho, ?_⟩
    cases fd with
    | none =>
      dsimp only at ht
      refine fun s H0 C cl fp => ht s H0 C cl fp W3 σ2 H3 s3.wh hV4 _ fun W4 H4 s4 => ?_
      rw [if_neg Bool.false_ne_true]
      have hH4 := s4.hh _ _ hH3
      refine ⟨W4, vs, (s2.trans s3).trans s4, ?_, hH4, ?_⟩
      · cases q : W4 Dn with
        | none => rfl
        | some o => have := s4.fr Dn (by rw [q]; simp) hW3; rw [hH3] at this; cases this
      · rw [tk, List.filterMap_append]
        simp only [List.filterMap_cons, List.filterMap_nil, List.append_nil]
        exact rv.mono (s3.trans s4).ww
    | some y =>
      dsimp only at ht
      refine fun s H0 C cl fp => (ht s H0 C cl fp).1 W3 σ2 H3 s3.wh hV4 _ fun W4 H4 s4 => ?_
      rw [if_pos rfl]
      refine fun s' H0' C' cl' fp' => (ht s' H0' C' cl' fp').2 W4 σ2 H4 s4.wh (hV4.mono s4.ww) _ fun v W5 H5 s5 r5 => ?_
      have s35 := s4.trans s5
      have hH5 := s35.hh _ _ hH3
      have hW5 : W5 Dn = none := by
        cases q : W5 Dn with
        | none => rfl
        | some o => have := s35.fr Dn (by rw [q]; simp) hW3; rw [hH3] at this; cases this
      have hvl : vs.length ≤ i := by
        rw [← rv.length]
        exact Nat.le_trans (List.length_filterMap_le _ _) (by rw [List.length_take]; omega)
      refine ⟨vs, hH5, by omega, W5, vs ++ [v], ?_, hW5, upd_same, ?_⟩
      · have s25 := (s2.trans s3).trans s35
        refine ⟨s25.ww, fun a o h => ?_, fun a o h => ?_, s25.fr⟩
        · rw [upd_ne (ne_of_none h hW5)]; exact s25.wh a o h
        · rw [upd_ne (ne_of_none h hD)]; exact s25.hh a o h
      · rw [tk, List.filterMap_append]
        simp only [List.filterMap_cons, List.filterMap_nil]
        exact (rv.mono (s3.trans s35).ww).append (.cons r5 .nil)
  · have e : i = its.length := by omega
    subst e
    refine .inl ⟨by have := wk.stop H2 (s2.ww.trans s2.wh); rwa [List.length_map] at this, g Dn W2 H2 vs (s1.trans s2) (Evl.fresh_back s1.hh hD) hW2 hH2 ?_⟩
    rw [List.take_length] at rv
    exact rv
theorem lc_read (hi : JI X tg iter ρ (its.map (·.1))) (hown : ∀ i ∈ pat.slots, i ∈ own.map (·.2)) (hlen : its.length < sizeLine)
    (turn : ∀ q ∈ its, LcTurn X scope pat elt ifs (wipeR ρ (own.map (·.2))) q.1 q.2) {W H : Hp} {σ : L2.St} (ex : Ex W H) (hV : Vis X.K ρ W σ) {Q : VK}
    (g : ∀ (Dn : Addr) (W' H' : Hp) (vs : List V), Step W H W' H' → H Dn = none → W' Dn = none → H' Dn = some (.lst vs) → RepAll X.K W' (its.filterMap (·.2)) vs → Q (.ref Dn) H') :
    tLc (wI X tg iter) (pat.g X.K) (fun σ H Q => ∀ s H0 C cl fp, wTs (blkX X scope s H0 C cl fp) ifs σ H Q) (fun σ H Q => ∀ s H0 C cl fp, wE (blkX X scope s H0 C cl fp) elt σ H Q) (own.map (·.2)) σ H Q := lc_readAt (fun R k => hi W σ H ex hV R k) hown hlen turn ex hV g
theorem Step.show' {W H W' H' : Hp} {p : Addr} {o : HO} (s : Step W H W' H') (hp : H p = none) (hw : W' p = none) (hh : H' p = some o) : Step W H (upd W' p o) H' :=
  ⟨fun a u h => by rw [upd_ne (ne_of_none (s.ww a u h) hw)]; exact s.ww a u h, fun a u h => by
    by_cases ha : a = p
    · subst ha; rw [upd_same] at h; cases h; exact hh
    · rw [upd_ne ha] at h; exact s.wh a u h, s.hh, fun b h1 h2 => by
    by_cases ha : b = p
    · subst ha; exact hp
    · rw [upd_ne ha] at h1; exact s.fr b h1 h2⟩
theorem j_lc (hi : JI X tg iter ρ (its.map (·.1))) (ok : BlkOk X.N X.env.scope scope own) (hg : ∀ s H C cl fp, PG (blkX X scope s H C cl fp) tg (pat.g X.K)) (hown : ∀ i ∈ pat.slots, i ∈ own.map (·.2)) (hlen : its.length < sizeLine)
    (turn : ∀ q ∈ its, LcTurn X scope pat elt ifs (wipeR ρ (own.map (·.2))) q.1 q.2) (hN : X.N.Nodup) (hc : X.calm = true := by rfl) (hs : ∀ x, foldedSetIterable iter X.env x = pure x := by intro _; rfl) :
    J X (.ListComp elt [⟨tg, iter, ifs, 0⟩] scope pos) ρ (.lst (its.filterMap (·.2))) := ⟨fun W σ H ex hV Q g =>
  .of (pe_lc (tt := fun σ H Q => ∀ s H0 C cl fp, wTs (blkX X scope s H0 C cl fp) ifs σ H Q) (te := fun σ H Q => ∀ s H0 C cl fp, wE (blkX X scope s H0 C cl fp) elt σ H Q) hc hN pi_w ok hg
    (fun s H0 C cl fp => ⟨fun pins s' σ' H' Q' I h => h s H0 C cl fp pins s' I⟩) (fun s H0 C cl fp => ⟨fun pins s' σ' H' Q' I h => h s H0 C cl fp pins s' I⟩) hs)
    (lc_read hi hown hlen turn ex hV fun Dn W' H' vs s hD hW hH rv => g _ _ _ (s.show' hD hW hH) (.lst upd_same (rv.mono fun a u h => by rw [upd_ne (ne_of_none h hW)]; exact h)))⟩
theorem sel_filter {α : Type} (g : α → D) (p : α → Bool) (h : α → D) : ∀ xs : List α, (xs.map fun x => (g x, if p x = true then some (h x) else none)).filterMap (·.2) = (xs.filter p).map h
  | [] => rfl
  | x :: xs => by
    rw [List.map_cons, List.filterMap_cons]
    by_cases q : p x = true
    · rw [List.filter_cons_of_pos q]; simp only [q, if_true]; rw [List.map_cons, sel_filter g p h xs]
    · rw [List.filter_cons_of_neg q]; simp only [if_neg q]; rw [sel_filter g p h xs]
/-- over the items of a kind, by a name: those that p holds of, each as h -/
theorem lcN_turn {α : Type} {i : Nat} {xs : List α} {g : α → D} {p : α → Bool} {h : α → D}
    (turn : ∀ x ∈ xs, ∀ s H C cl fp, JTs (blkX X scope s H C cl fp) ifs ((wipeR ρ (own.map (·.2))).set i (some (g x))) (p x) ∧ (p x = true → J (blkX X scope s H C cl fp) elt ((wipeR ρ (own.map (·.2))).set i (some (g x))) (h x))) :
    ∀ q ∈ xs.map fun x => (g x, if p x = true then some (h x) else none), LcTurn X scope (.nm i) elt ifs (wipeR ρ (own.map (·.2))) q.1 q.2 := by
  intro q hq
  obtain ⟨x, hx, rfl⟩ := List.mem_map.mp hq
  refine ⟨_, rfl, fun s H C cl fp => ?_⟩
  have t := turn x hx s H C cl fp
  by_cases e : p x = true
  · simp only [e, if_true]; rw [e] at t; exact ⟨t.1, t.2 rfl⟩
  · simp only [if_neg e]
    have e' : p x = false := by simpa using e
    rw [e'] at t; exact t.1
theorem j_lcN {α : Type} {i : Nat} (xs : List α) (g : α → D) (p : α → Bool) (h : α → D) (hi : JI X tg iter ρ (xs.map g)) (ok : BlkOk X.N X.env.scope scope own) (hg : ∀ s H C cl fp, PG (blkX X scope s H C cl fp) tg (gName i)) (hlen : xs.length < sizeLine)
    (turn : ∀ x ∈ xs, ∀ s H C cl fp, JTs (blkX X scope s H C cl fp) ifs ((wipeR ρ (own.map (·.2))).set i (some (g x))) (p x) ∧ (p x = true → J (blkX X scope s H C cl fp) elt ((wipeR ρ (own.map (·.2))).set i (some (g x))) (h x))) (hN : X.N.Nodup) (hown : i ∈ own.map (·.2) := by decide) (hc : X.calm = true := by rfl) (hs : ∀ x, foldedSetIterable iter X.env x = pure x := by intro _; rfl) :
    J X (.ListComp elt [⟨tg, iter, ifs, 0⟩] scope pos) ρ (.lst ((xs.filter p).map h)) := by
  rw [← sel_filter g p h xs]
  refine j_lc (pat := .nm i) (by rw [List.map_map]; exact hi) ok hg (fun j hj => (List.mem_singleton.mp hj : j = i) ▸ hown) (by rw [List.length_map]; exact hlen) (lcN_turn turn) hN hc hs
end
end Pf

namespace Pf
open PySem L2
open Evl (Ex)

/-- lists and dicts in the fields of an own object are its own, and what a journal keeps of its past -/
def mutD : D → Bool
  | .lst _ => true
  | .dct _ => true
  | .ins _ ((n, _) :: _) => decide (n = "is_blank")
  | _ => false
def isI : D → Bool
  | .int _ => true
  | _ => false
/-- meters stand in own lists as own objects (their first field is the limit), and lists of numbers stand in own dicts as own lists -/
def insM : D → Bool
  | .ins _ ((n, _) :: _) => decide (n = "limit")
  | .lst ds => ds.all isI
  | _ => false
def NoM (ds : List D) : Prop := ∀ d ∈ ds, insM d = false
theorem NoM.nil : NoM [] := fun _ h => by cases h
theorem NoM.cons {d : D} {ds : List D} (h : insM d = false) (t : NoM ds) : NoM (d :: ds) := fun x hx => by
  rcases List.mem_cons.mp hx with z | z
  · rw [z]; exact h
  · exact t x z
theorem NoM.app {ds es : List D} (h : NoM ds) (t : NoM es) : NoM (ds ++ es) := fun x hx => by
  rcases List.mem_append.mp hx with z | z
  · exact h x z
  · exact t x z
theorem NoM.map {α : Type} {f : α → D} {xs : List α} (h : ∀ x, insM (f x) = false) : NoM (xs.map f) := fun d hd => by
  obtain ⟨x, _, rfl⟩ := List.mem_map.mp hd
  exact h x
theorem NoM.fm {α : Type} {p : α → Bool} {g : α → D} {f : α → D} {xs : List α} (h : ∀ x, insM (f x) = false) : NoM ((xs.map fun x => (g x, if p x = true then some (f x) else none)).filterMap (·.2)) := fun d hd => by
  obtain ⟨⟨a, b⟩, h1, h2⟩ := List.mem_filterMap.mp hd
  obtain ⟨x, _, e⟩ := List.mem_map.mp h1
  simp only [Prod.mk.injEq] at e
  obtain ⟨_, e⟩ := e
  have h2 : b = some d := h2
  rw [h2] at e
  split at e
  · cases e; exact h x
  · cases e
theorem NoM.sub {ds es : List D} (h : NoM es) (s : ∀ d ∈ ds, d ∈ es) : NoM ds := fun d hd => h d (s d hd)
mutual
inductive Own (K : PySem.W.Frag) (Hf H : Hp) : D → V → List Addr → Prop
  | fz {d : D} {v : V} : Rep K Hf d v → Own K Hf H d v []
  | lst {a : Addr} {vs : List V} {ds : List D} {A : List Addr} : H a = some (.lst vs) → OwnAll K Hf H ds vs A → a ∉ A → Own K Hf H (.lst ds) (.ref a) (a :: A)
  | dct {a : Addr} {kvs : List (Key × V)} {kds : List (Key × D)} {A : List Addr} : H a = some (.dK kvs) → kvs.map (·.1) = kds.map (·.1) → OwnAll K Hf H (kds.map (·.2)) (kvs.map (·.2)) A → a ∉ A → Own K Hf H (.dct kds) (.ref a) (a :: A)
  | ins {a C dx : Addr} {fs : List (Str × V)} {fds : List (Str × D)} {A : List Addr} : H a = some (.ins C dx fs) → fs.map (·.1) = fds.map (·.1) → OwnFs K Hf H (fds.map (·.2)) (fs.map (·.2)) A → a ∉ A → Own K Hf H (.ins C fds) (.ref a) (a :: A)
inductive OwnAll (K : PySem.W.Frag) (Hf H : Hp) : List D → List V → List Addr → Prop
  | nil : OwnAll K Hf H [] [] []
  | cons {d : D} {v : V} {ds : List D} {vs : List V} {A B : List Addr} : Own K Hf H d v A → OwnAll K Hf H ds vs B → (∀ a ∈ A, a ∉ B) → (insM d = true → A ≠ []) → OwnAll K Hf H (d :: ds) (v :: vs) (A ++ B)
inductive OwnFs (K : PySem.W.Frag) (Hf H : Hp) : List D → List V → List Addr → Prop
  | nil : OwnFs K Hf H [] [] []
  | cons {d : D} {v : V} {ds : List D} {vs : List V} {A B : List Addr} : Own K Hf H d v A → OwnFs K Hf H ds vs B → (∀ a ∈ A, a ∉ B) → (mutD d = true → A ≠ []) → OwnFs K Hf H (d :: ds) (v :: vs) (A ++ B)
end
section
variable {K : PySem.W.Frag} {Hf H Hf' H' W : Hp}
/-- the heap may change elsewhere -/
theorem Own.move {d : D} {v : V} {A : List Addr} (h : Own K Hf H d v A) : Ex Hf Hf' → (∀ a ∈ A, H' a = H a) → Own K Hf' H' d v A := by
  refine Own.rec (motive_1 := fun d v A _ => Ex Hf Hf' → (∀ a ∈ A, H' a = H a) → Own K Hf' H' d v A) (motive_2 := fun ds vs A _ => Ex Hf Hf' → (∀ a ∈ A, H' a = H a) → OwnAll K Hf' H' ds vs A) (motive_3 := fun ds vs A _ => Ex Hf Hf' → (∀ a ∈ A, H' a = H a) → OwnFs K Hf' H' ds vs A) ?_ ?_ ?_ ?_ ?_ ?_ ?_ ?_ h
  · exact fun r e _ => .fz (r.mono e)
  · exact fun h1 _ n ih e k => .lst (by rw [k _ List.mem_cons_self]; exact h1) (ih e fun a ha => k a (List.mem_cons_of_mem _ ha)) n
  · exact fun h1 q _ n ih e k => .dct (by rw [k _ List.mem_cons_self]; exact h1) q (ih e fun a ha => k a (List.mem_cons_of_mem _ ha)) n
  · exact fun h1 q _ n ih e k => .ins (by rw [k _ List.mem_cons_self]; exact h1) q (ih e fun a ha => k a (List.mem_cons_of_mem _ ha)) n
  · exact fun _ _ => .nil
  · exact fun _ _ n w i1 i2 e k => .cons (i1 e fun a ha => k a (List.mem_append_left _ ha)) (i2 e fun a ha => k a (List.mem_append_right _ ha)) n w
  · exact fun _ _ => .nil
  · exact fun _ _ n w i1 i2 e k => .cons (i1 e fun a ha => k a (List.mem_append_left _ ha)) (i2 e fun a ha => k a (List.mem_append_right _ ha)) n w
/-- read in a heap that has all of it -/
theorem Own.rep {d : D} {v : V} {A : List Addr} (h : Own K Hf H d v A) : Ex Hf W → (∀ a ∈ A, W a = H a) → Rep K W d v := by
  refine Own.rec (motive_1 := fun d v A _ => Ex Hf W → (∀ a ∈ A, W a = H a) → Rep K W d v) (motive_2 := fun ds vs A _ => Ex Hf W → (∀ a ∈ A, W a = H a) → RepAll K W ds vs) (motive_3 := fun ds vs A _ => Ex Hf W → (∀ a ∈ A, W a = H a) → RepAll K W ds vs) ?_ ?_ ?_ ?_ ?_ ?_ ?_ ?_ h
  · exact fun r e _ => r.mono e
  · exact fun h1 _ n ih e k => .lst (by rw [k _ List.mem_cons_self]; exact h1) (ih e fun a ha => k a (List.mem_cons_of_mem _ ha))
  · exact fun h1 q _ n ih e k => .dct (by rw [k _ List.mem_cons_self]; exact h1) q (ih e fun a ha => k a (List.mem_cons_of_mem _ ha))
  · exact fun h1 q _ n ih e k => .ins (by rw [k _ List.mem_cons_self]; exact h1) q (ih e fun a ha => k a (List.mem_cons_of_mem _ ha))
  · exact fun _ _ => .nil
  · exact fun _ _ n w i1 i2 e k => .cons (i1 e fun a ha => k a (List.mem_append_left _ ha)) (i2 e fun a ha => k a (List.mem_append_right _ ha))
  · exact fun _ _ => .nil
  · exact fun _ _ n w i1 i2 e k => .cons (i1 e fun a ha => k a (List.mem_append_left _ ha)) (i2 e fun a ha => k a (List.mem_append_right _ ha))
theorem OwnAll.fz : ∀ {ds : List D} {vs : List V}, RepAll K Hf ds vs → NoM ds → OwnAll K Hf H ds vs []
  | _, _, .nil, _ => .nil
  | _, _, .cons r t, n => .cons (A := []) (B := []) (.fz r) (OwnAll.fz t fun d hd => n d (List.mem_cons_of_mem _ hd)) (fun _ h => absurd h (by simp)) (fun h => by rw [n _ List.mem_cons_self] at h; cases h)
theorem OwnAll.append : ∀ {ds es : List D} {vs us : List V} {A B : List Addr}, OwnAll K Hf H ds vs A → OwnAll K Hf H es us B → (∀ a ∈ A, a ∉ B) → OwnAll K Hf H (ds ++ es) (vs ++ us) (A ++ B)
  | _, _, _, _, _, _, .nil, s, _ => s
  | _, _, _, _, _, _, .cons (A := A1) (B := B1) r t n w, s, h => by
    rw [List.append_assoc]
    refine .cons r (OwnAll.append t s fun a ha => h a (List.mem_append_right _ ha)) (fun a ha hb => ?_) w
    rcases List.mem_append.mp hb with q | q
    · exact n a ha q
    · exact h a (List.mem_append_left _ ha) q
theorem OwnAll.length : ∀ {ds : List D} {vs : List V} {A : List Addr}, OwnAll K Hf H ds vs A → ds.length = vs.length
  | _, _, _, .nil => rfl
  | _, _, _, .cons _ b _ _ => congrArg (· + 1) (OwnAll.length b)
end

inductive SV where
  | fz (d : D) | ow (d : D)
def SV.d : SV → D
  | .fz d => d
  | .ow d => d
abbrev RhoS := List (Option SV)
def SV.fzD : SV → Option D
  | .fz d => some d
  | .ow _ => none
def fzR (ρ : RhoS) : Rho := ρ.map fun o => o.bind SV.fzD
def allR (ρ : RhoS) : Rho := ρ.map fun o => o.map SV.d
/-- the entry of the def: its frozen heap, its heap, what may be changed of it, where the own arguments stand -/
structure Ent where
  W0 : Hp
  H0 : Hp
  M : Addr → Prop
  pa : Nat → Option Addr
structure StAt (K : PySem.W.Frag) (E : Ent) (ρ : RhoS) (σ : L2.St) (H Hf : Hp) (A : Nat → List Addr) : Prop where
  len : ρ.length = σ.length
  w0 : Ex E.W0 Hf
  fh : Ex Hf H
  fr : Fr E.W0 Hf E.H0
  hh : ∀ b o, E.H0 b = some o → ¬ E.M b → H b = some o
  kp : ∀ b, H b = none → E.H0 b = none
  sl : ∀ (i : Nat) (sv : SV), ρ[i]? = some (some sv) → ∃ v, σ[i]? = some (some v) ∧ match sv with
    | .fz d => Rep K Hf d v
    | .ow d => Own K Hf H d v (A i) ∧ A i ≠ []
  ap : ∀ i a, a ∈ A i → Hf a = none ∧ H a ≠ none ∧ (E.H0 a = none ∨ (E.M a ∧ E.pa i ≠ none))
  dj : ∀ i j a, a ∈ A i → a ∈ A j → i = j
  pn : ∀ i a, E.pa i = some a → σ[i]? = some (some (.ref a))
def StOk (K : PySem.W.Frag) (E : Ent) (ρ : RhoS) (σ : L2.St) (H : Hp) : Prop := ∃ Hf A, StAt K E ρ σ H Hf A
section
variable {K : PySem.W.Frag} {E : Ent} {ρ : RhoS} {σ : L2.St} {H Hf W' H' : Hp} {A : Nat → List Addr}
theorem fzR_get {i : Nat} {d : D} (h : (fzR ρ)[i]? = some (some d)) : ρ[i]? = some (some (.fz d)) := by
  unfold fzR at h
  rw [List.getElem?_map] at h
  cases e : ρ[i]? with
  | none => rw [e] at h; cases h
  | some o =>
    rw [e] at h
    cases o with
    | none => cases h
    | some sv => cases sv with
      | fz d' => cases h; rfl
      | ow d' => cases h
theorem allR_get {i : Nat} {d : D} (h : (allR ρ)[i]? = some (some d)) : ∃ sv, ρ[i]? = some (some sv) ∧ sv.d = d := by
  unfold allR at h
  rw [List.getElem?_map] at h
  cases e : ρ[i]? with
  | none => rw [e] at h; cases h
  | some o =>
    rw [e] at h
    cases o with
    | none => cases h
    | some sv => cases h; exact ⟨sv, rfl, rfl⟩
theorem StAt.vis (s : StAt K E ρ σ H Hf A) : Vis K (fzR ρ) Hf σ := ⟨by unfold fzR; rw [List.length_map]; exact s.len, fun i d h => s.sl i _ (fzR_get h)⟩
theorem StAt.visH (s : StAt K E ρ σ H Hf A) : Vis K (allR ρ) H σ := ⟨by unfold allR; rw [List.length_map]; exact s.len, fun i d h => by
  obtain ⟨sv, h1, h2⟩ := allR_get h
  obtain ⟨v, e1, e2⟩ := s.sl i sv h1
  refine ⟨v, e1, ?_⟩
  cases sv with
  | fz d' => cases h2; exact Rep.mono s.fh e2
  | ow d' => cases h2; exact Own.rep e2.1 s.fh fun _ _ => rfl⟩
/-- behind an expression's reading that ran from the frozen heap -/
theorem StAt.step (s : StAt K E ρ σ H Hf A) (t : Step Hf H W' H') : StAt K E ρ σ H' W' A where
  len := s.len
  w0 := s.w0.trans t.ww
  fh := t.wh
  fr := fun b h1 h2 => by
    by_cases e : Hf b = none
    · exact s.kp b (t.fr b h1 e)
    · exact s.fr b e h2
  hh := fun b o h1 h2 => t.hh _ _ (s.hh b o h1 h2)
  kp := fun b h => s.kp b (Evl.fresh_back t.hh h)
  sl := fun i sv h => by
    obtain ⟨v, e1, e2⟩ := s.sl i sv h
    refine ⟨v, e1, ?_⟩
    cases sv with
    | fz d => exact Rep.mono t.ww e2
    | ow d =>
      refine ⟨Own.move e2.1 t.ww fun a ha => ?_, e2.2⟩
      have h2 := (s.ap i a ha).2.1
      cases q : H a with
      | none => exact absurd q h2
      | some o => exact t.hh _ _ q
  ap := fun i a ha => by
    obtain ⟨h1, h2, h3⟩ := s.ap i a ha
    refine ⟨?_, fun z => h2 (Evl.fresh_back t.hh z), h3⟩
    cases q : W' a with
    | none => rfl
    | some o => exact absurd (t.fr a (by rw [q]; simp) h1) h2
  dj := s.dj
  pn := s.pn
/-- .. from the whole heap: the frozen heap stays -/
theorem StAt.grow (s : StAt K E ρ σ H Hf A) (t : Ex H H') : StAt K E ρ σ H' Hf A where
  len := s.len
  w0 := s.w0
  fh := s.fh.trans t
  fr := s.fr
  hh := fun b o h1 h2 => t _ _ (s.hh b o h1 h2)
  kp := fun b h => s.kp b (Evl.fresh_back t h)
  sl := fun i sv h => by
    obtain ⟨v, e1, e2⟩ := s.sl i sv h
    refine ⟨v, e1, ?_⟩
    cases sv with
    | fz d => exact e2
    | ow d =>
      refine ⟨Own.move e2.1 (.refl _) fun a ha => ?_, e2.2⟩
      have h2 := (s.ap i a ha).2.1
      cases q : H a with
      | none => exact absurd q h2
      | some o => exact t _ _ q
  ap := fun i a ha => by
    obtain ⟨h1, h2, h3⟩ := s.ap i a ha
    exact ⟨h1, fun z => h2 (Evl.fresh_back t z), h3⟩
  dj := s.dj
  pn := s.pn
/-- a slot is set to a value in the frozen heap -/
theorem StAt.setFz (s : StAt K E ρ σ H Hf A) {i : Nat} {d : D} {v : V} (r : Rep K Hf d v) (hp : E.pa i = none) : StAt K E (ρ.set i (some (.fz d))) (σ.set i (some v)) H Hf (fun j => if j = i then [] else A j) where
  len := by rw [List.length_set, List.length_set]; exact s.len
  w0 := s.w0
  fh := s.fh
  fr := s.fr
  hh := s.hh
  kp := s.kp
  sl := fun j sv h => by
    by_cases hj : i = j
    · subst hj
      by_cases hi : i < ρ.length
      · rw [List.getElem?_set_self hi] at h; cases h
        exact ⟨v, List.getElem?_set_self (by rw [← s.len]; exact hi), r⟩
      · rw [List.getElem?_eq_none (by rw [List.length_set]; omega)] at h; cases h
    · rw [List.getElem?_set_ne hj] at h ⊢
      rw [if_neg (fun z => hj z.symm)]
      exact s.sl j sv h
  ap := fun j a ha => by
    by_cases hj : j = i
    · rw [if_pos hj] at ha; exact absurd ha (by simp)
    · rw [if_neg hj] at ha; exact s.ap j a ha
  dj := fun j k a h1 h2 => by
    by_cases hj : j = i
    · rw [if_pos hj] at h1; exact absurd h1 (by simp)
    · by_cases hk : k = i
      · rw [if_pos hk] at h2; exact absurd h2 (by simp)
      · rw [if_neg hj] at h1; rw [if_neg hk] at h2; exact s.dj j k a h1 h2
  pn := fun j a h => by
    have hj : i ≠ j := fun e => by subst e; rw [hp] at h; cases h
    rw [List.getElem?_set_ne hj]; exact s.pn j a h
/-- a slot is set to a new object of its own -/
theorem StAt.setOw (s : StAt K E ρ σ H Hf A) {i : Nat} {d : D} {v : V} {B : List Addr} (r : Own K Hf H d v B) (hB0 : B ≠ []) (hp : E.pa i = none) (hB : ∀ a ∈ B, Hf a = none ∧ H a ≠ none ∧ E.H0 a = none ∧ ∀ j, a ∉ A j) : StAt K E (ρ.set i (some (.ow d))) (σ.set i (some v)) H Hf (fun j => if j = i then B else A j) where
  len := by rw [List.length_set, List.length_set]; exact s.len
  w0 := s.w0
  fh := s.fh
  fr := s.fr
  hh := s.hh
  kp := s.kp
  sl := fun j sv h => by
    by_cases hj : i = j
    · subst hj
      by_cases hi : i < ρ.length
      · rw [List.getElem?_set_self hi] at h; cases h
        exact ⟨v, List.getElem?_set_self (by rw [← s.len]; exact hi), by dsimp only; rw [if_pos rfl]; exact ⟨r, hB0⟩⟩
      · rw [List.getElem?_eq_none (by rw [List.length_set]; omega)] at h; cases h
    · rw [List.getElem?_set_ne hj] at h ⊢
      rw [if_neg (fun z => hj z.symm)]
      exact s.sl j sv h
  ap := fun j a ha => by
    by_cases hj : j = i
    · rw [if_pos hj] at ha; obtain ⟨h1, h2, h3, _⟩ := hB a ha; exact ⟨h1, h2, .inl h3⟩
    · rw [if_neg hj] at ha; exact s.ap j a ha
  dj := fun j k a h1 h2 => by
    by_cases hj : j = i
    · by_cases hk : k = i
      · rw [hj, hk]
      · rw [if_pos hj] at h1; rw [if_neg hk] at h2; exact absurd h2 ((hB a h1).2.2.2 k)
    · by_cases hk : k = i
      · rw [if_neg hj] at h1; rw [if_pos hk] at h2; exact absurd h1 ((hB a h2).2.2.2 j)
      · rw [if_neg hj] at h1; rw [if_neg hk] at h2; exact s.dj j k a h1 h2
  pn := fun j a h => by
    have hj : i ≠ j := fun e => by subst e; rw [hp] at h; cases h
    rw [List.getElem?_set_ne hj]; exact s.pn j a h
/-- the object of a slot is changed -/
theorem StAt.change (s : StAt K E ρ σ H Hf A) {i : Nat} {d d' : D} {a : Addr} {o : HO} {B : List Addr} (hi : ρ[i]? = some (some (.ow d))) (hv : σ[i]? = some (some (.ref a))) (ha : a ∈ A i) (hB0 : B ≠ []) (hB : ∀ b ∈ B, b ∈ A i)
    (r : Own K Hf (upd H a o) d' (.ref a) B) : StAt K E (ρ.set i (some (.ow d'))) σ (upd H a o) Hf (fun j => if j = i then B else A j) where
  len := by rw [List.length_set]; exact s.len
  w0 := s.w0
  fh := fun b u h => by rw [upd_ne (ne_of_none h (s.ap i a ha).1)]; exact s.fh b u h
  fr := s.fr
  hh := fun b u h1 h2 => by
    have : b ≠ a := fun e => by
      subst e
      rcases (s.ap i b ha).2.2 with q | q
      · rw [h1] at q; cases q
      · exact h2 q.1
    rw [upd_ne this]; exact s.hh b u h1 h2
  kp := fun b h => by
    by_cases e : b = a
    · subst e; rw [upd_same] at h; cases h
    · rw [upd_ne e] at h; exact s.kp b h
  sl := fun j sv h => by
    by_cases hj : i = j
    · subst hj
      have hl : i < ρ.length := (List.getElem?_eq_some_iff.mp hi).1
      rw [List.getElem?_set_self hl] at h; cases h
      exact ⟨_, hv, by dsimp only; rw [if_pos rfl]; exact ⟨r, hB0⟩⟩
    · rw [List.getElem?_set_ne hj] at h
      rw [if_neg (fun z => hj z.symm)]
      obtain ⟨v, e1, e2⟩ := s.sl j sv h
      refine ⟨v, e1, ?_⟩
      cases sv with
      | fz d => exact e2
      | ow d => exact ⟨Own.move e2.1 (.refl _) fun b hb => upd_ne fun e => by subst e; exact hj (s.dj _ _ _ ha hb), e2.2⟩
  ap := fun j b hb => by
    have hu : upd H a o b ≠ none := by
      by_cases e : b = a
      · subst e; rw [upd_same]; simp
      · rw [upd_ne e]
        by_cases hj : j = i
        · rw [if_pos hj] at hb; exact (s.ap i b (hB b hb)).2.1
        · rw [if_neg hj] at hb; exact (s.ap j b hb).2.1
    by_cases hj : j = i
    · rw [if_pos hj] at hb
      obtain ⟨h1, _, h3⟩ := s.ap i b (hB b hb)
      exact ⟨h1, hu, by rw [hj]; exact h3⟩
    · rw [if_neg hj] at hb
      obtain ⟨h1, _, h3⟩ := s.ap j b hb
      exact ⟨h1, hu, h3⟩
  dj := fun j k b h1 h2 => by
    have g : ∀ j, b ∈ (if j = i then B else A j) → b ∈ A j := fun j h => by
      by_cases hj : j = i
      · rw [if_pos hj] at h; rw [hj]; exact hB b h
      · rw [if_neg hj] at h; exact h
    exact s.dj j k b (g j h1) (g k h2)
  pn := s.pn
end

/-- an error: its class, and what its own __init__ wrote -/
structure Er where
  cls : Value
  fs : Option (List (Str × D))
def ErAt (K : PySem.W.Frag) (H : Hp) (er : Er) (d : Option Addr) : Prop := match er.fs with
  | none => d = none
  | some fds => ∃ dd vs, d = some dd ∧ H dd = some (.xd vs) ∧ vs.map (·.1) = fds.map (·.1) ∧ RepAll K (fun _ => none) (fds.map (·.2)) (vs.map (·.2))
inductive Out where
  | nx (ρ : RhoS) | rt (d : D) (ρ : RhoS) | bk (ρ : RhoS) | ct (ρ : RhoS) | ex (er : Er) (ρ : RhoS)
def RtOk (K : PySem.W.Frag) (E : Ent) (d : D) (ρ : RhoS) (v : V) (H : Hp) : Prop := ∃ σ Hf A W', StAt K E ρ σ H Hf A ∧ Ex Hf W' ∧ Ex W' H ∧ Fr E.W0 W' E.H0 ∧ (∀ i a, a ∈ A i → E.pa i ≠ none → W' a = none) ∧ Rep K W' d v
/-- the error er is taken where the names are worth ρ (at H, ahead of the error's making) -/
def ExOk (X : Cx) (E : Ent) (er : Er) (ρ : RhoS) : Prop := ∃ W : L2.WX, L2.Takes X W ∧ ∀ d σ H H', StOk X.K E ρ σ H → Ex H H' → ErAt X.K H' er d → (∀ dd, d = some dd → H dd = none) → W er.cls d σ H'
def OutOk (X : Cx) (E : Ent) (D : Ends) : Out → Prop
  | .nx ρ => ∀ σ H, StOk X.K E ρ σ H → D.nx σ H
  | .rt d ρ => ∀ v H, RtOk X.K E d ρ v H → D.rt v H
  | .bk ρ => ∀ σ H, StOk X.K E ρ σ H → D.bk σ H
  | .ct ρ => ∀ σ H, StOk X.K E ρ σ H → D.ct σ H
  | .ex er ρ => ExOk X E er ρ
def Ent.Pins (E : Ent) (pin : List Nat) : Prop := ∀ i, E.pa i ≠ none ↔ i ∈ pin
structure JS (X : Cx) (pin : List Nat) (st : Stmt) (ρ : RhoS) (Φ : Out → Prop) : Prop where
  run : ∀ (E : Ent) σ H (D : Ends), E.Pins pin → StOk X.K E ρ σ H → (∀ o, Φ o → OutOk X E D o) → wS X st D σ H
instance {X : Cx} {pin : List Nat} {st : Stmt} {ρ : RhoS} {Φ : Out → Prop} : CoeFun (JS X pin st ρ Φ) (fun _ => ∀ (E : Ent) σ H (D : Ends), E.Pins pin → StOk X.K E ρ σ H → (∀ o, Φ o → OutOk X E D o) → wS X st D σ H) := ⟨JS.run⟩
structure JSs (X : Cx) (pin : List Nat) (sts : List Stmt) (ρ : RhoS) (Φ : Out → Prop) : Prop where
  run : ∀ (E : Ent) σ H (D : Ends), E.Pins pin → StOk X.K E ρ σ H → (∀ o, Φ o → OutOk X E D o) → wSs X sts D σ H
instance {X : Cx} {pin : List Nat} {sts : List Stmt} {ρ : RhoS} {Φ : Out → Prop} : CoeFun (JSs X pin sts ρ Φ) (fun _ => ∀ (E : Ent) σ H (D : Ends), E.Pins pin → StOk X.K E ρ σ H → (∀ o, Φ o → OutOk X E D o) → wSs X sts D σ H) := ⟨JSs.run⟩
/-- what must hold behind a statement for the rest -/
def thenSs (X : Cx) (pin : List Nat) (rest : List Stmt) (Φ : Out → Prop) : Out → Prop
  | .nx ρ => JSs X pin rest ρ Φ
  | .rt d ρ => Φ (.rt d ρ)
  | .bk ρ => Φ (.bk ρ)
  | .ct ρ => Φ (.ct ρ)
  | .ex er ρ => Φ (.ex er ρ)
section
variable {X : Cx} {pin : List Nat} {st : Stmt} {rest a b : List Stmt} {ρ : RhoS} {Φ : Out → Prop} {e c : Expr} {d : D} {pos p' : Pos} {i : Nat} {x : Str} {t : Bool}
theorem Ent.Pins.none {E : Ent} (h : E.Pins pin) (hi : i ∉ pin) : E.pa i = none := by
  cases q : E.pa i with
  | none => rfl
  | some a => exact absurd ((h i).mp (by rw [q]; simp)) hi
theorem jss_nil (h : Φ (.nx ρ)) : JSs X pin [] ρ Φ := ⟨fun E σ H D _ s k => .of pss_nil (k _ h σ H s)⟩
theorem jss_cons (h : JS X pin st ρ (thenSs X pin rest Φ)) : JSs X pin (st :: rest) ρ Φ := ⟨fun E σ H D hp s k =>
  .of (pss_cons ps_w pss_w) (h E σ H _ hp s fun o ho => by
    cases o with
    | nx ρ' => exact fun σ' H' s' => JSs.run (show JSs X pin rest ρ' Φ from ho) E σ' H' D hp s' k
    | rt d ρ' => exact k _ ho
    | bk ρ' => exact k _ ho
    | ct ρ' => exact k _ ho
    | ex er ρ' => exact k _ ho)⟩
theorem JS.imp {Ψ : Out → Prop} (h : JS X pin st ρ Ψ) (k : ∀ o, Ψ o → Φ o) : JS X pin st ρ Φ := ⟨fun E σ H D hp s q => h E σ H D hp s fun o ho => q o (k o ho)⟩
theorem JSs.imp {Ψ : Out → Prop} (h : JSs X pin rest ρ Ψ) (k : ∀ o, Ψ o → Φ o) : JSs X pin rest ρ Φ := ⟨fun E σ H D hp s q => h E σ H D hp s fun o ho => q o (k o ho)⟩
theorem js_break (h : Φ (.bk ρ)) : JS X pin (.Break pos) ρ Φ := ⟨fun E σ H D _ s k => .of ps_break (k _ h σ H s)⟩
theorem js_if (hc : JT X c (allR ρ) t) (h1 : t = true → JSs X pin a ρ Φ) (h2 : t = false → JSs X pin b ρ Φ) : JS X pin (.If c a b pos) ρ Φ := ⟨fun E σ H D hp ⟨Hf, A, s⟩ k =>
  .of (ps_if pt_w pss_w pss_w) (hc H σ H (.refl _) s.visH _ fun W' H' st => by
    have s' := s.grow st.hh
    cases t with
    | true => rw [if_pos rfl]; exact h1 rfl E σ H' D hp ⟨Hf, A, s'⟩ k
    | false => rw [if_neg Bool.false_ne_true]; exact h2 rfl E σ H' D hp ⟨Hf, A, s'⟩ k)⟩
/-- the branch is known -/
theorem js_ifT (hc : JT X c (allR ρ) true) (h1 : JSs X pin a ρ Φ) : JS X pin (.If c a b pos) ρ Φ := js_if hc (fun _ => h1) (fun z => Bool.noConfusion z)
theorem js_ifF (hc : JT X c (allR ρ) false) (h1 : JSs X pin b ρ Φ) : JS X pin (.If c a b pos) ρ Φ := js_if hc (fun z => Bool.noConfusion z) (fun _ => h1)
/-- flat data do not lean on the heap -/
theorem Rep.any {K : PySem.W.Frag} {H H' : Hp} {v : V} (r : Rep K H d v) (h : flatD d = true) : Rep K H' d v := by
  cases r with
  | non => exact .non
  | bl b => exact .bl b
  | int i => exact .int i
  | str x => exact .str x
  | _ => cases h
theorem js_set (h : J X e (fzR ρ) d) (hk : Φ (.nx (ρ.set i (some (.fz d))))) (hN : X.N.Nodup) (hi : X.N[i]? = some x := by rfl) (hx : Loc X.env.scope x := by first | exact Or.inl rfl | exact Or.inr rfl) (hp : i ∉ pin := by decide) (hs : swapsWith e (some (.Name x p')) pos.line X.env = pure false := by rfl)
    (hf : X.fn x = true ∨ X.env.scope.names.lookup x = some .local := by first | exact .inl rfl | exact .inr rfl) : JS X pin (.Assign [.Name x p'] e pos) ρ Φ := ⟨fun E σ H D hpn ⟨Hf, A, s⟩ k =>
  .of (ps_set hN hi hx pe_w hs hf) (h Hf σ H s.fh s.vis _ fun v W' H' st r => k _ hk _ H' ⟨W', _, (s.step st).setFz r (hpn.none hp)⟩)⟩
theorem js_setS (h : J X e (allR ρ) d) (hd : flatD d = true) (hk : Φ (.nx (ρ.set i (some (.fz d))))) (hN : X.N.Nodup) (hi : X.N[i]? = some x := by rfl) (hx : Loc X.env.scope x := by first | exact Or.inl rfl | exact Or.inr rfl) (hp : i ∉ pin := by decide) (hs : swapsWith e (some (.Name x p')) pos.line X.env = pure false := by rfl)
    (hf : X.fn x = true ∨ X.env.scope.names.lookup x = some .local := by first | exact .inl rfl | exact .inr rfl) : JS X pin (.Assign [.Name x p'] e pos) ρ Φ := ⟨fun E σ H D hpn ⟨Hf, A, s⟩ k =>
  .of (ps_set hN hi hx pe_w hs hf) (h H σ H (.refl _) s.visH _ fun v W' H' st r => k _ hk _ H' ⟨Hf, _, (s.grow st.hh).setFz (r.any hd) (hpn.none hp)⟩)⟩
/-- the heap that a value handed back stands in: all that is new, but for what the own arguments hold -/
noncomputable def retW (E : Ent) (Hf H : Hp) (A : Nat → List Addr) : Hp := fun b =>
  haveI := Classical.propDecidable (∃ i, b ∈ A i ∧ E.pa i ≠ none)
  if ∃ i, b ∈ A i ∧ E.pa i ≠ none then none else match E.H0 b with
  | none => H b
  | some _ => Hf b
/-- own arguments hidden -/
def retR (pin : List Nat) (ρ : RhoS) : Rho := ρ.mapIdx fun i o => if i ∈ pin then o.bind SV.fzD else o.map SV.d
theorem retR_nil (ρ : RhoS) : retR [] ρ = allR ρ := by
  unfold retR allR
  apply List.ext_getElem?
  intro i
  rw [List.getElem?_mapIdx, List.getElem?_map]
  simp
section
variable {E : Ent} {σ : L2.St} {H Hf : Hp} {A : Nat → List Addr}
theorem retW_arg {b : Addr} (h : ∃ i, b ∈ A i ∧ E.pa i ≠ none) : retW E Hf H A b = none := by unfold retW; rw [if_pos h]
theorem retW_new {b : Addr} (hn : ¬ ∃ i, b ∈ A i ∧ E.pa i ≠ none) (h : E.H0 b = none) : retW E Hf H A b = H b := by unfold retW; rw [if_neg hn, h]
theorem retW_old {b : Addr} (hn : ¬ ∃ i, b ∈ A i ∧ E.pa i ≠ none) (h : E.H0 b ≠ none) : retW E Hf H A b = Hf b := by
  unfold retW
  rw [if_neg hn]
  cases q : E.H0 b with
  | none => exact absurd q h
  | some o => rfl
theorem StAt.retHf (s : StAt X.K E ρ σ H Hf A) : Ex Hf (retW E Hf H A) := fun b o h => by
  have hn : ¬ ∃ i, b ∈ A i ∧ E.pa i ≠ none := fun ⟨i, h1, _⟩ => by
    have := (s.ap i b h1).1
    rw [h] at this; cases this
  by_cases q : E.H0 b = none
  · rw [retW_new hn q]; exact s.fh b o h
  · rw [retW_old hn q]; exact h
theorem StAt.retH (s : StAt X.K E ρ σ H Hf A) : Ex (retW E Hf H A) H := fun b o h => by
  by_cases hn : ∃ i, b ∈ A i ∧ E.pa i ≠ none
  · rw [retW_arg hn] at h; cases h
  · by_cases q : E.H0 b = none
    · rw [retW_new hn q] at h; exact h
    · rw [retW_old hn q] at h; exact s.fh b o h
theorem StAt.visR (hp : E.Pins pin) (s : StAt X.K E ρ σ H Hf A) : Vis X.K (retR pin ρ) (retW E Hf H A) σ := by
  refine ⟨by unfold retR; rw [List.length_mapIdx]; exact s.len, fun i d h => ?_⟩
  unfold retR at h
  rw [List.getElem?_mapIdx] at h
  cases e : ρ[i]? with
  | none => rw [e] at h; cases h
  | some o =>
    rw [e] at h
    cases o with
    | none => simp at h
    | some sv =>
      obtain ⟨v, q1, q2⟩ := s.sl i sv e
      refine ⟨v, q1, ?_⟩
      cases sv with
      | fz d' =>
        have : d' = d := by simpa [SV.fzD, SV.d] using h
        subst this
        exact Rep.mono s.retHf q2
      | ow d' =>
        by_cases hi : i ∈ pin
        · simp [hi, SV.fzD] at h
        · have : d' = d := by simpa [hi, SV.d] using h
          subst this
          refine Own.rep q2.1 s.retHf fun a ha => ?_
          have hn : ¬ ∃ j, a ∈ A j ∧ E.pa j ≠ none := fun ⟨j, h1, h2⟩ => by
            have := s.dj i j a ha h1
            subst this
            exact hi ((hp i).mp h2)
          rcases (s.ap i a ha).2.2 with q | q
          · exact retW_new hn q
          · exact absurd ⟨i, ha, q.2⟩ hn
end
theorem js_retR (h : J X e (retR pin ρ) d) (hk : Φ (.rt d ρ)) : JS X pin (.Return (some e) pos) ρ Φ := ⟨fun E σ H D hp ⟨Hf, A, s⟩ k =>
  .of (ps_ret pe_w) (h (retW E Hf H A) σ H s.retH (s.visR hp) _ fun v W' H' st r => k _ hk v H' ⟨σ, Hf, A, W', s.grow st.hh, s.retHf.trans st.ww, st.wh, fun b h1 h2 => by
      by_cases q : retW E Hf H A b = none
      · exact s.kp b (st.fr b h1 q)
      · by_cases hn : ∃ i, b ∈ A i ∧ E.pa i ≠ none
        · exact absurd (retW_arg hn) q
        · by_cases z : E.H0 b = none
          · exact z
          · rw [retW_old hn z] at q; exact s.fr b q h2, fun i a ha hpa => by
      cases q : W' a with
      | none => rfl
      | some o => exact absurd (st.fr a (by rw [q]; simp) (retW_arg ⟨i, ha, hpa⟩)) (s.ap i a ha).2.1, r⟩)⟩
theorem js_ret (h : J X e (allR ρ) d) (hk : Φ (.rt d ρ)) : JS X [] (.Return (some e) pos) ρ Φ := js_retR (by rw [retR_nil]; exact h) hk
theorem js_retN (hk : Φ (.rt .non ρ)) : JS X pin (.Return none pos) ρ Φ := ⟨fun E σ H D hp ⟨Hf, A, s⟩ k =>
  .of ps_retN (k _ hk .non H ⟨σ, Hf, A, Hf, s, .refl _, s.fh, s.fr, fun i a ha _ => (s.ap i a ha).1, .non⟩)⟩
end
end Pf

namespace Pf
open PySem PyProof.Rows L2
open Evl (Ex)

section
variable {X : Cx} {pin : List Nat} {st : Stmt} {rest a b body : List Stmt} {ρ : RhoS} {Φ : Out → Prop} {e c tg iter : Expr} {es : List Expr} {d : D} {ds : List D} {pos p p' p1 p2 p3 : Pos} {i : Nat} {x : Str} {t : Bool}
  {K : PySem.W.Frag} {E : Ent} {σ : L2.St} {H Hf : Hp} {A : Nat → List Addr}
structure JN (X : Cx) (e : Expr) (ρ : Rho) (ds : List D) : Prop where
  run : ∀ W σ H, Ex W H → Vis X.K ρ W σ → ∀ Q : VK, (∀ (a : Addr) (W' H' : Hp) (vs : List V), Step W H W' H' → H a = none → W' a = none → H' a = some (.lst vs) → RepAll X.K W' ds vs → Q (.ref a) H') → wE X e σ H Q
instance {X : Cx} {e : Expr} {ρ : Rho} {ds : List D} : CoeFun (JN X e ρ ds) (fun _ => ∀ W σ H, Ex W H → Vis X.K ρ W σ → ∀ Q : VK, (∀ (a : Addr) (W' H' : Hp) (vs : List V), Step W H W' H' → H a = none → W' a = none → H' a = some (.lst vs) → RepAll X.K W' ds vs → Q (.ref a) H') → wE X e σ H Q) := ⟨JN.run⟩
theorem jn_lst {ρ : Rho} (h : JA X es ρ ds) (hl : ds.length ≤ sizeLine := by (simp only [List.length_cons, List.length_nil]; decide)) : JN X (.List es pos) ρ ds := ⟨fun W σ H ex hV Q g =>
  .of (pe_lst pa_w) (h W σ H ex hV _ fun vs W1 H1 s1 r1 => ⟨by rw [← r1.length]; exact hl, fun q hq =>
    g q W1 _ vs (s1.trans (.newH s1.wh hq)) (Evl.fresh_back s1.hh hq) (Evl.fresh_back s1.wh hq) upd_same r1⟩)⟩
theorem jn_listL {ρ : Rho} {n : Str} (hm : X.mg n = none) (hv : bootBuiltins n = some (.type "list")) (h : J X e ρ (.lst ds)) (hg : Gl X n := by rfl) (hn : n ≠ "__name__" := by decide) (hdb : (n == ("__debug__" : Str)) = false := by decide)
    (he : starEach [e] X.env = (false, eval e X.env) :: starEach [] X.env := by rfl) (hpl : (backTo pos (starEach [] X.env)).any (·.1) = false := by rfl) : JN X (.Call (.Name n p) [e] [] pos) ρ ds := ⟨fun W σ H ex hV Q g =>
  .of (pe_callTy call_list_of hg hm hv pa_w hn hdb he hpl) (ja_cons h ja_nil he W σ H ex hV _ fun vs W1 H1 s1 r1 => by
    cases r1 with
    | cons r t =>
      cases t
      cases r with
      | lst h1 k => exact ⟨_, _, rfl, .inl (SqL.of (s1.wh _ _ h1)), fun q hq => g q W1 _ _ (s1.trans (.newH s1.wh hq)) (Evl.fresh_back s1.hh hq) (Evl.fresh_back s1.wh hq) upd_same k⟩)⟩
theorem jn_slL {ρ : Rho} {lo hi : Option Expr} {o1 o2 : Option Int} {pq pos : Pos} (ha : J X e ρ (.lst ds)) (h1 : JO X lo ρ o1) (h2 : JO X hi ρ o2) : JN X (.Subscript e (.Slice lo hi none pq) pos) ρ (cut ds o1 o2) := ⟨fun W σ H ex hV Q g =>
  .of (pe_slice sl_list pe_w po_w po_w) (ha W σ H ex hV _ fun v W1 H1 s1 r1 => h1.run s1.wh (hV.mono s1.ww) fun W2 H2 s2 => h2.run s2.wh (hV.mono (s1.trans s2).ww) fun W3 H3 s3 => by
    cases r1 with
    | lst k1 k2 =>
      have s4 := (s1.trans s2).trans s3
      refine ⟨_, _, rfl, SqL.of ((s2.trans s3).hh _ _ (s1.wh _ _ k1)), fun q hq => ?_⟩
      exact g q W3 _ _ (s4.trans (.newH s4.wh hq)) (Evl.fresh_back s4.hh hq) (Evl.fresh_back s4.wh hq) upd_same ((k2.mono (s2.trans s3).ww).cut _ _))⟩
theorem Own.newL {W : Hp} {a : Addr} {vs : List V} (h : H a = some (.lst vs)) (r : RepAll K W ds vs) (n : NoM ds) : Own K W H (.lst ds) (.ref a) [a] := .lst h (.fz r n) (by simp)
theorem StAt.newL (s : StAt K E ρ σ H Hf A) {W' H' : Hp} {a : Addr} {vs : List V} (st : Step Hf H W' H') (h1 : H a = none) (h2 : W' a = none) (h3 : H' a = some (.lst vs)) (r : RepAll K W' ds vs) (hp : E.pa i = none) (n : NoM ds) :
    StOk K E (ρ.set i (some (.ow (.lst ds)))) (σ.set i (some (.ref a))) H' :=
  ⟨W', _, (s.step st).setOw (.newL h3 r n) (by simp) hp fun b hb => by
    have e : b = a := by simpa using hb
    subst e
    exact ⟨h2, by rw [h3]; simp, s.kp b h1, fun j hj => (s.ap j b hj).2.1 h1⟩⟩
theorem js_setN (h : JN X e (fzR ρ) ds) (hk : Φ (.nx (ρ.set i (some (.ow (.lst ds)))))) (hN : X.N.Nodup) (hM : NoM ds := by (repeat (first | exact NoM.nil | exact NoM.map fun _ => rfl | exact NoM.fm fun _ => rfl | refine NoM.cons rfl ?_ | refine NoM.app ?_ ?_))) (hi : X.N[i]? = some x := by rfl) (hx : Loc X.env.scope x := by first | exact Or.inl rfl | exact Or.inr rfl) (hp : i ∉ pin := by decide) (hs : swapsWith e (some (.Name x p')) pos.line X.env = pure false := by rfl)
    (hf : X.fn x = true ∨ X.env.scope.names.lookup x = some .local := by first | exact .inl rfl | exact .inr rfl) : JS X pin (.Assign [.Name x p'] e pos) ρ Φ := ⟨fun E σ H D hpn ⟨Hf, A, s⟩ k =>
  .of (ps_set hN hi hx pe_w hs hf) (h Hf σ H s.fh s.vis _ fun a W' H' vs st h1 h2 h3 r => k _ hk _ H' (s.newL st h1 h2 h3 r (hpn.none hp) hM))⟩
/-- a comprehension stored to a plain local name: the value frozen, or the slot's own -/
theorem js_setLc {elt : Expr} {ifs : List Expr} {scope : Scope} {own : List (Str × Nat)} {pat : Pat} {its : List (D × Option D)} {lpos : Pos} (hi' : JI X tg iter (fzR ρ) (its.map (·.1))) (ok : BlkOk X.N X.env.scope scope own) (hg : ∀ s H C cl fp, PG (blkX X scope s H C cl fp) tg (pat.g X.K)) (hown : ∀ i ∈ pat.slots, i ∈ own.map (·.2)) (hlen : its.length < sizeLine)
    (turn : ∀ q ∈ its, LcTurn X scope pat elt ifs (wipeR (fzR ρ) (own.map (·.2))) q.1 q.2) (hk : Φ (.nx (ρ.set i (some (.fz (.lst (its.filterMap (·.2)))))))) (hN : X.N.Nodup) (hsw : swapsWith (.ListComp elt [⟨tg, iter, ifs, 0⟩] scope lpos) (some (.Name x p')) pos.line X.env = pure true)
    (hi : X.N[i]? = some x := by rfl) (hx : X.env.scope.names.lookup x = some .local := by rfl) (hp : i ∉ pin := by decide) (hc : X.calm = true := by rfl) (hs : ∀ x, foldedSetIterable iter X.env x = pure x := by intro _; rfl) :
    JS X pin (.Assign [.Name x p'] (.ListComp elt [⟨tg, iter, ifs, 0⟩] scope lpos) pos) ρ Φ := ⟨fun E σ H D hpn ⟨Hf, A, s⟩ k =>
  .of (ps_setLc (tt := fun σ H Q => ∀ s H0 C cl fp, wTs (blkX X scope s H0 C cl fp) ifs σ H Q) (te := fun σ H Q => ∀ s H0 C cl fp, wE (blkX X scope s H0 C cl fp) elt σ H Q) hc hN hi hx hsw pi_w ok hg
    (fun s H0 C cl fp => ⟨fun pins s' σ' H' Q' I h => h s H0 C cl fp pins s' I⟩) (fun s H0 C cl fp => ⟨fun pins s' σ' H' Q' I h => h s H0 C cl fp pins s' I⟩) hs)
    (lc_read hi' hown hlen turn s.fh s.vis fun Dn W' H' vs st hD hW hH rv => k _ hk _ H' ⟨_, _, (s.step (st.show' hD hW hH)).setFz (.lst upd_same (rv.mono fun a u h => by rw [upd_ne (ne_of_none h hW)]; exact h)) (hpn.none hp)⟩)⟩

theorem js_setLcN {α : Type} {j : Nat} {elt : Expr} {ifs : List Expr} {scope : Scope} {own : List (Str × Nat)} {lpos : Pos} (xs : List α) (g : α → D) (q : α → Bool) (h : α → D) (hi' : JI X tg iter (fzR ρ) (xs.map g)) (ok : BlkOk X.N X.env.scope scope own) (hg : ∀ s H C cl fp, PG (blkX X scope s H C cl fp) tg (gName j)) (hlen : xs.length < sizeLine)
    (turn : ∀ x ∈ xs, ∀ s H C cl fp, JTs (blkX X scope s H C cl fp) ifs ((wipeR (fzR ρ) (own.map (·.2))).set j (some (g x))) (q x) ∧ (q x = true → J (blkX X scope s H C cl fp) elt ((wipeR (fzR ρ) (own.map (·.2))).set j (some (g x))) (h x))) (hk : Φ (.nx (ρ.set i (some (.fz (.lst ((xs.filter q).map h))))))) (hN : X.N.Nodup) (hsw : swapsWith (.ListComp elt [⟨tg, iter, ifs, 0⟩] scope lpos) (some (.Name x p')) pos.line X.env = pure true)
    (hown : j ∈ own.map (·.2) := by decide) (hi : X.N[i]? = some x := by rfl) (hx : X.env.scope.names.lookup x = some .local := by rfl) (hp : i ∉ pin := by decide) (hc : X.calm = true := by rfl) (hs : ∀ x, foldedSetIterable iter X.env x = pure x := by intro _; rfl) :
    JS X pin (.Assign [.Name x p'] (.ListComp elt [⟨tg, iter, ifs, 0⟩] scope lpos) pos) ρ Φ :=
  js_setLc (pat := .nm j) (its := xs.map fun x => (g x, if q x = true then some (h x) else none)) (by rw [List.map_map]; exact hi') ok hg (fun k hk => (List.mem_singleton.mp hk : k = j) ▸ hown) (by rw [List.length_map]; exact hlen) (lcN_turn turn) (by rw [sel_filter]; exact hk) hN hsw hi hx hp hc hs
theorem OwnAll.snoc {vs : List V} {v : V} {B : List Addr} (h : OwnAll K Hf H ds vs B) (r : Rep K Hf d v) (n : insM d = false) : OwnAll K Hf H (ds ++ [d]) (vs ++ [v]) B := by
  have := h.append (OwnAll.fz (.cons r .nil) (.cons n .nil)) (fun _ _ => by simp)
  rwa [List.append_nil] at this
theorem OwnAll.move {vs : List V} {B : List Addr} {Hf' H' : Hp} (h : OwnAll K Hf H ds vs B) (e : Ex Hf Hf') (k : ∀ a ∈ B, H' a = H a) : OwnAll K Hf' H' ds vs B := by
  refine OwnAll.rec (motive_1 := fun d v A _ => Ex Hf Hf' → (∀ a ∈ A, H' a = H a) → Own K Hf' H' d v A) (motive_2 := fun ds vs A _ => Ex Hf Hf' → (∀ a ∈ A, H' a = H a) → OwnAll K Hf' H' ds vs A) (motive_3 := fun ds vs A _ => Ex Hf Hf' → (∀ a ∈ A, H' a = H a) → OwnFs K Hf' H' ds vs A) ?_ ?_ ?_ ?_ ?_ ?_ ?_ ?_ h e k
  · exact fun r e _ => .fz (r.mono e)
  · exact fun h1 _ n ih e k => .lst (by rw [k _ List.mem_cons_self]; exact h1) (ih e fun a ha => k a (List.mem_cons_of_mem _ ha)) n
  · exact fun h1 q _ n ih e k => .dct (by rw [k _ List.mem_cons_self]; exact h1) q (ih e fun a ha => k a (List.mem_cons_of_mem _ ha)) n
  · exact fun h1 q _ n ih e k => .ins (by rw [k _ List.mem_cons_self]; exact h1) q (ih e fun a ha => k a (List.mem_cons_of_mem _ ha)) n
  · exact fun _ _ => .nil
  · exact fun _ _ n w i1 i2 e k => .cons (i1 e fun a ha => k a (List.mem_append_left _ ha)) (i2 e fun a ha => k a (List.mem_append_right _ ha)) n w
  · exact fun _ _ => .nil
  · exact fun _ _ n w i1 i2 e k => .cons (i1 e fun a ha => k a (List.mem_append_left _ ha)) (i2 e fun a ha => k a (List.mem_append_right _ ha)) n w
theorem OwnFs.move {Hf' H' : Hp} : ∀ {ds : List D} {vs : List V} {B : List Addr}, OwnFs K Hf H ds vs B → Ex Hf Hf' → (∀ a ∈ B, H' a = H a) → OwnFs K Hf' H' ds vs B
  | _, _, _, .nil, _, _ => .nil
  | _, _, _, .cons a b n w, e, k => .cons (a.move e fun x hx => k x (List.mem_append_left _ hx)) (OwnFs.move b e fun x hx => k x (List.mem_append_right _ hx)) n w
theorem js_append (hi : ρ[i]? = some (some (.ow (.lst ds)))) (h : J X e (fzR ρ) d) (hl : ds.length < sizeLine) (hk : Φ (.nx (ρ.set i (some (.ow (.lst (ds ++ [d]))))))) (hM : insM d = false := by rfl) (hN : X.N[i]? = some x := by rfl) (hv : L2.Vis X.env.scope x := by first | exact Or.inl rfl | exact Or.inr (Or.inl rfl))
    (hd : (x == ("__debug__" : Str)) = false := by decide) (hcd : (x == ("__classdict__" : Str)) = false := by decide) (hst : starEach [e] X.env = (false, eval e X.env) :: starEach [] X.env := by rfl)
    (hfew : ((backTo p3 (starEach [e] X.env)).all (fun x => !x.1) && (backToKw p3 (keywordEach [] X.env)).all (fun x => x.1.isSome) && decide ([e].length + ([] : List Keyword).length + (if ([] : List Keyword).isEmpty then 0 else 1) < 30)) = true := by rfl)
    (hline : (p2.endLine == p3.line) = true := by rfl)
    (hs : swapsWith (.Call (.Attribute (.Name x p1) "append" p2) [e] [] p3) none pos.line X.env = pure false := by rfl) : JS X pin (.Expr (.Call (.Attribute (.Name x p1) "append" p2) [e] [] p3) pos) ρ Φ := ⟨fun E σ H D hpn ⟨Hf, A, s⟩ k => by
  refine .of (ps_expr (pe_bm PySem.F.plainAttrs_list PySem.F.slot_list_append PySem.F.type_list_append mt_append (pe_var hN hv hd hcd) (pa_cons pe_w pa_nil hst) rfl hfew hline hst) hs) ?_
  obtain ⟨v, hσ, ow, ne⟩ := s.sl i _ hi
  generalize hA : A i = Ai at ow ne
  cases ow with
  | fz _ => exact absurd rfl ne
  | @lst l vs _ B hl1 ha nB =>
    refine ⟨_, hσ, .inl ⟨rfl, _, SqL.of hl1⟩, ?_⟩
    refine h Hf σ H s.fh s.vis _ fun y W' H' st r => ?_
    have s' := s.step st
    have hl2 := st.hh _ _ hl1
    refine ⟨l, vs, y, rfl, rfl, hl2, by rw [← ha.length]; exact hl, ?_⟩
    have hm : l ∈ A i := by rw [hA]; exact List.mem_cons_self
    have k1 : ∀ a ∈ B, upd H' l (.lst (vs ++ [y])) a = H a := fun a haB => by
      rw [upd_ne (fun z => by subst z; exact nB haB)]
      have := (s.ap i a (by rw [hA]; exact List.mem_cons_of_mem _ haB)).2.1
      cases q : H a with
      | none => exact absurd q this
      | some o => exact st.hh _ _ q
    exact k _ hk _ _ ⟨W', _, s'.change (B := l :: B) hi hσ hm (by simp) (fun b hb => by rw [hA]; exact hb) (.lst upd_same ((ha.move st.ww k1).snoc r hM) nB)⟩⟩

def Pat.setS : Pat → D → RhoS → Option RhoS
  | .nm i, d, ρ => some (ρ.set i (some (.fz d)))
  | .tp is, .tup ds, ρ => if ds.length = is.length then some (setAll ρ is (ds.map SV.fz)) else none
  | .tp _, _, _ => none
  | .tn ps, .tup ds, ρ => setC SV.fz ps ds ρ
  | .tn _, _, _ => none
theorem setAllFz {i : Nat} : ∀ (is : List Nat) {ds : List D} {vs : List V} {ρ : RhoS} {σ : L2.St} {A : Nat → List Addr}, StAt K E ρ σ H Hf A → RepAll K Hf ds vs → ds.length = is.length → (∀ i ∈ is, E.pa i = none) → ∃ A', StAt K E (setAll ρ is (ds.map SV.fz)) (setAll σ is vs) H Hf A'
  | [], _, _, _, _, _, s, .nil, _, _ => ⟨_, s⟩
  | i :: is, _, _, _, _, _, s, .cons r t, e, hp => setAllFz (i := i) is (s.setFz r (hp i List.mem_cons_self)) t (by simpa using e) fun j hj => hp j (List.mem_cons_of_mem _ hj)
  | [], _, _, _, _, _, _, .cons _ _, e, _ => by simp at e
  | _ :: _, _, _, _, _, _, _, .nil, e, _ => by simp at e
theorem gComps_runS : ∀ (ps : List (Nat ⊕ List Nat)) {ds : List D} {vs : List V} {ρ ρ' : RhoS} {σ : L2.St} {A : Nat → List Addr} {Q : L2.St → Hp → Prop}, StAt K E ρ σ H Hf A → RepAll K Hf ds vs → setC SV.fz ps ds ρ = some ρ' → (∀ i ∈ slotsC ps, E.pa i = none) →
    (∀ σ' A', StAt K E ρ' σ' H Hf A' → Q σ' H) → gComps K ps vs σ H Q
  | [], _, _, ρ, ρ', σ, A, Q, s, .nil, hs, hp, q => by cases hs; exact ⟨rfl, q σ A s⟩
  | [], _, _, ρ, ρ', σ, A, Q, s, .cons _ _, hs, hp, q => by cases hs
  | .inl i :: ps, _, _, ρ, ρ', σ, A, Q, s, .nil, hs, hp, q => by cases hs
  | .inr is :: ps, _, _, ρ, ρ', σ, A, Q, s, .nil, hs, hp, q => by cases hs
  | .inl i :: ps, _, v :: vs, ρ, ρ', σ, A, Q, s, .cons r t, hs, hp, q => ⟨v, vs, rfl, gComps_runS ps (s.setFz r (hp i (List.mem_cons_self))) t hs (fun j hj => hp j (List.mem_cons_of_mem _ hj)) q⟩
  | .inr is :: ps, d :: ds, v :: vs, ρ, ρ', σ, A, Q, s, .cons r t, hs, hp, q => by
    cases r with
    | @tup a us es h1 k =>
      simp only [setC] at hs
      split at hs
      · rename_i hl
        obtain ⟨A', s'⟩ := setAllFz (i := 0) is s k hl fun j hj => hp j (List.mem_append_left _ hj)
        exact ⟨_, vs, rfl, a, us, rfl, Evl.ex_t s.fh h1, by rw [← k.length]; exact hl, gNames_run is (by rw [← k.length]; exact hl) (gComps_runS ps s' t hs (fun j hj => hp j (List.mem_append_right _ hj)) q)⟩
      · cases hs
    | _ => cases hs
theorem setC_len {α : Type} {f : D → α} : ∀ (ps : List (Nat ⊕ List Nat)) {ds : List D} {ρ ρ' : List (Option α)}, setC f ps ds ρ = some ρ' → ds.length = ps.length
  | [], [], _, _, _ => rfl
  | [], _ :: _, _, _, h => by cases h
  | .inl _ :: _, [], _, _, h => by cases h
  | .inr _ :: _, [], _, _, h => by cases h
  | .inl i :: ps, d :: ds, ρ, ρ', h => congrArg (· + 1) (setC_len ps (ds := ds) h)
  | .inr is :: ps, d :: ds, ρ, ρ', h => by
    cases d <;> simp only [setC] at h <;> first | cases h | skip
    split at h
    · exact congrArg (· + 1) (setC_len ps (ds := ds) h)
    · cases h
theorem Pat.runS {pat : Pat} {ρ' : RhoS} {v : V} (s : StAt K E ρ σ H Hf A) (r : Rep K Hf d v) (hs : pat.setS d ρ = some ρ') (hp : ∀ i ∈ pat.slots, E.pa i = none) {Q : L2.St → Hp → Prop} (q : ∀ σ' A', StAt K E ρ' σ' H Hf A' → Q σ' H) : pat.g K v σ H Q := by
  cases pat with
  | nm i => cases hs; exact q _ _ (s.setFz r (hp i (List.mem_singleton.mpr rfl)))
  | tp is =>
    cases r with
    | tup h1 k =>
      simp only [Pat.setS] at hs
      split at hs
      · rename_i hl
        cases hs
        obtain ⟨A', s'⟩ := setAllFz (i := 0) is s k hl hp
        exact ⟨_, _, rfl, Evl.ex_t s.fh h1, by rw [← k.length]; exact hl, gNames_run is (by rw [← k.length]; exact hl) (q _ _ s')⟩
      · cases hs
    | _ => cases hs
  | tn ps =>
    cases r with
    | tup h1 k => exact ⟨_, _, rfl, Evl.ex_t s.fh h1, by rw [← k.length]; exact setC_len ps hs, gComps_runS ps s k hs hp q⟩
    | _ => cases hs
/-- a, b = e -/
theorem js_pat {pat : Pat} {ρ' : RhoS} (h : J X e (fzR ρ) d) (hset : pat.setS d ρ = some ρ') (hk : Φ (.nx ρ')) (hg : PG X tg (pat.g X.K)) (hp : ∀ i ∈ pat.slots, i ∉ pin := by decide) (hs : swapsWithSole [tg] e pos.line X.env = pure false := by rfl) (hw : swappedStores [tg] e X.env = pure none := by rfl)
    (h1 : (assignEach [tg] X.env).map (·.2) = [assign tg X.env] := by rfl) : JS X pin (.Assign [tg] e pos) ρ Φ := ⟨fun E σ H D hpn ⟨Hf, A, s⟩ k =>
  .of (ps_asg pe_w hg hs hw h1) (h Hf σ H s.fh s.vis _ fun v W' H' st r => Pat.runS (s.step st) r hset (fun i hi => hpn.none (hp i hi)) fun σ' A' s' => k _ hk σ' H' ⟨W', A', s'⟩)⟩

structure JP (X : Cx) (e : Expr) (ρ : Rho) (P : D → Prop) : Prop where
  run : ∀ W σ H, Ex W H → Vis X.K ρ W σ → ∀ Q : VK, (∀ d, P d → GoodE X.K W H d Q) → wE X e σ H Q
instance {X : Cx} {e : Expr} {ρ : Rho} {P : D → Prop} : CoeFun (JP X e ρ P) (fun _ => ∀ W σ H, Ex W H → Vis X.K ρ W σ → ∀ Q : VK, (∀ d, P d → GoodE X.K W H d Q) → wE X e σ H Q) := ⟨JP.run⟩
theorem jp_call {ρ : Rho} {k j n : Nat} {G : List D → (D → Prop) → Prop} {P : D → Prop} (c : PFn X.prog X.w X.K X.mg X.base k x n G) (hr : Room j X.A) (ha : JA X (e :: es) ρ ds) (hG : G ds P) (hk : k ≤ j := by decide) (hn : ds.length = n := by rfl) (hg : Gl X x := by rfl) (hdb : (x == ("__debug__" : Str)) = false := by decide)
    (he : starEach (e :: es) X.env = (false, eval e X.env) :: starEach es X.env := by rfl) (hpl : (backTo pos (starEach es X.env)).any (·.1) = false := by rfl) : JP X (.Call (.Name x p) (e :: es) [] pos) ρ P := ⟨fun W σ H ex hV Q g => by
  obtain ⟨f, fd, ps, F, hm, hkp, hb⟩ := c.ex
  refine .of (pe_call (F.mono hk) hr hg hm hkp hb .nil pass0 pa_w hdb he hpl) (ha W σ H ex hV _ fun vs W1 H1 s1 r1 => ?_)
  rw [List.append_nil]
  exact ⟨by rw [← r1.length]; exact hn, W1, ds, P, s1.wh, r1, hG, fun d' hd => (g d' hd).step s1⟩⟩
theorem js_setP {P : D → Prop} (h : JP X e (fzR ρ) P) (hk : ∀ d, P d → Φ (.nx (ρ.set i (some (.fz d))))) (hN : X.N.Nodup) (hi : X.N[i]? = some x := by rfl) (hx : Loc X.env.scope x := by first | exact Or.inl rfl | exact Or.inr rfl) (hp : i ∉ pin := by decide) (hs : swapsWith e (some (.Name x p')) pos.line X.env = pure false := by rfl)
    (hf : X.fn x = true ∨ X.env.scope.names.lookup x = some .local := by first | exact .inl rfl | exact .inr rfl) : JS X pin (.Assign [.Name x p'] e pos) ρ Φ := ⟨fun E σ H D hpn ⟨Hf, A, s⟩ k =>
  .of (ps_set hN hi hx pe_w hs hf) (h Hf σ H s.fh s.vis _ fun d hd v W' H' st r => k _ (hk d hd) _ H' ⟨W', _, (s.step st).setFz r (hpn.none hp)⟩)⟩
theorem StAt.base {W1 : Hp} (s : StAt K { E with W0 := W1 } ρ σ H Hf A) (e : Ex E.W0 W1) (f : Fr E.W0 W1 E.H0) : StAt K E ρ σ H Hf A :=
  ⟨s.len, e.trans s.w0, s.fh, fun b h1 h2 => by
    by_cases z : W1 b = none
    · exact s.fr b h1 z
    · exact f b z h2, s.hh, s.kp, s.sl, s.ap, s.dj, s.pn⟩
theorem StAt.rebase (s : StAt K E ρ σ H Hf A) : StAt K { E with W0 := Hf } ρ σ H Hf A :=
  ⟨s.len, .refl _, s.fh, fun b h1 h2 => absurd h2 h1, s.hh, s.kp, s.sl, s.ap, s.dj, s.pn⟩
theorem RtOk.base {W1 : Hp} {v : V} (s : RtOk K { E with W0 := W1 } d ρ v H) (e : Ex E.W0 W1) (f : Fr E.W0 W1 E.H0) : RtOk K E d ρ v H := by
  obtain ⟨σ, Hf, A, W', s, h1, h2, h3, h4, h5⟩ := s
  exact ⟨σ, Hf, A, W', s.base e f, h1, h2, fun b q1 q2 => by
    by_cases z : W1 b = none
    · exact h3 b q1 z
    · exact f b z q2, h4, h5⟩
/-- what a turn's outcome must be -/
def turnO (I : RhoS → Prop) (Φ : Out → Prop) : Out → Prop
  | .nx ρ => I ρ
  | .ct ρ => I ρ
  | .bk ρ => Φ (.nx ρ)
  | .rt d ρ => Φ (.rt d ρ)
  | .ex er ρ => Φ (.ex er ρ)
/-- what is walked, known by a property -/
structure JIP (X : Cx) (tg iter : Expr) (ρ : Rho) (Pd : List D → Prop) : Prop where
  run : ∀ W σ H, Ex W H → Vis X.K ρ W σ → ∀ R : It → Hp → Prop, (∀ ds, Pd ds → ∀ J W1 H1, Step W H W1 H1 → Walks X.K J W1 ds → R J H1) → wI X tg iter σ H R
instance {X : Cx} {tg iter : Expr} {ρ : Rho} {Pd : List D → Prop} : CoeFun (JIP X tg iter ρ Pd) (fun _ => ∀ W σ H, Ex W H → Vis X.K ρ W σ → ∀ R : It → Hp → Prop, (∀ ds, Pd ds → ∀ J W1 H1, Step W H W1 H1 → Walks X.K J W1 ds → R J H1) → wI X tg iter σ H R) := ⟨JIP.run⟩
theorem jip_of {ρ : Rho} (h : JI X tg iter ρ ds) : JIP X tg iter ρ (fun es => es = ds) := ⟨fun W σ H ex hV R g => h W σ H ex hV R (g ds rfl)⟩
theorem js_forP {pat : Pat} {Pd : List D → Prop} (I : List D → Nat → RhoS → Prop) (hi : JIP X tg iter (fzR ρ) Pd) (hg : PG X tg (pat.g X.K)) (h0 : ∀ ds, Pd ds → I ds 0 ρ)
    (turn : ∀ ds, Pd ds → ∀ k d ρ, ds[k]? = some d → I ds k ρ → ∃ ρ', pat.setS d ρ = some ρ' ∧ JSs X pin body ρ' (turnO (I ds (k + 1)) Φ)) (done : ∀ ds, Pd ds → ∀ ρ, I ds ds.length ρ → Φ (.nx ρ)) (hps : PassesOwn (model X.prog X.w) X.A X.env X.xe) (hp : ∀ i ∈ pat.slots, i ∉ pin := by decide) (hc : X.calm = true := by rfl) (hfs : ∀ x, foldedSetIterable iter X.env x = pure x := by intro _; rfl) :
    JS X pin (.For tg iter body [] pos) ρ Φ := ⟨fun E σ H D hpn ⟨Hf, A, s⟩ k => by
  refine .of (ps_for hps hc pi_w hg pss_w hfs) (hi Hf σ H s.fh s.vis _ fun ds hds Jt W1 H1 st wk => ?_)
  have s1 := s.step st
  have e1 : Ex E.W0 W1 := s1.w0
  have f1 : Fr E.W0 W1 E.H0 := s1.fr
  refine ⟨fun i m σ' H' => m = ds.length - i ∧ i ≤ ds.length ∧ ∃ ρ', I ds i ρ' ∧ StOk X.K { E with W0 := W1 } ρ' σ' H', ⟨_, rfl, Nat.zero_le _, ρ, h0 ds hds, _, _, s1.rebase⟩, ?_⟩
  rintro i m σ2 H2 ⟨rfl, hil, ρ2, hI, Hf2, A2, s2⟩
  by_cases hlt : i < ds.length
  · refine .inr ⟨wk.go i H2 (s2.w0.trans s2.fh) hlt, _, fun σ' H' z => ⟨_, (by omega : ds.length - (i + 1) < ds.length - i), rfl, hlt, z⟩, fun x H3 hy => ?_⟩
    obtain ⟨d, hd⟩ : ∃ d, ds[i]? = some d := ⟨ds[i], by simp [hlt]⟩
    obtain ⟨W3, st3, rx⟩ := wk.yld i H2 x H3 d (s2.w0.trans s2.fh) hd hy Hf2 s2.w0 s2.fh
    obtain ⟨ρ3, hset, hb⟩ := turn ds hds i d ρ2 hd hI
    refine Pat.runS (s2.step st3) rx hset (fun j hj => hpn.none (hp j hj)) fun σ4 A4 s4 => hb { E with W0 := W1 } σ4 H3 _ hpn ⟨W3, A4, s4⟩ fun o ho => ?_
    cases o with
    | nx ρ' => exact fun σ' H' s' => ⟨ρ', ho, s'⟩
    | ct ρ' => exact fun σ' H' s' => ⟨ρ', ho, s'⟩
    | bk ρ' => exact fun σ' H' ⟨Hf', A', s'⟩ => k _ ho σ' H' ⟨Hf', A', s'.base e1 f1⟩
    | rt d ρ' => exact fun v H' s' => k _ ho v H' (s'.base e1 f1)
    | ex er ρ' =>
      obtain ⟨Wx, tk, q⟩ := k _ ho
      exact ⟨Wx, tk, fun d σ' H' H2' ⟨Hf', A', s'⟩ => q d σ' H' H2' ⟨Hf', A', s'.base e1 f1⟩⟩
  · have e : i = ds.length := by omega
    subst e
    exact .inl ⟨wk.stop H2 (s2.w0.trans s2.fh), k _ (done ds hds _ hI) σ2 H2 ⟨Hf2, A2, s2.base e1 f1⟩⟩⟩
theorem js_for {pat : Pat} (I : Nat → RhoS → Prop) (hi : JI X tg iter (fzR ρ) ds) (hg : PG X tg (pat.g X.K)) (h0 : I 0 ρ)
    (turn : ∀ k d ρ, ds[k]? = some d → I k ρ → ∃ ρ', pat.setS d ρ = some ρ' ∧ JSs X pin body ρ' (turnO (I (k + 1)) Φ)) (done : ∀ ρ, I ds.length ρ → Φ (.nx ρ)) (hps : PassesOwn (model X.prog X.w) X.A X.env X.xe) (hp : ∀ i ∈ pat.slots, i ∉ pin := by decide) (hc : X.calm = true := by rfl) (hfs : ∀ x, foldedSetIterable iter X.env x = pure x := by intro _; rfl) :
    JS X pin (.For tg iter body [] pos) ρ Φ :=
  js_forP (fun _ k ρ => I k ρ) (jip_of hi) hg (fun _ _ => h0) (fun es e k d ρ hd => turn k d ρ (e ▸ hd)) (fun es e ρ h => done ρ (e ▸ h)) hps hp hc hfs
/-- a list that a call hands back, walked -/
theorem jip_call {ρ : Rho} {P : D → Prop} {Pd : List D → Prop} (h : JP X iter ρ P) (hP : ∀ d, P d → ∃ ds, d = .lst ds ∧ Pd ds) : JIP X tg iter ρ Pd := ⟨fun W σ H ex hV R g => .of (pi_list pe_w) (h W σ H ex hV _ fun d hd v W1 H1 s1 r1 => by
  obtain ⟨ds, rfl, hds⟩ := hP d hd
  cases r1 with
  | lst h1 k => exact ⟨_, rfl, ⟨_, SqL.of (s1.wh _ _ h1)⟩, g ds hds _ W1 H1 s1 (walks_list h1 k)⟩)⟩
theorem js_while (I : RhoS → Prop) (μ : RhoS → Nat) (h0 : I ρ)
    (turn : ∀ ρ, I ρ → ∃ t, JT X c (allR ρ) t ∧ (t = true → JSs X pin body ρ (turnO (fun ρ' => I ρ' ∧ μ ρ' < μ ρ) Φ)) ∧ (t = false → Φ (.nx ρ))) (hps : PassesOwn (model X.prog X.w) X.A X.env X.xe) :
    JS X pin (.While c body [] pos) ρ Φ := ⟨fun E σ H D hpn s0 k => by
  refine .of (ps_while hps pt_w pss_w) ⟨fun m σ' H' => ∃ ρ', m = μ ρ' ∧ I ρ' ∧ StOk X.K E ρ' σ' H', ⟨_, ρ, rfl, h0, s0⟩, ?_⟩
  rintro m σ2 H2 ⟨ρ2, rfl, hI, Hf2, A2, s2⟩
  obtain ⟨t, ht, h1, h2⟩ := turn ρ2 hI
  refine ht H2 σ2 H2 (.refl _) s2.visH _ fun W' H' st => ?_
  have s3 := s2.grow st.hh
  cases t with
  | false => rw [if_neg Bool.false_ne_true]; exact k _ (h2 rfl) σ2 H' ⟨Hf2, A2, s3⟩
  | true =>
    rw [if_pos rfl]
    refine ⟨_, fun σ' H' z => z, h1 rfl E σ2 H' _ hpn ⟨Hf2, A2, s3⟩ fun o ho => ?_⟩
    cases o with
    | nx ρ' => exact fun σ' H' s' => ⟨μ ρ', ho.2, ρ', rfl, ho.1, s'⟩
    | ct ρ' => exact fun σ' H' s' => ⟨μ ρ', ho.2, ρ', rfl, ho.1, s'⟩
    | bk ρ' => exact fun σ' H' s' => k _ ho σ' H' s'
    | rt d ρ' => exact fun v H' s' => k _ ho v H' s'
    | ex er ρ' => exact k _ ho⟩
theorem js_augAdd {m n : Int} (hi : ρ[i]? = some (some (.fz (.int m)))) (h : J X e (fzR ρ) (.int n)) (hk : Φ (.nx (ρ.set i (some (.fz (.int (m + n))))))) (hN : X.N.Nodup) (hx : X.N[i]? = some x := by rfl) (hl : Loc X.env.scope x := by first | exact Or.inl rfl | exact Or.inr rfl) (hp : i ∉ pin := by decide)
    (hf : X.fn x = true ∨ X.env.scope.names.lookup x = some .local := by first | exact .inl rfl | exact .inr rfl) : JS X pin (.AugAssign (.Name x p') .Add e pos) ρ Φ := ⟨fun E σ H D hpn ⟨Hf, A, s⟩ k => by
  obtain ⟨v, hσ, r⟩ := s.sl i _ hi
  cases r
  refine .of (ps_aug hN hx hl pe_w ip_add hf) ⟨_, hσ, h Hf σ H s.fh s.vis _ fun y W' H' st r => ?_⟩
  cases r
  exact ⟨m, n, rfl, rfl, k _ hk _ H' ⟨W', _, (s.step st).setFz (.int _) (hpn.none hp)⟩⟩⟩
end

def startR (N : List Str) (ds : List D) : RhoS := ds.map (fun d => some (.fz d)) ++ List.replicate (N.length - ds.length) none
theorem start_ok {K : PySem.W.Frag} {W H : Hp} {N : List Str} {ds : List D} {vs : List V} (ex : Ex W H) (r : RepAll K W ds vs) : StAt K ⟨W, H, fun _ => False, fun _ => none⟩ (startR N ds) (L2.start N vs) H W (fun _ => []) where
  len := by unfold startR L2.start; simp [r.length]
  w0 := .refl _
  fh := ex
  fr := fun b h1 h2 => absurd h2 h1
  hh := fun b o h _ => h
  kp := fun b h => h
  sl := fun i sv h => by
    unfold startR at h
    by_cases hi : i < ds.length
    · rw [List.getElem?_append_left (by simpa using hi), List.getElem?_map] at h
      cases e : ds[i]? with
      | none => rw [e] at h; cases h
      | some d =>
        rw [e] at h; cases h
        obtain ⟨v, h1, h2⟩ := r.get e
        refine ⟨v, ?_, h2⟩
        unfold L2.start
        rw [List.getElem?_append_left (by rw [List.length_map, ← r.length]; exact hi), List.getElem?_map, h1]
        rfl
    · rw [List.getElem?_append_right (by simpa using hi), List.getElem?_replicate] at h
      split at h <;> cases h
  ap := fun i a h => absurd h (by simp)
  dj := fun i j a h => absurd h (by simp)
  pn := fun i a h => by cases h
section
variable {P : Program} {w : World} {K : PySem.W.Frag} {mg : Str → Option Value} {base : Heap} {x qual : Str} {st : Stmt} {f : Addr} {fd : FuncData} {N ps : List Str} {k : Nat} {G : List D → (D → Prop) → Prop}
/-- the end of a def's body -/
def fin (Pd : D → Prop) : Out → Prop
  | .rt d _ => Pd d
  | .nx _ => Pd .non
  | _ => False
theorem fn_pure (F : Fun K x qual st f fd) (S : FnScope N ps (defScope st)) (hG : ∀ ds Pd, G ds Pd → ds.length = ps.length)
    (body : ∀ (cdv : Value) (A : Around) (outer : List Env) (s : Shared) (H : Hp) (E : XK) (ds : List D) (Pd : D → Prop), Room k (A.deeper (envOfC qual (defScope st) s.heap.objs.size f cdv)) → G ds Pd →
      JSs (cxOf CX0 P w K mg base N qual (defScope st) f cdv A outer s H E).nox [] (defBody st) (startR N ds) (fin Pd)) : FnOk P w K mg base CX0 (k + 1) f fd ps (spP K ps.length G) := by
  refine F.ok S (fun vs H Q E h => h.1) fun cdv A outer s H vs Q E hr h => ?_
  obtain ⟨_, W, ds, Pd, ex, r, hg, q⟩ := h
  refine ⟨_, pss_w, ?_⟩
  refine body cdv A outer s H E ds Pd hr hg ⟨W, H, fun _ => False, fun _ => none⟩ (L2.start N vs) H _ (fun i => ⟨fun z => absurd rfl z, fun z => absurd z (by simp)⟩) ⟨W, _, start_ok ex r⟩ fun o ho => ?_
  cases o with
  | nx ρ => exact fun σ' H' ⟨Hf, A', s'⟩ => q _ ho .non Hf H' ⟨s'.w0, s'.fh, fun b o h => s'.hh b o h (fun z => z), s'.fr⟩ .non
  | rt d ρ => exact fun v H' ⟨σ', Hf, A', W', s', h1, h2, h3, _, h5⟩ => q _ ho v W' H' ⟨s'.w0.trans h1, h2, fun b o h => s'.hh b o h (fun z => z), h3⟩ h5
  | bk ρ => exact ho.elim
  | ct ρ => exact ho.elim
  | ex er ρ => exact ho.elim
end
end Pf

namespace Pf
open PySem PyProof.Rows L2
open Evl (Ex)

theorem lookup_rep {K : PySem.W.Frag} {H : Hp} {f : Str} : ∀ {fds : List (Str × D)} {fs : List (Str × V)}, fs.map (·.1) = fds.map (·.1) → RepAll K H (fds.map (·.2)) (fs.map (·.2)) → ∀ {d : D}, fds.lookup f = some d → ∃ v, fs.lookup f = some v ∧ Rep K H d v
  | [], _, _, _, _, h => by cases h
  | (g, d') :: fds, [], hn, _, _, _ => by cases hn
  | (g, d') :: fds, (g', v') :: fs, hn, hr, d, h => by
    simp only [List.map_cons, List.cons.injEq] at hn
    obtain ⟨rfl, hn⟩ := hn
    cases hr with
    | cons r t =>
      rw [List.lookup_cons] at h ⊢
      by_cases e : (f == g') = true
      · rw [e] at h ⊢; cases h; exact ⟨v', rfl, r⟩
      · have e' : (f == g') = false := by simpa using e
        rw [e'] at h ⊢
        exact lookup_rep hn t h
theorem lookup_none {f : Str} : ∀ {fds : List (Str × D)} {fs : List (Str × V)}, fs.map (·.1) = fds.map (·.1) → fds.lookup f = none → fs.lookup f = none
  | [], [], _, _ => rfl
  | [], _ :: _, h, _ => by cases h
  | (g, d') :: fds, [], hn, _ => by cases hn
  | (g, d') :: fds, (g', v') :: fs, hn, h => by
    simp only [List.map_cons, List.cons.injEq] at hn
    obtain ⟨rfl, hn⟩ := hn
    rw [List.lookup_cons] at h ⊢
    by_cases e : (f == g') = true
    · rw [e] at h; cases h
    · have e' : (f == g') = false := by simpa using e
      rw [e'] at h ⊢
      exact lookup_none hn h
section
variable {X : Cx} {pin : List Nat} {e a o : Expr} {es : List Expr} {ρ : Rho} {d : D} {ds : List D} {C : Addr} {fds : List (Str × D)} {pos p apos : Pos} {f m : Str} {k j n i : Nat}
theorem j_fld (h : J X a ρ (.ins C fds)) (hf : fds.lookup f = some d) (c : Cls X.K C) (hn : NoAttr X.K C f) (hb : attributeBase a f X.env (eval a X.env) = eval a X.env := by rfl) : J X (.Attribute a f pos) ρ d := ⟨fun W σ H ex hV Q g =>
  .of (pe_fld pe_w hb) (h W σ H ex hV _ fun v W1 H1 s1 r1 => by
    cases r1 with
    | ins h1 h2 h3 =>
      obtain ⟨v, e1, e2⟩ := lookup_rep h2 h3 hf
      exact ⟨_, C, _, _, v, rfl, s1.wh _ _ h1, c, hn, e1, g _ W1 H1 s1 e2⟩)⟩
/-- a method that reads only -/
structure PMeth (P : Program) (w : World) (K : PySem.W.Frag) (mg : Str → Option Value) (base : Heap) (k : Nat) (C : Addr) (m : Str) (n : Nat) (G : List D → (D → Prop) → Prop) : Prop where
  ex : ∃ f fd ps, FnOk P w K mg base CX0 k f fd ps (spP K n G) ∧ Meth K C m f ∧ Binds K fd ps []
theorem j_meth {pl : Sem Bool} {G : List D → (D → Prop) → Prop} {P : D → Prop} (c : PMeth X.prog X.w X.K X.mg X.base k C m n G) (cl : Cls X.K C) (hr : Room j X.A) (h : J X o ρ (.ins C fds)) (hm : fds.lookup m = none) (ha : JA X (e :: es) ρ ds) (hG : G (.ins C fds :: ds) P) (hP : ∀ d', P d' → d' = d) (hk : k ≤ j := by decide) (hn : ds.length + 1 = n := by rfl)
    (hst : starEach (e :: es) X.env = (false, eval e X.env) :: starEach es X.env := by rfl) (hpl : (backTo pos (starEach es X.env)).any (·.1) = false := by rfl)
    (ht : eval (.Call (.Attribute o m apos) (e :: es) [] pos) X.env = (do
      let ov ← eval o X.env
      standAt apos.atName
      let (f, first) ← holding [ov] (getMethod ov m pl)
      callWith pos f first (backTo pos (starEach (e :: es) X.env)) (backToKw pos (keywordEach [] X.env))) := by rfl) : J X (.Call (.Attribute o m apos) (e :: es) [] pos) ρ d := ⟨fun W σ H ex hV Q g => by
  obtain ⟨f, fd, ps, F, hme, hb⟩ := c.ex
  refine .of (pe_meth pe_w cl hme (F.mono hk) hr hb .nil pass0 pa_w hst hpl ht) (h W σ H ex hV _ fun v W1 H1 s1 r1 => ?_)
  have r1' := r1
  cases r1 with
  | ins h1 h2 h3 =>
    refine ⟨_, _, _, rfl, s1.wh _ _ h1, lookup_none h2 hm, ?_⟩
    refine ha W1 σ H1 s1.wh (hV.mono s1.ww) _ fun vs W2 H2 s2 r2 => ?_
    rw [List.append_nil]
    exact ⟨by rw [List.length_cons, ← r2.length]; exact hn, W2, _, P, s2.wh, .cons (r1'.mono s2.ww) r2, hG, fun d' hd => by rw [hP d' hd]; exact g.step (s1.trans s2)⟩⟩
end

/-- behind the call -/
structure Aft (K : PySem.W.Frag) (W H : Hp) (A : List Addr) (a : Addr) (d' : D) (W' H' : Hp) (A' : List Addr) : Prop where
  ww : Ex W W'
  wh : Ex W' H'
  hh : ∀ b o, H b = some o → b ∉ A → H' b = some o
  kp : ∀ b, H' b = none → H b = none
  fr : Fr W W' H
  ow : Own K W' H' d' (.ref a) A'
  ne : A' ≠ []
  ap : ∀ b ∈ A', W' b = none ∧ H' b ≠ none ∧ (b ∈ A ∨ H b = none)
def spM (K : PySem.W.Frag) (n : Nat) (G : D → List D → (D → D → Prop) → Prop) : Sp := fun vs H Q _ => vs.length = n ∧ ∃ (a : Addr) (W : Hp) (d : D) (A : List Addr) (us : List V) (ds : List D) (P : D → D → Prop),
  vs = .ref a :: us ∧ Ex W H ∧ Own K W H d (.ref a) A ∧ A ≠ [] ∧ (∀ b ∈ A, W b = none ∧ H b ≠ none) ∧ RepAll K W ds us ∧ G d ds P ∧ ∀ r d', P r d' → ∀ v W' H' A', Aft K W H A a d' W' H' A' → Rep K W' r v → Q v H'
section
variable {P : Program} {w : World} {K : PySem.W.Frag} {mg : Str → Option Value} {base : Heap} {x qual : Str} {st : Stmt} {f : Addr} {fd : FuncData} {N ps : List Str} {k : Nat} {G : D → List D → (D → D → Prop) → Prop}
def startM (N : List Str) (d : D) (ds : List D) : RhoS := some (.ow d) :: (ds.map (fun d => some (.fz d)) ++ List.replicate (N.length - (ds.length + 1)) none)
def finM (Pd : D → D → Prop) : Out → Prop
  | .rt r ρ => ∃ d', ρ[0]? = some (some (.ow d')) ∧ Pd r d'
  | .nx ρ => ∃ d', ρ[0]? = some (some (.ow d')) ∧ Pd .non d'
  | _ => False
theorem startM_ok {W H : Hp} {N : List Str} {d : D} {ds : List D} {us : List V} {a : Addr} {A : List Addr} (ex : Ex W H) (ow : Own K W H d (.ref a) A) (ne : A ≠ []) (hA : ∀ b ∈ A, W b = none ∧ H b ≠ none) (r : RepAll K W ds us) :
    StAt K ⟨W, H, fun b => b ∈ A, fun i => if i = 0 then some a else none⟩ (startM N d ds) (L2.start N (.ref a :: us)) H W (fun i => if i = 0 then A else []) where
  len := by unfold startM L2.start; simp [r.length]
  w0 := .refl _
  fh := ex
  fr := fun b h1 h2 => absurd h2 h1
  hh := fun b o h _ => h
  kp := fun b h => h
  sl := fun i sv h => by
    cases i with
    | zero => cases h; exact ⟨.ref a, rfl, ow, ne⟩
    | succ i =>
      unfold startM at h
      rw [List.getElem?_cons_succ] at h
      by_cases hi : i < ds.length
      · rw [List.getElem?_append_left (by simpa using hi), List.getElem?_map] at h
        cases e : ds[i]? with
        | none => rw [e] at h; cases h
        | some d =>
          rw [e] at h; cases h
          obtain ⟨v, h1, h2⟩ := r.get e
          refine ⟨v, ?_, h2⟩
          unfold L2.start
          rw [List.map_cons, List.cons_append, List.getElem?_cons_succ, List.getElem?_append_left (by rw [List.length_map, ← r.length]; exact hi), List.getElem?_map, h1]
          rfl
      · rw [List.getElem?_append_right (by simpa using hi), List.getElem?_replicate] at h
        split at h <;> cases h
  ap := fun i b h => by
    by_cases hi : i = 0
    · rw [if_pos hi] at h
      exact ⟨(hA b h).1, (hA b h).2, .inr ⟨h, by simp [hi]⟩⟩
    · rw [if_neg hi] at h; exact absurd h (by simp)
  dj := fun i j b h1 h2 => by
    by_cases hi : i = 0
    · by_cases hj : j = 0
      · rw [hi, hj]
      · rw [if_neg hj] at h2; exact absurd h2 (by simp)
    · rw [if_neg hi] at h1; exact absurd h1 (by simp)
  pn := fun i b h => by
    dsimp only at h
    split at h
    · rename_i hi
      cases h; subst hi; rfl
    · cases h
theorem fn_meth (F : Fun K x qual st f fd) (S : FnScope N ps (defScope st)) (hG : ∀ d ds Pd, G d ds Pd → ds.length + 1 = ps.length)
    (body : ∀ (cdv : Value) (A : Around) (outer : List Env) (s : Shared) (H : Hp) (E : XK) (d : D) (ds : List D) (Pd : D → D → Prop), Room k (A.deeper (envOfC qual (defScope st) s.heap.objs.size f cdv)) → G d ds Pd →
      JSs (cxOf CX0 P w K mg base N qual (defScope st) f cdv A outer s H E).nox [0] (defBody st) (startM N d ds) (finM Pd)) : FnOk P w K mg base CX0 (k + 1) f fd ps (spM K ps.length G) := by
  refine F.ok S (fun vs H Q E h => h.1) fun cdv A outer s H vs Q E hr h => ?_
  obtain ⟨_, a, W, d, Ad, us, ds, Pd, rfl, ex, ow, ne, hA, r, hg, q⟩ := h
  refine ⟨_, pss_w, ?_⟩
  have fin : ∀ {ρ : RhoS} {σ : L2.St} {H' Hf W' : Hp} {A' : Nat → List Addr} {d' : D} {r : D} {v : V}, StAt K ⟨W, H, fun b => b ∈ Ad, fun i => if i = 0 then some a else none⟩ ρ σ H' Hf A' → Ex Hf W' → Ex W' H' → Fr W W' H → (∀ i b, b ∈ A' i → (if i = 0 then some a else none) ≠ (none : Option Addr) → W' b = none) → ρ[0]? = some (some (.ow d')) → Pd r d' → Rep K W' r v → Q v H' := by
    intro ρ σ H' Hf W' A' d' r v s' e1 e2 e3 e4 h0 hp hr
    obtain ⟨u, q1, q2, q3⟩ := s'.sl 0 _ h0
    have := s'.pn 0 a (by simp)
    rw [q1] at this
    cases this
    refine q r d' hp v W' H' (A' 0) ⟨s'.w0.trans e1, e2, fun b o h1 h2 => s'.hh b o h1 h2, s'.kp, e3, q2.move e1 (fun _ _ => rfl), q3, fun b hb => ?_⟩ hr
    obtain ⟨k1, k2, k3⟩ := s'.ap 0 b hb
    exact ⟨e4 0 b hb (by simp), k2, k3.elim .inr fun z => .inl z.1⟩
  refine body cdv A outer s H E d ds Pd hr hg ⟨W, H, fun b => b ∈ Ad, fun i => if i = 0 then some a else none⟩ (L2.start N (.ref a :: us)) H _ (fun i => by
    dsimp only
    by_cases hi : i = 0 <;> simp [hi]) ⟨W, _, startM_ok ex ow ne hA r⟩ fun o ho => ?_
  cases o with
  | nx ρ =>
    obtain ⟨d', h0, hp⟩ := ho
    exact fun σ' H' ⟨Hf, A', s'⟩ => fin s' (.refl _) s'.fh s'.fr (fun i b hb _ => (s'.ap i b hb).1) h0 hp .non
  | rt r ρ =>
    obtain ⟨d', h0, hp⟩ := ho
    exact fun v H' ⟨σ', Hf, A', W', s', h1, h2, h3, h4, h5⟩ => fin s' h1 h2 h3 h4 h0 hp h5
  | bk ρ => exact ho.elim
  | ct ρ => exact ho.elim
  | ex er ρ => exact ho.elim
end

structure JM (X : Cx) (pin : List Nat) (e : Expr) (ρ : RhoS) (Ψ : D → RhoS → Prop) : Prop where
  run : ∀ (E : Ent) σ H, E.Pins pin → StOk X.K E ρ σ H → ∀ Q : VK, (∀ r ρ', Ψ r ρ' → ∀ v H' Hf A, StAt X.K E ρ' σ H' Hf A → Rep X.K Hf r v → Q v H') → wE X e σ H Q
instance {X : Cx} {pin : List Nat} {e : Expr} {ρ : RhoS} {Ψ : D → RhoS → Prop} : CoeFun (JM X pin e ρ Ψ) (fun _ => ∀ (E : Ent) σ H, E.Pins pin → StOk X.K E ρ σ H → ∀ Q : VK, (∀ r ρ', Ψ r ρ' → ∀ v H' Hf A, StAt X.K E ρ' σ H' Hf A → Rep X.K Hf r v → Q v H') → wE X e σ H Q) := ⟨JM.run⟩
structure JTM (X : Cx) (pin : List Nat) (e : Expr) (ρ : RhoS) (Ψ : Bool → RhoS → Prop) : Prop where
  run : ∀ (E : Ent) σ H, E.Pins pin → StOk X.K E ρ σ H → ∀ Q : Bool → Hp → Prop, (∀ r ρ', Ψ r ρ' → ∀ H', StOk X.K E ρ' σ H' → Q r H') → wT X e σ H Q
instance {X : Cx} {pin : List Nat} {e : Expr} {ρ : RhoS} {Ψ : Bool → RhoS → Prop} : CoeFun (JTM X pin e ρ Ψ) (fun _ => ∀ (E : Ent) σ H, E.Pins pin → StOk X.K E ρ σ H → ∀ Q : Bool → Hp → Prop, (∀ r ρ', Ψ r ρ' → ∀ H', StOk X.K E ρ' σ H' → Q r H') → wT X e σ H Q) := ⟨JTM.run⟩
structure MMeth (P : Program) (w : World) (K : PySem.W.Frag) (mg : Str → Option Value) (base : Heap) (k : Nat) (C : Addr) (m : Str) (n : Nat) (G : D → List D → (D → D → Prop) → Prop) : Prop where
  ex : ∃ f fd ps, FnOk P w K mg base CX0 k f fd ps (spM K n G) ∧ Meth K C m f ∧ Binds K fd ps []
section
variable {X : Cx} {pin : List Nat} {e a o c : Expr} {es sa sb : List Expr} {ρ : RhoS} {d : D} {ds : List D} {C : Addr} {fds : List (Str × D)} {pos p p1 p' apos : Pos} {f m x : Str} {k j n i : Nat} {G : D → List D → (D → D → Prop) → Prop} {P : D → D → Prop} {Φ : Out → Prop}
theorem StAt.after {K : PySem.W.Frag} {E : Ent} {σ : L2.St} {H Hf W' H' : Hp} {A : Nat → List Addr} {A' : List Addr} {ad : Addr} {d' : D} (s : StAt K E ρ σ H Hf A) (hi : ρ[i]? = some (some (.ow d))) (hv : σ[i]? = some (some (.ref ad))) (t : Aft K Hf H (A i) ad d' W' H' A') :
    StAt K E (ρ.set i (some (.ow d'))) σ H' W' (fun j => if j = i then A' else A j) where
  len := by rw [List.length_set]; exact s.len
  w0 := s.w0.trans t.ww
  fh := t.wh
  fr := fun b h1 h2 => by
    by_cases e : Hf b = none
    · exact s.kp b (t.fr b h1 e)
    · exact s.fr b e h2
  hh := fun b o h1 h2 => t.hh b o (s.hh b o h1 h2) fun hb => by
    rcases (s.ap i b hb).2.2 with z | z
    · rw [h1] at z; cases z
    · exact h2 z.1
  kp := fun b h => s.kp b (t.kp b h)
  sl := fun j sv h => by
    by_cases hj : i = j
    · subst hj
      have hl : i < ρ.length := (List.getElem?_eq_some_iff.mp hi).1
      rw [List.getElem?_set_self hl] at h; cases h
      exact ⟨_, hv, by dsimp only; rw [if_pos rfl]; exact ⟨t.ow, t.ne⟩⟩
    · rw [List.getElem?_set_ne hj] at h
      rw [if_neg (fun z => hj z.symm)]
      obtain ⟨v, e1, e2⟩ := s.sl j sv h
      refine ⟨v, e1, ?_⟩
      cases sv with
      | fz d => exact Rep.mono t.ww e2
      | ow d =>
        refine ⟨Own.move e2.1 t.ww fun b hb => ?_, e2.2⟩
        have h2 := (s.ap j b hb).2.1
        cases q : H b with
        | none => exact absurd q h2
        | some o => exact t.hh b o q fun z => hj (s.dj _ _ _ z hb)
  ap := fun j b hb => by
    by_cases hj : j = i
    · rw [if_pos hj] at hb
      obtain ⟨k1, k2, k3⟩ := t.ap b hb
      refine ⟨k1, k2, ?_⟩
      rcases k3 with z | z
      · rw [hj]; exact (s.ap i b z).2.2
      · exact .inl (s.kp b z)
    · rw [if_neg hj] at hb
      obtain ⟨k1, k2, k3⟩ := s.ap j b hb
      refine ⟨?_, fun z => k2 (t.kp b z), k3⟩
      cases q : W' b with
      | none => rfl
      | some o => exact absurd (t.fr b (by rw [q]; simp) k1) k2
  dj := fun j k b h1 h2 => by
    by_cases hj : j = i
    · by_cases hk : k = i
      · rw [hj, hk]
      · rw [if_pos hj] at h1; rw [if_neg hk] at h2
        rcases (t.ap b h1).2.2 with z | z
        · rw [hj]; exact s.dj _ _ _ z h2
        · exact absurd z (s.ap k b h2).2.1
    · by_cases hk : k = i
      · rw [if_neg hj] at h1; rw [if_pos hk] at h2
        rcases (t.ap b h2).2.2 with z | z
        · rw [hk]; exact s.dj _ _ _ h1 z
        · exact absurd z (s.ap j b h1).2.1
      · rw [if_neg hj] at h1; rw [if_neg hk] at h2; exact s.dj j k b h1 h2
  pn := s.pn
/-- x.m(e, ..), x in the slot i -/
theorem jm_meth {pl : Sem Bool} (M : MMeth X.prog X.w X.K X.mg X.base k C m n G) (cl : Cls X.K C) (hr : Room j X.A) (hi : ρ[i]? = some (some (.ow (.ins C fds)))) (hm : fds.lookup m = none) (ha : JA X (e :: es) (fzR ρ) ds) (hG : G (.ins C fds) ds P) (hk : k ≤ j := by decide) (hn : ds.length + 1 = n := by rfl)
    (hN : X.N[i]? = some x := by rfl) (hv : L2.Vis X.env.scope x := by first | exact Or.inl rfl | exact Or.inr (Or.inl rfl)) (hd : (x == ("__debug__" : Str)) = false := by decide) (hcd : (x == ("__classdict__" : Str)) = false := by decide)
    (hst : starEach (e :: es) X.env = (false, eval e X.env) :: starEach es X.env := by rfl) (hpl : (backTo pos (starEach es X.env)).any (·.1) = false := by rfl)
    (ht : eval (.Call (.Attribute (.Name x p1) m apos) (e :: es) [] pos) X.env = (do
      let ov ← eval (.Name x p1) X.env
      standAt apos.atName
      let (f, first) ← holding [ov] (getMethod ov m pl)
      callWith pos f first (backTo pos (starEach (e :: es) X.env)) (backToKw pos (keywordEach [] X.env))) := by rfl) :
    JM X pin (.Call (.Attribute (.Name x p1) m apos) (e :: es) [] pos) ρ (fun r ρ' => ∃ d', P r d' ∧ ρ' = ρ.set i (some (.ow d'))) := ⟨fun E σ H hpn ⟨Hf, A, s⟩ Q g => by
  obtain ⟨f, fd, ps, F, hme, hb⟩ := M.ex
  refine .of (pe_meth (pe_var hN hv hd hcd) cl hme (F.mono hk) hr hb .nil pass0 pa_w hst hpl ht) ?_
  obtain ⟨v, hσ, ow, ne⟩ := s.sl i _ hi
  have ow' := ow
  generalize hA : A i = Ai at ow' ne
  cases ow' with
  | fz _ => exact absurd rfl ne
  | @ins ad _ dx fs _ B h1 h2 h3 nB =>
    refine ⟨_, hσ, ad, dx, fs, rfl, h1, lookup_none h2 hm, ?_⟩
    refine ha Hf σ H s.fh s.vis _ fun vs W' H' st r => ?_
    have s' := s.step st
    rw [List.append_nil]
    obtain ⟨v2, hσ2, ow2, ne2⟩ := s'.sl i _ hi
    rw [hσ] at hσ2
    cases hσ2
    exact ⟨by rw [List.length_cons, ← r.length]; exact hn, ad, W', _, A i, vs, ds, P, rfl, s'.fh, ow2, ne2, fun b hb => ⟨(s'.ap i b hb).1, (s'.ap i b hb).2.1⟩, r, hG, fun r d' hp v W2 H2 A2 aft rr => g r _ ⟨d', hp, rfl⟩ v H2 W2 _ (s'.after hi hσ aft) rr⟩⟩
theorem JM.imp {Ψ Ψ' : D → RhoS → Prop} (h : JM X pin e ρ Ψ) (k : ∀ r ρ', Ψ r ρ' → Ψ' r ρ') : JM X pin e ρ Ψ' := ⟨fun E σ H hp s Q g => h E σ H hp s Q fun r ρ' z => g r ρ' (k r ρ' z)⟩
theorem js_dropM {Ψ : D → RhoS → Prop} (h : JM X pin e ρ Ψ) (hk : ∀ r ρ', Ψ r ρ' → Φ (.nx ρ')) (hs : swapsWith e none pos.line X.env = pure false := by rfl) : JS X pin (.Expr e pos) ρ Φ := ⟨fun E σ H D hpn s k =>
  .of (ps_expr pe_w hs) (h E σ H hpn s _ fun r ρ' hΨ v H' Hf A s' rr => k _ (hk r ρ' hΨ) σ H' ⟨Hf, A, s'⟩)⟩
def putD (f : Str) (v : D) : List (Str × D) → List (Str × D)
  | [] => [(f, v)]
  | (g, u) :: r => if g = f then (g, v) :: r else (g, u) :: putD f v r
theorem putD_names {f : Str} {d : D} {v : V} : ∀ {fds : List (Str × D)} {fs : List (Str × V)}, fs.map (·.1) = fds.map (·.1) → (putF f v fs).map (·.1) = (putD f d fds).map (·.1)
  | [], [], _ => rfl
  | [], _ :: _, h => by cases h
  | _ :: _, [], h => by cases h
  | (g, u) :: r, (g', u') :: r', h => by
    simp only [List.map_cons, List.cons.injEq] at h
    obtain ⟨rfl, h⟩ := h
    unfold putF putD
    by_cases e : g' = f
    · rw [if_pos e, if_pos e]; simp [h]
    · rw [if_neg e, if_neg e]; simp only [List.map_cons, putD_names (d := d) (v := v) (f := f) h]
theorem putD_own {K : PySem.W.Frag} {Hf H : Hp} {f : Str} {d : D} {v : V} (r : Rep K Hf d v) (hm : mutD d = false) : ∀ {fds : List (Str × D)} {fs : List (Str × V)} {B : List Addr}, fs.map (·.1) = fds.map (·.1) → OwnFs K Hf H (fds.map (·.2)) (fs.map (·.2)) B → ∃ B', (∀ b ∈ B', b ∈ B) ∧ OwnFs K Hf H ((putD f d fds).map (·.2)) ((putF f v fs).map (·.2)) B'
  | [], [], _, _, _ => ⟨[] ++ [], by simp, .cons (.fz r) .nil (by simp) (by rw [hm]; simp)⟩
  | [], _ :: _, _, h, _ => by cases h
  | _ :: _, [], _, h, _ => by cases h
  | (g, u) :: r0, (g', u') :: r', _, h, hr => by
    simp only [List.map_cons, List.cons.injEq] at h
    obtain ⟨rfl, h⟩ := h
    cases hr with
    | @cons _ _ _ _ A B q t nd w =>
      unfold putF putD
      by_cases e : g' = f
      · rw [if_pos e, if_pos e]
        exact ⟨[] ++ B, fun b hb => List.mem_append_right _ (by simpa using hb), .cons (.fz r) t (by simp) (by rw [hm]; simp)⟩
      · rw [if_neg e, if_neg e]
        obtain ⟨B', h1, h2⟩ := putD_own r hm h t
        exact ⟨A ++ B', fun b hb => by
          rcases List.mem_append.mp hb with z | z
          · exact List.mem_append_left _ z
          · exact List.mem_append_right _ (h1 b z), .cons q h2 (fun a ha hb => nd a ha (h1 a hb)) w⟩
/-- x.f = e: the state behind the value -/
theorem StAt.fld {K : PySem.W.Frag} {E : Ent} {σ : L2.St} {H Hf : Hp} {A : Nat → List Addr} {v y : V} (s : StAt K E ρ σ H Hf A) (hi : ρ[i]? = some (some (.ow (.ins C fds)))) (hσ : σ[i]? = some (some v)) (r : Rep K Hf d y) (hm : mutD d = false) :
    ∃ a dx fs, v = .ref a ∧ H a = some (.ins C dx fs) ∧ fs.length = fds.length ∧ StOk K E (ρ.set i (some (.ow (.ins C (putD f d fds))))) σ (upd H a (.ins C dx (putF f y fs))) := by
  obtain ⟨v', hσ', ow, ne⟩ := s.sl i _ hi
  rw [hσ] at hσ'
  cases hσ'
  generalize hA : A i = Ai at ow ne
  cases ow with
  | fz _ => exact absurd rfl ne
  | @ins a _ dx fs _ B h1 h2 h3 nB =>
    refine ⟨a, dx, fs, rfl, h1, by have := congrArg List.length h2; simpa using this, ?_⟩
    obtain ⟨B', k1, k2⟩ := putD_own (f := f) r hm h2 h3
    refine ⟨Hf, _, s.change (B := a :: B') hi hσ (by rw [hA]; exact List.mem_cons_self) (by simp) (fun b hb => by
      rw [hA]
      rcases List.mem_cons.mp hb with z | z
      · rw [z]; exact List.mem_cons_self
      · exact List.mem_cons_of_mem _ (k1 b z)) (.ins upd_same (putD_names h2) (k2.move (.refl _) fun b hb => upd_ne fun z => nB (by rw [← z]; exact k1 b hb)) fun z => nB (k1 a z))⟩
theorem js_fld (hi : ρ[i]? = some (some (.ow (.ins C fds)))) (h : J X e (fzR ρ) d) (cl : Cls X.K C) (hn : NoAttr X.K C f) (hl : fds.length < 1000) (hk : Φ (.nx (ρ.set i (some (.ow (.ins C (putD f d fds))))))) (hmt : mutD d = false := by rfl) (hN : X.N[i]? = some x := by rfl) (hv : L2.Vis X.env.scope x := by first | exact Or.inl rfl | exact Or.inr (Or.inl rfl))
    (hd : (x == ("__debug__" : Str)) = false := by decide) (hcd : (x == ("__classdict__" : Str)) = false := by decide) (hs : swapsWith e (some (.Attribute (.Name x p1) f p')) pos.line X.env = pure false := by rfl) : JS X pin (.Assign [.Attribute (.Name x p1) f p'] e pos) ρ Φ := ⟨fun E σ H D hpn ⟨Hf, A, s⟩ k => by
  refine .of (ps_fld (pe_var hN hv hd hcd) pe_w hs) (h Hf σ H s.fh s.vis _ fun y W' H' st r => ?_)
  have s' := s.step st
  obtain ⟨v, hσ, _⟩ := s'.sl i _ hi
  obtain ⟨a, dx, fs, rfl, h1, h2, ok⟩ := s'.fld (f := f) hi hσ r hmt
  exact ⟨_, hσ, a, C, dx, fs, rfl, h1, cl, hn, by omega, k _ hk σ _ ok⟩⟩
theorem js_fldS (hi : ρ[i]? = some (some (.ow (.ins C fds)))) (h : J X e (allR ρ) d) (hfl : flatD d = true) (cl : Cls X.K C) (hn : NoAttr X.K C f) (hl : fds.length < 1000) (hk : Φ (.nx (ρ.set i (some (.ow (.ins C (putD f d fds))))))) (hmt : mutD d = false := by rfl) (hN : X.N[i]? = some x := by rfl) (hv : L2.Vis X.env.scope x := by first | exact Or.inl rfl | exact Or.inr (Or.inl rfl))
    (hd : (x == ("__debug__" : Str)) = false := by decide) (hcd : (x == ("__classdict__" : Str)) = false := by decide) (hs : swapsWith e (some (.Attribute (.Name x p1) f p')) pos.line X.env = pure false := by rfl) : JS X pin (.Assign [.Attribute (.Name x p1) f p'] e pos) ρ Φ := ⟨fun E σ H D hpn ⟨Hf, A, s⟩ k => by
  refine .of (ps_fld (pe_var hN hv hd hcd) pe_w hs) (h H σ H (.refl _) s.visH _ fun y W' H' st r => ?_)
  have s' := s.grow st.hh
  obtain ⟨v, hσ, _⟩ := s'.sl i _ hi
  obtain ⟨a, dx, fs, rfl, h1, h2, ok⟩ := s'.fld (f := f) hi hσ (r.any hfl) hmt
  exact ⟨_, hσ, a, C, dx, fs, rfl, h1, cl, hn, by omega, k _ hk σ _ ok⟩⟩

structure MMake (P : Program) (w : World) (K : PySem.W.Frag) (mg : Str → Option Value) (base : Heap) (k : Nat) (x : Str) (C : Addr) (n : Nat) (G : D → List D → (D → D → Prop) → Prop) : Prop where
  ex : ∃ f fd ps, FnOk P w K mg base CX0 k f fd ps (spM K n G) ∧ Mk K C f ∧ mg x = some (.ref C) ∧ Binds K fd ps []
/-- e is a new object of its own -/
structure JO1 (X : Cx) (e : Expr) (ρ : Rho) (P : D → Prop) : Prop where
  run : ∀ W σ H, Ex W H → Vis X.K ρ W σ → ∀ Q : VK, (∀ (d : D) (a : Addr) (W' H' : Hp) (A' : List Addr), P d → Step W H W' H' → Own X.K W' H' d (.ref a) A' → A' ≠ [] → (∀ b ∈ A', W' b = none ∧ H' b ≠ none ∧ H b = none) → Q (.ref a) H') → wE X e σ H Q
instance {X : Cx} {e : Expr} {ρ : Rho} {P : D → Prop} : CoeFun (JO1 X e ρ P) (fun _ => ∀ W σ H, Ex W H → Vis X.K ρ W σ → ∀ Q : VK, (∀ (d : D) (a : Addr) (W' H' : Hp) (A' : List Addr), P d → Step W H W' H' → Own X.K W' H' d (.ref a) A' → A' ≠ [] → (∀ b ∈ A', W' b = none ∧ H' b ≠ none ∧ H b = none) → Q (.ref a) H') → wE X e σ H Q) := ⟨JO1.run⟩
theorem JO1.imp {P1 P2 : D → Prop} {ρ : Rho} (h : JO1 X e ρ P1) (k : ∀ d, P1 d → P2 d) : JO1 X e ρ P2 := ⟨fun W σ H ex hV Q g => h W σ H ex hV Q fun d a W' H' A' hp => g d a W' H' A' (k d hp)⟩
theorem js_setO {Pd : D → Prop} (h : JO1 X e (fzR ρ) Pd) (hk : ∀ d, Pd d → Φ (.nx (ρ.set i (some (.ow d))))) (hN : X.N.Nodup) (hi : X.N[i]? = some x := by rfl) (hx : Loc X.env.scope x := by first | exact Or.inl rfl | exact Or.inr rfl) (hp : i ∉ pin := by decide) (hs : swapsWith e (some (.Name x p')) pos.line X.env = pure false := by rfl)
    (hf : X.fn x = true ∨ X.env.scope.names.lookup x = some .local := by first | exact .inl rfl | exact .inr rfl) : JS X pin (.Assign [.Name x p'] e pos) ρ Φ := ⟨fun E σ H D hpn ⟨Hf, A, s⟩ k =>
  .of (ps_set hN hi hx pe_w hs hf) (h Hf σ H s.fh s.vis _ fun d a W' H' A' hd st ow ne hA => k _ (hk d hd) _ H' ⟨W', _, (s.step st).setOw ow ne (hpn.none hp) fun b hb => by
    obtain ⟨k1, k2, k3⟩ := hA b hb
    exact ⟨k1, k2, s.kp b k3, fun j hj => (s.ap j b hj).2.1 k3⟩⟩)⟩
end
end Pf

namespace Pf
open PySem PyProof.Rows L2
open Evl (Ex)

def OpD (X : Cx) (bo : Operator) (x y z : D) : Prop := ∃ r, OpR X (binaryOp bo) r ∧ R2D X.K r x y z
def CmD (X : Cx) (op : CmpOp) (x y : D) (b : Bool) : Prop := ∃ r, OpR X (compareOp op) r ∧ R2D X.K r x y (.bl b)
section
variable {X : Cx} {a b c e : Expr} {es : List Expr} {ρ : Rho} {x y z d : D} {ds es' : List D} {pos p p2 : Pos} {op op' : CmpOp} {bo : Operator} {t u : Bool} {i j : Int} {s s' : Str}
theorem j_bin (ha : J X a ρ x) (hb : J X b ρ y) (h : OpD X bo x y z) : J X (.BinOp a bo b pos) ρ z := by
  obtain ⟨r, h1, h2⟩ := h
  exact j_op h1 ha hb h2
theorem j_cm (ha : J X a ρ x) (hb : J X b ρ y) (h : CmD X op x y t) (hm : behindInMarks op b = false := by first | exact nobehind _ (by decide) (by decide) | rfl) : J X (.Compare a [op] [b] pos) ρ (.bl t) := by
  obtain ⟨r, h1, h2⟩ := h
  exact j_cmp h1 ha hb h2 hm
theorem jt_cm (ha : J X a ρ x) (hb : J X b ρ y) (h : CmD X op x y t) (hm : behindInMarks op b = false := by first | exact nobehind _ (by decide) (by decide) | rfl) : JT X (.Compare a [op] [b] pos) ρ t := by
  obtain ⟨r, h1, h2⟩ := h
  exact jt_cmp h1 ha hb h2 hm
theorem j_ch (ha : J X a ρ x) (hb : J X b ρ y) (hc : J X c ρ z) (h1 : CmD X op x y t) (h2 : CmD X op' y z u) (hm : lastMarks [op, op'] [b, c] = false := by with_unfolding_all rfl) : J X (.Compare a [op, op'] [b, c] pos) ρ (.bl (t && u)) := by
  obtain ⟨r, k1, k2⟩ := h1
  obtain ⟨r', k1', k2'⟩ := h2
  exact j_chain k1 k1' ha hb (fun _ => hc) k2 (fun _ => k2') hm
theorem jt_ch (ha : J X a ρ x) (hb : J X b ρ y) (hc : J X c ρ z) (h1 : CmD X op x y t) (h2 : CmD X op' y z u) (hm : lastMarks [op, op'] [b, c] = false := by with_unfolding_all rfl) : JT X (.Compare a [op, op'] [b, c] pos) ρ (t && u) := by
  obtain ⟨r, k1, k2⟩ := h1
  obtain ⟨r', k1', k2'⟩ := h2
  exact jt_chain k1 k1' ha hb (fun _ => hc) k2 (fun _ => k2') hm
theorem od_addI : OpD X .Add (.int i) (.int j) (.int (i + j)) := ⟨_, op_add, r2_I0⟩
theorem od_addS (h : s.length + s'.length ≤ sizeLine) : OpD X .Add (.str s) (.str s') (.str (s ++ s')) := ⟨_, op_add_str, r2_addS h⟩
theorem od_addL (h : ds.length + es'.length ≤ sizeLine) : OpD X .Add (.lst ds) (.lst es') (.lst (ds ++ es')) := ⟨_, op_cat, r2_addL h⟩
theorem od_addT (h : ds.length + es'.length ≤ sizeLine) : OpD X .Add (.tup ds) (.tup es') (.tup (ds ++ es')) := ⟨_, op_catA, r2_addT h⟩
theorem od_subI : OpD X .Sub (.int i) (.int j) (.int (i - j)) := ⟨_, op_sub, r2_I0⟩
theorem od_mulI (h : CMul i j) : OpD X .Mult (.int i) (.int j) (.int (i * j)) := ⟨_, op_mul, r2_I h⟩
theorem od_fdivI (h : CDiv i j) : OpD X .FloorDiv (.int i) (.int j) (.int (i / j)) := ⟨_, op_fdiv, r2_I h⟩
theorem od_modI (h : 0 < j) : OpD X .Mod (.int i) (.int j) (.int (i % j)) := ⟨_, op_mod, r2_I (C := fun _ j => 0 < j) h⟩
theorem od_powI (h : CPow i j) : OpD X .Pow (.int i) (.int j) (.int (i ^ j.toNat)) := ⟨_, op_pow, r2_I (C := CPow) (g := fun i j => i ^ j.toNat) h⟩
theorem cd_ltI : CmD X .Lt (.int i) (.int j) (decide (i < j)) := ⟨_, op_lt, r2_B0⟩
theorem cd_leI : CmD X .LtE (.int i) (.int j) (decide (i ≤ j)) := ⟨_, op_le, r2_B0⟩
theorem cd_gtI : CmD X .Gt (.int i) (.int j) (decide (j < i)) := ⟨_, op_gt, r2_B0 (g := fun i j => decide (j < i))⟩
theorem cd_geI : CmD X .GtE (.int i) (.int j) (decide (j ≤ i)) := ⟨_, op_ge, r2_B0 (g := fun i j => decide (j ≤ i))⟩
theorem cd_eqI : CmD X .Eq (.int i) (.int j) (decide (i = j)) := ⟨_, op_eq, r2_eqI⟩
theorem cd_eqS : CmD X .Eq (.str s) (.str s') (decide (s = s')) := ⟨_, op_eq, r2_eqS⟩
theorem cd_eqB : CmD X .Eq (.bl t) (.bl u) (decide (t = u)) := ⟨_, op_eq, r2_eqB⟩
theorem cd_neI : CmD X .NotEq (.int i) (.int j) (!decide (i = j)) := ⟨_, op_ne, r2_neI⟩
theorem cd_neS : CmD X .NotEq (.str s) (.str s') (!decide (s = s')) := ⟨_, op_ne, r2_neS⟩
theorem cd_neB : CmD X .NotEq (.bl t) (.bl u) (!decide (t = u)) := ⟨_, op_ne, r2_neB⟩
theorem cd_isN : CmD X .Is d .non (isNon d) := ⟨_, op_isN, r2_isN⟩
theorem cd_notN : CmD X .IsNot d .non (!isNon d) := ⟨_, op_notN, r2_notN⟩
theorem cd_inStrL {xs : List Str} : CmD X .In (.str s) (.lst (xs.map D.str)) (decide (s ∈ xs)) := ⟨_, op_in_seq, r2_inStrL⟩
theorem cd_inStrT {xs : List Str} : CmD X .In (.str s) (.tup (xs.map D.str)) (decide (s ∈ xs)) := ⟨_, op_in_seq, r2_inStrT⟩
theorem cd_inSign {n : Nat} : CmD X .In (.str ⟨#[n]⟩) (.str s) (decide (n ∈ s.cps.toList)) := ⟨_, op_in_sign, r2_inSign⟩
theorem cd_eqD {d e : D} {p q : PyData} (hu : X.A.units + 64 < cLine) (h1 : toPy d = some p) (h2 : toPy e = some q) (s1 : SeqAt.shaped p = true) (s2 : SeqAt.shaped q = true) (hb : PyData.eqv p q = t) : CmD X .Eq d e t := ⟨_, op_eqD hu, r2_eqD h1 h2 s1 s2 hb⟩
theorem cd_neD {d e : D} {p q : PyData} (hu : X.A.units + 64 < cLine) (h1 : toPy d = some p) (h2 : toPy e = some q) (s1 : SeqAt.shaped p = true) (s2 : SeqAt.shaped q = true) (hb : PyData.eqv p q = t) : CmD X .NotEq d e (!t) := ⟨_, op_neD hu, r2_neD h1 h2 s1 s2 hb⟩
def IxD (x y d : D) : Prop := (∃ ds i, x = .lst ds ∧ y = .int i ∧ atI ds i = some d) ∨ (∃ ds i, x = .tup ds ∧ y = .int i ∧ atI ds i = some d) ∨ (∃ (z : Str) (i : Int) (n : Nat), x = .str z ∧ y = .int i ∧ z.length ≤ sizeLine ∧ atI z.cps.toList i = some n ∧ d = .str ⟨#[n]⟩)
theorem j_ix (ha : J X a ρ x) (hb : J X b ρ y) (h : IxD x y d) (hs : PlainIx b := by exact fun _ _ => rfl) : J X (.Subscript a b pos) ρ d := by
  rcases h with ⟨ds, i, rfl, rfl, h⟩ | ⟨ds, i, rfl, rfl, h⟩ | ⟨z, i, n, rfl, rfl, hz, h, rfl⟩
  · exact j_ixL ha hb h hs
  · exact j_ixT ha hb h hs
  · exact j_ixS ha hb hz h hs
theorem ixd_L (h : atI ds i = some d) : IxD (.lst ds) (.int i) d := .inl ⟨ds, i, rfl, rfl, h⟩
theorem ixd_T (h : atI ds i = some d) : IxD (.tup ds) (.int i) d := .inr (.inl ⟨ds, i, rfl, rfl, h⟩)
theorem ixd_I {ns : List Int} (h0 : 0 ≤ i) (h1 : i < ns.length) : IxD (.lst (ns.map D.int)) (.int i) (.int (ns.getD i.toNat 0)) := ixd_L (atI_ints h0 h1)
def SlD (x : D) (o1 o2 : Option Int) (d : D) : Prop := (∃ ds, x = .lst ds ∧ d = .lst (cut ds o1 o2)) ∨ (∃ ds, x = .tup ds ∧ d = .tup (cut ds o1 o2)) ∨ (∃ ns, x = .scr ns ∧ d = .lst ((cut ns o1 o2).map D.int)) ∨ (∃ z : Str, x = .str z ∧ z.length ≤ sizeLine ∧ d = .str (cutS z o1 o2))
theorem j_sl {lo hi : Option Expr} {o1 o2 : Option Int} (ha : J X a ρ x) (h1 : JO X lo ρ o1) (h2 : JO X hi ρ o2) (h : SlD x o1 o2 d) : J X (.Subscript a (.Slice lo hi none p2) pos) ρ d := by
  rcases h with ⟨ds, rfl, rfl⟩ | ⟨ds, rfl, rfl⟩ | ⟨ds, rfl, rfl⟩ | ⟨z, rfl, hz, rfl⟩
  · exact j_slL ha h1 h2
  · exact j_slT ha h1 h2
  · exact j_slScr ha h1 h2
  · exact j_slS ha hz h1 h2
theorem sld_L {o1 o2 : Option Int} : SlD (.lst ds) o1 o2 (.lst (cut ds o1 o2)) := .inl ⟨ds, rfl, rfl⟩
theorem sld_T {o1 o2 : Option Int} : SlD (.tup ds) o1 o2 (.tup (cut ds o1 o2)) := .inr (.inl ⟨ds, rfl, rfl⟩)
theorem sld_X {ns : List Int} {o1 o2 : Option Int} : SlD (.scr ns) o1 o2 (.lst ((cut ns o1 o2).map D.int)) := .inr (.inr (.inl ⟨ns, rfl, rfl⟩))
end
/-- what the built-ins' names are at the top: none of them is stored -/
structure Bt (mg : Str → Option Value) : Prop where
  len : mg "len" = none
  int : mg "int" = none
  abs : mg "abs" = none
  range : mg "range" = none
  tuple : mg "tuple" = none
  list : mg "list" = none
  sorted : mg "sorted" = none
  set : mg "set" = none
  isinstance : mg "isinstance" = none
  bool : mg "bool" = none
  min : mg "min" = none
  max : mg "max" = none
  sum : mg "sum" = none
  all : mg "all" = none
  any : mg "any" = none
  str : mg "str" = none
  zip : mg "zip" = none
  enumerate : mg "enumerate" = none
section
variable {X : Cx} {e : Expr} {es : List Expr} {ρ : Rho} {d : D} {ds : List D} {pos p : Pos} {i j : Int} {n : Nat} (T : Bt X.mg)
include T
theorem jb_len (ha : JA X [e] ρ [d]) (h : lenD d = some n) (hg : Gl X "len" := by rfl) (he : starEach [e] X.env = (false, eval e X.env) :: starEach [] X.env := by rfl) (hpl : (backTo pos (starEach [] X.env)).any (·.1) = false := by rfl) : J X (.Call (.Name "len" p) [e] [] pos) ρ (.int n) := j_cb call_len T.len PySem.boot_len ha (rc_len h) hg (by decide) (by decide) he hpl
theorem jb_int (ha : JA X [e] ρ [.int i]) (hg : Gl X "int" := by rfl) (he : starEach [e] X.env = (false, eval e X.env) :: starEach [] X.env := by rfl) (hpl : (backTo pos (starEach [] X.env)).any (·.1) = false := by rfl) : J X (.Call (.Name "int" p) [e] [] pos) ρ (.int i) := j_ct call_int1 T.int (by decide +kernel) ha rc_int hg (by decide) (by decide) he hpl
theorem jb_abs (ha : JA X [e] ρ [.int i]) (hg : Gl X "abs" := by rfl) (he : starEach [e] X.env = (false, eval e X.env) :: starEach [] X.env := by rfl) (hpl : (backTo pos (starEach [] X.env)).any (·.1) = false := by rfl) : J X (.Call (.Name "abs" p) [e] [] pos) ρ (.int (if i < 0 then -i else i)) := j_cb call_abs T.abs (by decide +kernel) ha rc_abs hg (by decide) (by decide) he hpl
theorem jb_str (ha : JA X [e] ρ [.int i]) (h : i.natAbs.log2 < 1920) (hg : Gl X "str" := by rfl) (he : starEach [e] X.env = (false, eval e X.env) :: starEach [] X.env := by rfl) (hpl : (backTo pos (starEach [] X.env)).any (·.1) = false := by rfl) : J X (.Call (.Name "str" p) [e] [] pos) ρ (.str (toString i)) := j_ct call_str_int T.str (by decide +kernel) ha (rc_strI h) hg (by decide) (by decide) he hpl
theorem jb_sum {ns : List Int} (ha : JA X [e] ρ [.lst (ns.map D.int)]) (hc : X.calm = true := by rfl) (hg : Gl X "sum" := by rfl) (he : starEach [e] X.env = (false, eval e X.env) :: starEach [] X.env := by rfl) (hpl : (backTo pos (starEach [] X.env)).any (·.1) = false := by rfl) : J X (.Call (.Name "sum" p) [e] [] pos) ρ (.int ns.sum) := j_cb (cr_sum hc) T.sum (by decide +kernel) ha rc_sum hg (by decide) (by decide) he hpl
theorem jb_all {bs : List Bool} (ha : JA X [e] ρ [.lst (bs.map D.bl)]) (hc : X.calm = true := by rfl) (hg : Gl X "all" := by rfl) (he : starEach [e] X.env = (false, eval e X.env) :: starEach [] X.env := by rfl) (hpl : (backTo pos (starEach [] X.env)).any (·.1) = false := by rfl) : J X (.Call (.Name "all" p) [e] [] pos) ρ (.bl (bs.all id)) := j_cb (cr_all hc) T.all (by decide +kernel) ha rc_all hg (by decide) (by decide) he hpl
theorem jb_tupleL (ha : JA X [e] ρ [.lst ds]) (hg : Gl X "tuple" := by rfl) (he : starEach [e] X.env = (false, eval e X.env) :: starEach [] X.env := by rfl) (hpl : (backTo pos (starEach [] X.env)).any (·.1) = false := by rfl) : J X (.Call (.Name "tuple" p) [e] [] pos) ρ (.tup ds) := j_ct call_tuple_of T.tuple (by decide +kernel) ha rc_tupleL hg (by decide) (by decide) he hpl
theorem jb_listL (ha : JA X [e] ρ [.lst ds]) (hg : Gl X "list" := by rfl) (he : starEach [e] X.env = (false, eval e X.env) :: starEach [] X.env := by rfl) (hpl : (backTo pos (starEach [] X.env)).any (·.1) = false := by rfl) : J X (.Call (.Name "list" p) [e] [] pos) ρ (.lst ds) := j_ct call_list_of T.list (by decide +kernel) ha rc_listL hg (by decide) (by decide) he hpl
theorem jb_max2 {e2 : Expr} (ha : JA X [e, e2] ρ [.int i, .int j]) (hc : X.calm = true := by rfl) (hg : Gl X "max" := by rfl) (he : starEach [e, e2] X.env = (false, eval e X.env) :: starEach [e2] X.env := by rfl) (hpl : (backTo pos (starEach [e2] X.env)).any (·.1) = false := by rfl) : J X (.Call (.Name "max" p) [e, e2] [] pos) ρ (.int (if j > i then j else i)) := j_cb (call_max2 hc) T.max (by decide +kernel) ha rc_max2 hg (by decide) (by decide) he hpl
theorem jb_min2 {e2 : Expr} (ha : JA X [e, e2] ρ [.int i, .int j]) (hc : X.calm = true := by rfl) (hg : Gl X "min" := by rfl) (he : starEach [e, e2] X.env = (false, eval e X.env) :: starEach [e2] X.env := by rfl) (hpl : (backTo pos (starEach [e2] X.env)).any (·.1) = false := by rfl) : J X (.Call (.Name "min" p) [e, e2] [] pos) ρ (.int (if j < i then j else i)) := j_cb (call_min2 hc) T.min (by decide +kernel) ha rc_min2 hg (by decide) (by decide) he hpl
theorem jb_isi {e2 : Expr} {Ty : String} {t : Value} {b : Bool} (ha : JA X [e, e2] ρ [d, .ty Ty]) (h : tyD d = some t) (hk : PySem.W.kitOne X.K t (.type Ty) = some b) (hg : Gl X "isinstance" := by rfl) (he : starEach [e, e2] X.env = (false, eval e X.env) :: starEach [e2] X.env := by rfl) (hpl : (backTo pos (starEach [e2] X.env)).any (·.1) = false := by rfl) : J X (.Call (.Name "isinstance" p) [e, e2] [] pos) ρ (.bl b) := j_cb call_isi T.isinstance (by decide +kernel) ha (rc_isi h hk) hg (by decide) (by decide) he hpl
end
end Pf

namespace Pf
open PySem PyProof.Rows L2
open Evl (Ex)
section
variable {X : Cx} {pin : List Nat} {st : Stmt} {rest body : List Stmt} {ρ : Rho} {σ : RhoS} {Φ : Out → Prop} {e iter tg : Expr} {d : D} {ds : List D} {pos : Pos} {n : Str}
theorem jv (i : Nat) (hr : ρ[i]? = some (some d)) (hN : X.N[i]? = some n := by rfl) (hv : L2.Vis X.env.scope n := by first | exact Or.inl rfl | exact Or.inr (Or.inl rfl) | exact Or.inr (Or.inr rfl)) (hd : (n == ("__debug__" : Str)) = false := by decide) (hcd : (n == ("__classdict__" : Str)) = false := by decide) : J X (.Name n pos) ρ d := j_var hr hN hv hd hcd
theorem jss_mid (Ψ : RhoS → Prop) (h : JS X pin st σ (fun o => ∃ ρ', o = .nx ρ' ∧ Ψ ρ')) (k : ∀ ρ', Ψ ρ' → JSs X pin rest ρ' Φ) : JSs X pin (st :: rest) σ Φ := jss_cons (h.imp fun o ⟨ρ', e, h⟩ => by subst e; exact k ρ' h)
theorem rangeD_get {lo : Int} {n k : Nat} (h : (rangeD lo n)[k]? = some d) : d = .int (lo + k) ∧ k < n := by
  unfold rangeD at h
  rw [List.getElem?_map] at h
  cases e : (List.range n)[k]? with
  | none => rw [e] at h; cases h
  | some m =>
    rw [e] at h
    obtain ⟨hk, e'⟩ := List.getElem?_eq_some_iff.mp e
    rw [List.getElem_range] at e'
    subst e'
    cases h
    rw [List.length_range] at hk
    exact ⟨rfl, hk⟩
theorem rangeD_length {lo : Int} {n : Nat} : (rangeD lo n).length = n := by unfold rangeD; rw [List.length_map, List.length_range]
theorem map_get {α : Type} {f : α → D} {xs : List α} {k : Nat} (h : (xs.map f)[k]? = some d) : ∃ x, xs[k]? = some x ∧ d = f x := by
  rw [List.getElem?_map] at h
  cases e : xs[k]? with
  | none => rw [e] at h; cases h
  | some x => rw [e] at h; cases h; exact ⟨x, rfl, rfl⟩
/-- for k in range(..) -/
theorem js_range {i : Nat} {p : Pos} {a : Expr} (m : Nat) (I : Nat → RhoS → Prop) (T : Bt X.mg) (ha : J X a (fzR σ) (.int (m : Int))) (hm : m < 2 ^ 62) (nd : X.N.Nodup) (h0 : I 0 σ) (turn : ∀ (k : Nat) σ, k < m → I k σ → JSs X pin body (σ.set i (some (.fz (.int (k : Int))))) (turnO (I (k + 1)) Φ)) (done : ∀ σ, I m σ → Φ (.nx σ))
    (hi : X.N[i]? = some n := by rfl) (hx : Loc X.env.scope n := by first | exact Or.inl rfl | exact Or.inr rfl) (hf : X.fn n = true ∨ X.env.scope.names.lookup n = some .local := by first | exact .inl rfl | exact .inr rfl) (hp : i ∉ pin := by decide) (hps : PassesOwn (model X.prog X.w) X.A X.env X.xe := by first | exact PassesOwn.never | assumption)
    (hg : Gl X "range" := by rfl) (hs : starEach [a] X.env = [(false, eval a X.env)] := by rfl) (hc : X.calm = true := by rfl) (hfs : ∀ x, foldedSetIterable (.Call (.Name "range" p) [a] [] pos) X.env x = pure x := by intro _; rfl) {q pos' : Pos} :
    JS X pin (.For (.Name n q) (.Call (.Name "range" p) [a] [] pos) body [] pos') σ Φ := by
  have hj : JI X (.Name n q) (.Call (.Name "range" p) [a] [] pos) (fzR σ) (rangeD 0 m) := by
    have := ji_range1 (X := X) (tg := .Name n q) (p := p) (pos := pos) T.range ha (by omega) (by omega) hg hs
    rwa [Int.toNat_natCast] at this
  refine js_for (pat := .nm i) I hj (pg_name nd hi hx hf) h0 (fun k d σ hd hI => ?_) (fun σ h => done σ (by rw [rangeD_length] at h; exact h)) hps (fun j hj => (List.mem_singleton.mp hj : j = i) ▸ hp) hc hfs
  obtain ⟨rfl, hk⟩ := rangeD_get hd
  refine ⟨_, rfl, ?_⟩
  rw [Int.zero_add]
  exact turn k σ hk hI
/-- for x in a list or tuple of a kind -/
theorem js_each {α : Type} {i : Nat} (xs : List α) (g : α → D) (I : Nat → RhoS → Prop) (hj : JI X (.Name n pos) iter (fzR σ) (xs.map g)) (nd : X.N.Nodup) (h0 : I 0 σ) (turn : ∀ (k : Nat) x σ, xs[k]? = some x → I k σ → JSs X pin body (σ.set i (some (.fz (g x)))) (turnO (I (k + 1)) Φ)) (done : ∀ σ, I xs.length σ → Φ (.nx σ))
    (hi : X.N[i]? = some n := by rfl) (hx : Loc X.env.scope n := by first | exact Or.inl rfl | exact Or.inr rfl) (hf : X.fn n = true ∨ X.env.scope.names.lookup n = some .local := by first | exact .inl rfl | exact .inr rfl) (hp : i ∉ pin := by decide) (hps : PassesOwn (model X.prog X.w) X.A X.env X.xe := by first | exact PassesOwn.never | assumption)
    (hc : X.calm = true := by rfl) (hfs : ∀ x, foldedSetIterable iter X.env x = pure x := by intro _; rfl) {pos' : Pos} :
    JS X pin (.For (.Name n pos) iter body [] pos') σ Φ := by
  refine js_for (pat := .nm i) I hj (pg_name nd hi hx hf) h0 (fun k d σ hd hI => ?_) (fun σ h => done σ (by rw [List.length_map] at h; exact h)) hps (fun j hj => (List.mem_singleton.mp hj : j = i) ▸ hp) hc hfs
  obtain ⟨x, hx, rfl⟩ := map_get hd
  exact ⟨_, rfl, turn k x σ hx hI⟩
end
theorem cmulL {i j : Int} (h1 : -(2 ^ 64) < i := by decide) (h2 : i < 2 ^ 64 := by decide) : CMul i j := .inl ⟨h1, h2⟩
theorem cmulR {i j : Int} (h1 : -(2 ^ 64) < j := by decide) (h2 : j < 2 ^ 64 := by decide) : CMul i j := .inr ⟨h1, h2⟩
end Pf

namespace Pf
open PySem PyProof.Rows L2
open Evl (Ex)
mutual
def fitD : Nat → D → Bool
  | _, .non => true
  | _, .bl _ => true
  | _, .int _ => true
  | _, .str x => PySem.PyData.strOk x
  | n + 1, .lst xs => fitAllD n xs
  | n + 1, .tup xs => fitAllD n xs
  | _, _ => false
def fitAllD : Nat → List D → Bool
  | _, [] => true
  | n, x :: xs => fitD n x && fitAllD n xs
end
mutual
def eqvD : D → D → Bool
  | .non, .non => true
  | .bl a, .bl b => a == b
  | .bl a, .int b => (if a then 1 else 0) == b
  | .int a, .bl b => a == (if b then 1 else 0)
  | .int a, .int b => a == b
  | .str a, .str b => a == b
  | .lst xs, .lst ys => eqvAllD xs ys
  | .tup xs, .tup ys => eqvAllD xs ys
  | _, _ => false
def eqvAllD : List D → List D → Bool
  | [], [] => true
  | x :: xs, y :: ys => eqvD x y && eqvAllD xs ys
  | _, _ => false
end
mutual
theorem fit_py : ∀ (n : Nat) (d : D), fitD n d = true → ∃ p, toPy d = some p ∧ p.canLay0 = true ∧ p.depth ≤ n
  | _, .non, _ => ⟨.none, by simp [toPy], by simp [PyData.canLay0], by simp [PyData.depth]⟩
  | _, .bl b, _ => ⟨.bool b, by simp [toPy], by simp [PyData.canLay0], by simp [PyData.depth]⟩
  | _, .int b, _ => ⟨.int b, by simp [toPy], by simp [PyData.canLay0], by simp [PyData.depth]⟩
  | _, .str x, h => ⟨.str x, by simp [toPy], by simpa [PyData.canLay0, fitD] using h, by simp [PyData.depth]⟩
  | n + 1, .lst xs, h => by
    obtain ⟨ps, h1, h2, h3⟩ := fitAll_py n xs (by simpa [fitD] using h)
    exact ⟨.list ps, by simp [toPy, h1], by simpa [PyData.canLay0] using h2, by simp [PyData.depth]; omega⟩
  | n + 1, .tup xs, h => by
    obtain ⟨ps, h1, h2, h3⟩ := fitAll_py n xs (by simpa [fitD] using h)
    exact ⟨.tuple ps, by simp [toPy, h1], by simpa [PyData.canLay0] using h2, by simp [PyData.depth]; omega⟩
  | 0, .lst xs, h => by simp [fitD] at h
  | 0, .tup xs, h => by simp [fitD] at h
  | _, .dct _, h => by simp [fitD] at h
  | _, .ins _ _, h => by simp [fitD] at h
  | _, .scr _, h => by simp [fitD] at h
  | _, .ty _, h => by simp [fitD] at h
theorem fitAll_py : ∀ (n : Nat) (ds : List D), fitAllD n ds = true → ∃ ps, toPys ds = some ps ∧ PyData.canLayAll0 ps = true ∧ PyData.depthAll ps ≤ n
  | _, [], _ => ⟨[], by simp [toPys], by simp [PyData.canLayAll0], by simp [PyData.depthAll]⟩
  | n, x :: xs, h => by
    have h' : fitD n x = true ∧ fitAllD n xs = true := by simpa [fitAllD] using h
    obtain ⟨p, h1, h2, h3⟩ := fit_py n x h'.1
    obtain ⟨ps, k1, k2, k3⟩ := fitAll_py n xs h'.2
    exact ⟨p :: ps, by simp [toPys, h1, k1], by simp [PyData.canLayAll0, h2, k2], by simp [PyData.depthAll]; omega⟩
end
mutual
theorem eqv_py : ∀ (n : Nat) (d e : D) (p q : PyData), fitD n d = true → fitD n e = true → toPy d = some p → toPy e = some q → PyData.eqv p q = eqvD d e := by
  intro n d e p q h1 h2 h3 h4
  cases d <;> simp only [toPy, Option.some.injEq, Option.map_eq_some_iff, reduceCtorEq] at h3 <;>
    cases e <;> simp only [toPy, Option.some.injEq, Option.map_eq_some_iff, reduceCtorEq] at h4 <;>
    first
    | (subst h3; subst h4; simp [PyData.eqv, eqvD]; done)
    | (obtain ⟨ps, h3, rfl⟩ := h3; subst h4; simp [PyData.eqv, eqvD]; done)
    | (obtain ⟨ps, h4, rfl⟩ := h4; subst h3; simp [PyData.eqv, eqvD]; done)
    | (obtain ⟨ps, h3, rfl⟩ := h3
       obtain ⟨qs, h4, rfl⟩ := h4
       first
       | (simp [PyData.eqv, eqvD]; done)
       | (simp only [PyData.eqv, eqvD]
          cases n with
          | zero => simp [fitD] at h1
          | succ n => exact eqvAll_py n _ _ ps qs (by simpa [fitD] using h1) (by simpa [fitD] using h2) h3 h4))
theorem eqvAll_py : ∀ (n : Nat) (ds es : List D) (ps qs : List PyData), fitAllD n ds = true → fitAllD n es = true → toPys ds = some ps → toPys es = some qs → PyData.eqvAll ps qs = eqvAllD ds es
  | n, [], [], ps, qs, _, _, h3, h4 => by simp [toPys] at h3 h4; subst h3; subst h4; simp [PyData.eqvAll, eqvAllD]
  | n, [], e :: es, ps, qs, _, h2, h3, h4 => by
    have h' : fitD n e = true ∧ fitAllD n es = true := by simpa [fitAllD] using h2
    obtain ⟨q, k1, _, _⟩ := fit_py n e h'.1
    obtain ⟨qs', k2, _, _⟩ := fitAll_py n es h'.2
    simp [toPys] at h3; subst h3
    simp [toPys, k1, k2] at h4; subst h4
    simp [PyData.eqvAll, eqvAllD]
  | n, e :: es, [], ps, qs, h2, _, h4, h3 => by
    have h' : fitD n e = true ∧ fitAllD n es = true := by simpa [fitAllD] using h2
    obtain ⟨q, k1, _, _⟩ := fit_py n e h'.1
    obtain ⟨qs', k2, _, _⟩ := fitAll_py n es h'.2
    simp [toPys] at h3; subst h3
    simp [toPys, k1, k2] at h4; subst h4
    simp [PyData.eqvAll, eqvAllD]
  | n, d :: ds, e :: es, ps, qs, h1, h2, h3, h4 => by
    have h1' : fitD n d = true ∧ fitAllD n ds = true := by simpa [fitAllD] using h1
    have h2' : fitD n e = true ∧ fitAllD n es = true := by simpa [fitAllD] using h2
    obtain ⟨p, k1, _, _⟩ := fit_py n d h1'.1
    obtain ⟨ps', k2, _, _⟩ := fitAll_py n ds h1'.2
    obtain ⟨q, l1, _, _⟩ := fit_py n e h2'.1
    obtain ⟨qs', l2, _, _⟩ := fitAll_py n es h2'.2
    simp [toPys, k1, k2] at h3; subst h3
    simp [toPys, l1, l2] at h4; subst h4
    simp only [PyData.eqvAll, eqvAllD, eqv_py n d e p q h1'.1 h2'.1 k1 l1, eqvAll_py n ds es ps' qs' h1'.2 h2'.2 k2 l2]
end
theorem shaped_of {p : PyData} {n : Nat} (h1 : p.canLay0 = true) (h2 : p.depth ≤ n) (hn : n ≤ 60) : SeqAt.shaped p = true := by
  unfold SeqAt.shaped
  rw [h1, Bool.true_and]
  exact decide_eq_true (by omega)
section
variable {X : Cx} {d e : D} {n : Nat}
theorem cd_eqF (n : Nat) (hu : X.A.units + 64 < cLine) (h1 : fitD n d = true) (h2 : fitD n e = true) (hn : n ≤ 60 := by decide) : CmD X .Eq d e (eqvD d e) := by
  obtain ⟨p, a1, a2, a3⟩ := fit_py n d h1
  obtain ⟨q, b1, b2, b3⟩ := fit_py n e h2
  exact cd_eqD hu a1 b1 (shaped_of a2 a3 hn) (shaped_of b2 b3 hn) (eqv_py n d e p q h1 h2 a1 b1)
theorem cd_neF (n : Nat) (hu : X.A.units + 64 < cLine) (h1 : fitD n d = true) (h2 : fitD n e = true) (hn : n ≤ 60 := by decide) : CmD X .NotEq d e (!eqvD d e) := by
  obtain ⟨p, a1, a2, a3⟩ := fit_py n d h1
  obtain ⟨q, b1, b2, b3⟩ := fit_py n e h2
  exact cd_neD hu a1 b1 (shaped_of a2 a3 hn) (shaped_of b2 b3 hn) (eqv_py n d e p q h1 h2 a1 b1)
end
mutual
theorem eqvD_refl : ∀ (n : Nat) (d : D), fitD n d = true → eqvD d d = true
  | _, .non, _ => by simp [eqvD]
  | _, .bl b, _ => by simp [eqvD]
  | _, .int b, _ => by simp [eqvD]
  | _, .str x, h => by simp [eqvD]
  | n + 1, .lst xs, h => by simp only [eqvD]; exact eqvAllD_refl n xs (by simpa [fitD] using h)
  | n + 1, .tup xs, h => by simp only [eqvD]; exact eqvAllD_refl n xs (by simpa [fitD] using h)
  | 0, .lst xs, h => by simp [fitD] at h
  | 0, .tup xs, h => by simp [fitD] at h
  | _, .dct _, h => by simp [fitD] at h
  | _, .ins _ _, h => by simp [fitD] at h
  | _, .scr _, h => by simp [fitD] at h
  | _, .ty _, h => by simp [fitD] at h
theorem eqvAllD_refl : ∀ (n : Nat) (ds : List D), fitAllD n ds = true → eqvAllD ds ds = true
  | _, [], _ => by simp [eqvAllD]
  | n, x :: xs, h => by
    have h' : fitD n x = true ∧ fitAllD n xs = true := by simpa [fitAllD] using h
    simp [eqvAllD, eqvD_refl n x h'.1, eqvAllD_refl n xs h'.2]
end
theorem fitStrs (n : Nat) : ∀ (xs : List Str), (∀ x ∈ xs, PySem.PyData.strOk x = true) → fitAllD n (xs.map D.str) = true
  | [], _ => by simp [fitAllD]
  | x :: xs, h => by simp [fitAllD, fitD, h x List.mem_cons_self, fitStrs n xs fun y hy => h y (List.mem_cons_of_mem _ hy)]
theorem eqv_strsNil : ∀ (xs : List Str), eqvD (.tup (xs.map D.str)) (.tup []) = decide (xs = [])
  | [] => by simp [eqvD, eqvAllD]
  | x :: xs => by simp [eqvD, eqvAllD]
end Pf

namespace Pf
open PySem PyProof.Rows L2
open Evl (Ex)
theorem atI_map {α : Type} (f : α → D) (x0 : α) {L : List α} {i : Int} (h0 : 0 ≤ i) (h1 : i < L.length) : atI (L.map f) i = some (f (L.getD i.toNat x0)) := by
  have h2 : i.toNat < L.length := by omega
  unfold atI ixN
  rw [List.length_map, if_pos h0, if_pos h1]
  show (L.map f)[i.toNat]? = _
  rw [List.getElem?_map, List.getElem?_eq_getElem h2, List.getD_eq_getElem?_getD, List.getElem?_eq_getElem h2]
  rfl
theorem cut_map {α β : Type} (f : α → β) (xs : List α) (a b : Option Int) : cut (xs.map f) a b = (cut xs a b).map f := by
  unfold cut
  rw [List.length_map, ← List.map_drop, ← List.map_take]
theorem cut_len {α : Type} (xs : List α) (a b : Option Int) : (cut xs a b).length ≤ xs.length := by
  unfold cut
  rw [List.length_take, List.length_drop]
  omega
section
variable {X : Cx} {elt tg iter : Expr} {ifs : List Expr} {scope : Scope} {own : List (Str × Nat)} {pos : Pos} {ρ : Rho}
/-- a comprehension without a test -/
theorem j_lcM {α : Type} {i : Nat} (xs : List α) (g : α → D) (h : α → D) (hi : JI X tg iter ρ (xs.map g)) (ok : BlkOk X.N X.env.scope scope own) (hg : ∀ s H C cl fp, PG (blkX X scope s H C cl fp) tg (gName i)) (hlen : xs.length < sizeLine)
    (turn : ∀ x ∈ xs, ∀ s H C cl fp, J (blkX X scope s H C cl fp) elt ((wipeR ρ (own.map (·.2))).set i (some (g x))) (h x)) (hN : X.N.Nodup) (hown : i ∈ own.map (·.2) := by decide) (hc : X.calm = true := by rfl) (hs : ∀ x, foldedSetIterable iter X.env x = pure x := by intro _; rfl) :
    J X (.ListComp elt [⟨tg, iter, [], 0⟩] scope pos) ρ (.lst (xs.map h)) := by
  have := j_lcN (X := X) (elt := elt) (tg := tg) (iter := iter) (ifs := []) (scope := scope) (own := own) (pos := pos) (ρ := ρ) (i := i) xs g (fun _ => true) h hi ok hg hlen (fun x hx s H C cl fp => ⟨jts_nil, fun _ => turn x hx s H C cl fp⟩) hN hown hc hs
  rwa [List.filter_eq_self.mpr (fun _ _ => rfl)] at this
end
section
variable {X : Cx} {a b c : Expr} {rest : List Expr} {ρ : Rho} {pos : Pos} {d1 d2 : D}
theorem jw_orT (h : JT X a ρ true) : JW X (.BoolOp .Or (a :: b :: rest) pos) ρ true := jw_or (u := true) h (fun z => Bool.noConfusion z)
theorem jw_andF (h : JT X a ρ false) : JW X (.BoolOp .And (a :: b :: rest) pos) ρ false := jw_and (u := true) h (fun z => Bool.noConfusion z)
theorem j_andFa (h : J X a ρ (.bl false)) : J X (.BoolOp .And (a :: b :: rest) pos) ρ (.bl false) := j_and (u := true) h (fun z => Bool.noConfusion z)
theorem j_ifT (h : JT X c ρ true) (h1 : J X a ρ d1) : J X (.IfExp c a b pos) ρ d1 := (j_ifExp (d2 := d1) h (fun _ => h1) (fun z => Bool.noConfusion z)).to (by rw [if_pos rfl])
theorem j_ifF (h : JT X c ρ false) (h1 : J X b ρ d1) : J X (.IfExp c a b pos) ρ d1 := (j_ifExp (d1 := d1) h (fun z => Bool.noConfusion z) (fun _ => h1)).to (by rw [if_neg Bool.false_ne_true])
end
theorem ji_rangeN {X : Cx} {tg a : Expr} {ρ : Rho} {i : Int} {p pos : Pos} (n : Nat) (T : Bt X.mg) (h : J X a ρ (.int i)) (hn : i.toNat = n) (h1 : -(2 ^ 62) ≤ i) (h2 : i < 2 ^ 62) (hg : Gl X "range" := by rfl) (hs : starEach [a] X.env = [(false, eval a X.env)] := by rfl) :
    JI X tg (.Call (.Name "range" p) [a] [] pos) ρ ((List.range n).map fun k => D.int (0 + (k : Nat))) := by
  have := ji_range1 (X := X) (tg := tg) (p := p) (pos := pos) T.range h h1 h2 hg hs
  rw [hn] at this
  exact this
theorem atI_mapN {α : Type} (f : α → D) (x0 : α) {L : List α} {i : Int} (n : Nat) (h0 : i = (n : Int)) (h1 : n < L.length) : atI (L.map f) i = some (f (L.getD n x0)) := by
  subst h0
  have := atI_map f x0 (L := L) (i := (n : Int)) (by omega) (by omega)
  rwa [Int.toNat_natCast] at this
end Pf

namespace Pf
open PySem L2
open Evl (Ex)
section
variable {K : PySem.W.Frag} {Hf H : Hp}
/-- the value of a field, and how the whole stands when it alone is changed -/
theorem own_at {f : Str} {d : D} : ∀ {fds : List (Str × D)} {fs : List (Str × V)} {B : List Addr}, fs.map (·.1) = fds.map (·.1) → OwnFs K Hf H (fds.map (·.2)) (fs.map (·.2)) B → fds.lookup f = some d →
    ∃ v Af, fs.lookup f = some v ∧ Own K Hf H d v Af ∧ (mutD d = true → Af ≠ []) ∧ (∀ a ∈ Af, a ∈ B) ∧ ∀ {H' : Hp} {d' : D} {Ag : List Addr}, (∀ b ∈ B, b ∉ Af → H' b = H b) → Own K Hf H' d' v Ag → (∀ a ∈ Ag, a ∈ Af ∨ a ∉ B) → (mutD d' = true → Ag ≠ []) →
      ∃ B', OwnFs K Hf H' ((putD f d' fds).map (·.2)) (fs.map (·.2)) B' ∧ (putD f d' fds).map (·.1) = fds.map (·.1) ∧ ∀ a ∈ B', a ∈ B ∨ a ∈ Ag
  | [], _, _, _, _, h => by cases h
  | _ :: _, [], _, h, _, _ => by cases h
  | (g, u) :: r0, (g', u') :: r', _, hn, hr, hf => by
    simp only [List.map_cons, List.cons.injEq] at hn
    obtain ⟨hg, hn⟩ := hn
    subst hg
    cases hr with
    | @cons _ _ _ _ A0 B0 q t nd w =>
      rw [List.lookup_cons] at hf
      by_cases e : g' = f
      · subst e
        rw [show (g' == g') = true from beq_self_eq_true _] at hf
        cases hf
        refine ⟨u', A0, by rw [List.lookup_cons, show (g' == g') = true from beq_self_eq_true _], q, w, fun a ha => List.mem_append_left _ ha, fun {H' d' Ag} hH ow hA hw => ⟨Ag ++ B0, ?_, ?_, ?_⟩⟩
        · unfold putD
          rw [if_pos rfl]
          refine .cons ow (t.move (.refl _) fun b hb => hH b (List.mem_append_right _ hb) fun z => nd b z hb) (fun a ha hb => ?_) hw
          rcases hA a ha with z | z
          · exact nd a z hb
          · exact z (List.mem_append_right _ hb)
        · unfold putD; rw [if_pos rfl]; rfl
        · intro a ha
          rcases List.mem_append.mp ha with z | z
          · exact .inr z
          · exact .inl (List.mem_append_right _ z)
      · have e' : (f == g') = false := by rw [beq_eq_false_iff_ne]; exact fun z => e z.symm
        rw [e'] at hf
        obtain ⟨v, Af, k1, k2, kw, k3, k4⟩ := own_at hn t hf
        refine ⟨v, Af, by rw [List.lookup_cons, e']; exact k1, k2, kw, fun a ha => List.mem_append_right _ (k3 a ha), fun {H' d' Ag} hH ow hA hw => ?_⟩
        obtain ⟨B', m1, m2, m3⟩ := k4 (fun b hb => hH b (List.mem_append_right _ hb)) ow (fun a ha => by
          rcases hA a ha with z | z
          · exact .inl z
          · exact .inr fun y => z (List.mem_append_right _ y)) hw
        refine ⟨A0 ++ B', ?_, ?_, ?_⟩
        · unfold putD
          rw [if_neg e]
          refine .cons (q.move (.refl _) fun a ha => hH a (List.mem_append_left _ ha) fun z => nd a ha (k3 a z)) m1 (fun a ha hb => ?_) w
          rcases m3 a hb with z | z
          · exact nd a ha z
          · rcases hA a z with y | y
            · exact nd a ha (k3 a y)
            · exact y (List.mem_append_left _ ha)
        · unfold putD; rw [if_neg e]; simp only [List.map_cons, m2]
        · intro a ha
          rcases List.mem_append.mp ha with z | z
          · exact .inl (List.mem_append_left _ z)
          · rcases m3 a z with y | y
            · exact .inl (List.mem_append_right _ y)
            · exact .inr y
/-- a field is set to a new own object -/
theorem putD_ownG {f : Str} {d : D} {v : V} {Ag : List Addr} (r : Own K Hf H d v Ag) (hw : Ag ≠ []) : ∀ {fds : List (Str × D)} {fs : List (Str × V)} {B : List Addr}, fs.map (·.1) = fds.map (·.1) → OwnFs K Hf H (fds.map (·.2)) (fs.map (·.2)) B → (∀ a ∈ Ag, a ∉ B) →
    ∃ B', (∀ b ∈ B', b ∈ B ∨ b ∈ Ag) ∧ OwnFs K Hf H ((putD f d fds).map (·.2)) ((putF f v fs).map (·.2)) B'
  | [], [], _, _, _, _ => ⟨Ag ++ [], fun b hb => .inr (by simpa using hb), .cons r .nil (fun _ _ h => by cases h) (fun _ => hw)⟩
  | [], _ :: _, _, h, _, _ => by cases h
  | _ :: _, [], _, h, _, _ => by cases h
  | (g, u) :: r0, (g', u') :: r', _, h, hr, hA => by
    simp only [List.map_cons, List.cons.injEq] at h
    obtain ⟨hg, h⟩ := h
    subst hg
    cases hr with
    | @cons _ _ _ _ A B q t nd w =>
      unfold putF putD
      by_cases e : g' = f
      · rw [if_pos e, if_pos e]
        exact ⟨Ag ++ B, fun b hb => by
          rcases List.mem_append.mp hb with z | z
          · exact .inr z
          · exact .inl (List.mem_append_right _ z), .cons r t (fun a ha hb => hA a ha (List.mem_append_right _ hb)) fun _ => hw⟩
      · rw [if_neg e, if_neg e]
        obtain ⟨B', h1, h2⟩ := putD_ownG r hw h t fun a ha hb => hA a ha (List.mem_append_right _ hb)
        exact ⟨A ++ B', fun b hb => by
          rcases List.mem_append.mp hb with z | z
          · exact .inl (List.mem_append_left _ z)
          · exact (h1 b z).imp_left fun y => List.mem_append_right _ y, .cons q h2 (fun a ha hb => by
          rcases h1 a hb with z | z
          · exact nd a ha z
          · exact hA a z (List.mem_append_left _ ha)) w⟩
end
section
variable {K : PySem.W.Frag} {E : Ent} {ρ : RhoS} {σ : L2.St} {H Hf : Hp} {A : Nat → List Addr} {i : Nat} {C : Addr} {fds : List (Str × D)} {f : Str} {d : D}
theorem StAt.updF (s : StAt K E ρ σ H Hf A) (hi : ρ[i]? = some (some (.ow (.ins C fds)))) (hf : fds.lookup f = some d) :
    ∃ ad dx fs v Af, σ[i]? = some (some (.ref ad)) ∧ H ad = some (.ins C dx fs) ∧ fs.length = fds.length ∧ fs.lookup f = some v ∧ Own K Hf H d v Af ∧ (mutD d = true → Af ≠ []) ∧ ad ∉ Af ∧ (∀ a ∈ Af, Hf a = none ∧ H a ≠ none) ∧
      ∀ {H' : Hp} {d' : D} {Ag : List Addr}, (∀ b, b ∉ Af → H b ≠ none → H' b = H b) → (∀ b, H' b = none → H b = none) → Own K Hf H' d' v Ag → (∀ a ∈ Ag, H' a ≠ none ∧ (a ∈ Af ∨ H a = none)) → (mutD d' = true → Ag ≠ []) →
        StOk K E (ρ.set i (some (.ow (.ins C (putD f d' fds))))) σ H' := by
  obtain ⟨v0, hσ, ow, ne⟩ := s.sl i _ hi
  generalize hA : A i = Ai at ow ne
  cases ow with
  | fz _ => exact absurd rfl ne
  | @ins ad _ dx fs _ B h1 h2 h3 nB =>
    obtain ⟨v, Af, k1, k2, kw, k3, k4⟩ := own_at h2 h3 hf
    have inA : ∀ a ∈ B, a ∈ A i := fun a ha => by rw [hA]; exact List.mem_cons_of_mem _ ha
    have adA : ad ∈ A i := by rw [hA]; exact List.mem_cons_self
    have nAf : ad ∉ Af := fun z => nB (k3 _ z)
    refine ⟨ad, dx, fs, v, Af, hσ, h1, by have := congrArg List.length h2; simpa using this, k1, k2, kw, nAf, fun a ha => ⟨(s.ap i a (inA a (k3 a ha))).1, (s.ap i a (inA a (k3 a ha))).2.1⟩, fun {H' d' Ag} c1 c2 c3 c4 c5 => ?_⟩
    have live : ∀ b ∈ A i, H b ≠ none := fun b hb => (s.ap i b hb).2.1
    obtain ⟨B', m1, m2, m3⟩ := k4 (fun b hb hn => c1 b hn (live b (inA b hb))) c3 (fun a ha => (c4 a ha).2.imp_right fun z y => live a (inA a y) z) c5
    have nB' : ad ∉ B' := fun z => by
      rcases m3 ad z with y | y
      · exact nB y
      · rcases (c4 ad y).2 with x | x
        · exact nAf x
        · exact live ad adA x
    refine ⟨Hf, _, s.after hi hσ (A' := ad :: B') ⟨.refl _, fun b o h => ?_, fun b o h hb => ?_, c2, fun b h1 h2 => absurd h2 h1, .ins (by rw [c1 ad nAf (live ad adA)]; exact h1) (by rw [m2]; exact h2) m1 nB', by simp, fun b hb => ?_⟩⟩
    · have hb : b ∉ Af := fun z => by
        have := (s.ap i b (inA b (k3 b z))).1
        rw [h] at this; cases this
      have hs := s.fh b o h
      rw [c1 b hb (by rw [hs]; simp)]; exact hs
    · rw [c1 b (fun z => hb (inA b (k3 b z))) (by rw [h]; simp)]; exact h
    · rcases List.mem_cons.mp hb with z | z
      · rw [z]; exact ⟨(s.ap i ad adA).1, by rw [c1 ad nAf (live ad adA)]; exact live ad adA, .inl adA⟩
      · by_cases hg : b ∈ Ag
        · have h5 := c4 b hg
          rcases h5.2 with y | y
          · exact ⟨(s.ap i b (inA b (k3 b y))).1, h5.1, .inl (inA b (k3 b y))⟩
          · exact ⟨Evl.fresh_back s.fh y, h5.1, .inr y⟩
        · have hB : b ∈ B := (m3 b z).resolve_right hg
          refine ⟨(s.ap i b (inA b hB)).1, ?_, .inl (inA b hB)⟩
          intro hz
          exact live b (inA b hB) (c2 b hz)
/-- a field is set to an object that has just been made -/
theorem StAt.newF (s : StAt K E ρ σ H Hf A) (hi : ρ[i]? = some (some (.ow (.ins C fds)))) {l : Addr} {o : HO} {d' : D} (hl : H l = none) (ow : ∀ H', H' l = some o → Own K Hf H' d' (.ref l) [l]) :
    ∃ ad dx fs, σ[i]? = some (some (.ref ad)) ∧ ad ≠ l ∧ H ad = some (.ins C dx fs) ∧ fs.length = fds.length ∧ StOk K E (ρ.set i (some (.ow (.ins C (putD f d' fds))))) σ (upd (upd H l o) ad (.ins C dx (putF f (.ref l) fs))) := by
  obtain ⟨v0, hσ, ow0, ne⟩ := s.sl i _ hi
  generalize hA : A i = Ai at ow0 ne
  cases ow0 with
  | fz _ => exact absurd rfl ne
  | @ins ad _ dx fs _ B h1 h2 h3 nB =>
    have inA : ∀ a ∈ B, a ∈ A i := fun a ha => by rw [hA]; exact List.mem_cons_of_mem _ ha
    have adA : ad ∈ A i := by rw [hA]; exact List.mem_cons_self
    have live : ∀ b ∈ A i, H b ≠ none := fun b hb => (s.ap i b hb).2.1
    have nl : ad ≠ l := fun z => live ad adA (by rw [z]; exact hl)
    refine ⟨ad, dx, fs, hσ, nl, h1, by have := congrArg List.length h2; simpa using this, ?_⟩
    have hB : ∀ b ∈ B, upd (upd H l o) ad (.ins C dx (putF f (.ref l) fs)) b = H b := fun b hb => by
      rw [upd_ne fun z => nB (by rw [← z]; exact hb), upd_ne fun z => live b (inA b hb) (by rw [z]; exact hl)]
    have hll : upd (upd H l o) ad (.ins C dx (putF f (.ref l) fs)) l = some o := by rw [upd_ne nl.symm, upd_same]
    obtain ⟨B', m1, m2⟩ := putD_ownG (f := f) (ow _ hll) (by simp) h2 (h3.move (.refl _) hB) (fun a ha hb => by
      have e : a = l := by simpa using ha
      subst e
      exact live _ (inA _ hb) hl)
    have hu : ∀ b, b ≠ ad → b ≠ l → upd (upd H l o) ad (.ins C dx (putF f (.ref l) fs)) b = H b := fun b q1 q2 => by rw [upd_ne q1, upd_ne q2]
    have nB' : ad ∉ B' := fun z => by
      rcases m1 ad z with y | y
      · exact nB y
      · exact nl (by simpa using y)
    refine ⟨Hf, _, s.after hi hσ (A' := ad :: B') ⟨.refl _, fun b o' h => ?_, fun b o' h hb => ?_, fun b h => ?_, fun b h1 h2 => absurd h2 h1, .ins upd_same (putD_names h2) m2 nB', by simp, fun b hb => ?_⟩⟩
    · have e1 : b ≠ ad := fun z => by
        have := (s.ap i ad adA).1
        rw [← z, h] at this; cases this
      have hs := s.fh b o' h
      have e2 : b ≠ l := fun z => by rw [z, hl] at hs; cases hs
      rw [hu b e1 e2]; exact hs
    · have e1 : b ≠ ad := fun z => hb (by rw [z]; exact adA)
      have e2 : b ≠ l := fun z => by rw [z, hl] at h; cases h
      rw [hu b e1 e2]; exact h
    · by_cases e1 : b = ad
      · rw [e1, upd_same] at h; cases h
      · by_cases e2 : b = l
        · rw [e2]; exact hl
        · rw [hu b e1 e2] at h; exact h
    · rcases List.mem_cons.mp hb with z | z
      · rw [z]; exact ⟨(s.ap i ad adA).1, by rw [upd_same]; simp, .inl adA⟩
      · rcases m1 b z with y | y
        · exact ⟨(s.ap i b (inA b y)).1, by rw [hB b y]; exact live b (inA b y), .inl (inA b y)⟩
        · have e : b = l := by simpa using y
          rw [e]
          exact ⟨Evl.fresh_back s.fh hl, by rw [hll]; simp, .inr hl⟩
end
end Pf

namespace Pf
open PySem L2
open Evl (Ex)
def getD (kds : List (Key × D)) (k : Key) : Option D := (kds.find? fun kv => decide (kv.1 = k)).map (·.2)
def hasD (kds : List (Key × D)) (k : Key) : Bool := kds.any fun kv => decide (kv.1 = k)
def setD (kds : List (Key × D)) (k : Key) (d : D) : List (Key × D) := if hasD kds k = true then kds.map (fun kv => if kv.1 = k then (kv.1, d) else kv) else kds ++ [(k, d)]
def delD (kds : List (Key × D)) (k : Key) : List (Key × D) := kds.filter fun kv => decide (kv.1 ≠ k)
section
variable {K : PySem.W.Frag} {Hf H : Hp}
theorem has_keys : ∀ {kds : List (Key × D)} {kvs : List (Key × V)} {k : Key}, kvs.map (·.1) = kds.map (·.1) → (kvs.any fun kv => decide (kv.1 = k)) = hasD kds k
  | [], [], _, _ => rfl
  | [], _ :: _, _, h => by cases h
  | _ :: _, [], _, h => by cases h
  | (g, u) :: r, (g', u') :: r', k, h => by
    simp only [List.map_cons, List.cons.injEq] at h
    obtain ⟨hg, h⟩ := h
    subst hg
    have := has_keys (k := k) h
    unfold hasD at this ⊢
    rw [List.any_cons, List.any_cons, this]
theorem get_rep : ∀ {kds : List (Key × D)} {kvs : List (Key × V)} {k : Key} {d : D}, kvs.map (·.1) = kds.map (·.1) → RepAll K H (kds.map (·.2)) (kvs.map (·.2)) → getD kds k = some d → ∃ v, valV kvs k = some v ∧ Rep K H d v
  | [], [], _, _, _, _, h => by cases h
  | [], _ :: _, _, _, h, _, _ => by cases h
  | _ :: _, [], _, _, h, _, _ => by cases h
  | (g, u) :: r, (g', u') :: r', k, d, h, hr, hd => by
    simp only [List.map_cons, List.cons.injEq] at h
    obtain ⟨hg, h⟩ := h
    subst hg
    cases hr with
    | cons q t =>
      by_cases e : g' = k
      · subst e
        have : u = d := by simpa [getD] using hd
        subst this
        exact ⟨u', valV_pos rfl, q⟩
      · have hd' : getD r k = some d := by simpa [getD, e] using hd
        obtain ⟨v, h1, h2⟩ := get_rep h t hd'
        exact ⟨v, by rw [valV_neg (p := (g', u')) e]; exact h1, h2⟩
theorem set_keys {k : Key} {d : D} {v : V} {kds : List (Key × D)} {kvs : List (Key × V)} (h : kvs.map (·.1) = kds.map (·.1)) : (putK kvs k v).map (·.1) = (setD kds k d).map (·.1) := by
  unfold putK setD
  rw [has_keys h]
  split
  · rw [List.map_map, List.map_map]
    rw [show ((fun x : Key × V => x.1) ∘ fun kv : Key × V => if kv.1 = k then (kv.1, v) else kv) = fun x => x.1 from funext fun x => by simp only [Function.comp]; split <;> rfl]
    rw [show ((fun x : Key × D => x.1) ∘ fun kv : Key × D => if kv.1 = k then (kv.1, d) else kv) = fun x => x.1 from funext fun x => by simp only [Function.comp]; split <;> rfl]
    exact h
  · rw [List.map_append, List.map_append, h]; rfl
theorem set_map {k : Key} {d : D} {v : V} (r : Rep K Hf d v) (n : insM d = false) : ∀ {kds : List (Key × D)} {kvs : List (Key × V)} {B : List Addr}, kvs.map (·.1) = kds.map (·.1) → OwnAll K Hf H (kds.map (·.2)) (kvs.map (·.2)) B →
    ∃ B', (∀ b ∈ B', b ∈ B) ∧ OwnAll K Hf H ((kds.map fun kv => if kv.1 = k then (kv.1, d) else kv).map (·.2)) ((kvs.map fun kv => if kv.1 = k then (kv.1, v) else kv).map (·.2)) B'
  | [], [], _, _, _ => ⟨[], by simp, .nil⟩
  | [], _ :: _, _, h, _ => by cases h
  | _ :: _, [], _, h, _ => by cases h
  | (g, u) :: r0, (g', u') :: r', _, h, hr => by
    simp only [List.map_cons, List.cons.injEq] at h
    obtain ⟨hg, h⟩ := h
    subst hg
    cases hr with
    | @cons _ _ _ _ A B q t nd w =>
      obtain ⟨B', h1, h2⟩ := set_map r n h t
      by_cases e : g' = k
      · refine ⟨[] ++ B', fun b hb => List.mem_append_right _ (h1 b (by simpa using hb)), ?_⟩
        simp only [List.map_cons, if_pos e]
        exact .cons (.fz r) h2 (by simp) (fun z => by rw [n] at z; cases z)
      · refine ⟨A ++ B', fun b hb => ?_, ?_⟩
        · rcases List.mem_append.mp hb with z | z
          · exact List.mem_append_left _ z
          · exact List.mem_append_right _ (h1 b z)
        · simp only [List.map_cons, if_neg e]
          exact .cons q h2 (fun a ha hb => nd a ha (h1 a hb)) w
theorem set_own {k : Key} {d : D} {v : V} (r : Rep K Hf d v) (n : insM d = false) {kds : List (Key × D)} {kvs : List (Key × V)} {B : List Addr} (h : kvs.map (·.1) = kds.map (·.1)) (hr : OwnAll K Hf H (kds.map (·.2)) (kvs.map (·.2)) B) :
    ∃ B', (∀ b ∈ B', b ∈ B) ∧ OwnAll K Hf H ((setD kds k d).map (·.2)) ((putK kvs k v).map (·.2)) B' := by
  unfold putK setD
  rw [has_keys h]
  split
  · exact set_map r n h hr
  · refine ⟨B, fun _ h => h, ?_⟩
    rw [List.map_append, List.map_append]
    exact hr.snoc r n
theorem del_keys {k : Key} : ∀ {kds : List (Key × D)} {kvs : List (Key × V)}, kvs.map (·.1) = kds.map (·.1) → (dropK kvs k).map (·.1) = (delD kds k).map (·.1)
  | [], [], _ => rfl
  | [], _ :: _, h => by cases h
  | _ :: _, [], h => by cases h
  | (g, u) :: r, (g', u') :: r', h => by
    simp only [List.map_cons, List.cons.injEq] at h
    obtain ⟨hg, h⟩ := h
    subst hg
    have := del_keys (k := k) h
    unfold dropK delD at this ⊢
    by_cases e : g' = k
    · rw [List.filter_cons_of_neg (by simpa using e), List.filter_cons_of_neg (by simpa using e)]
      exact this
    · rw [List.filter_cons_of_pos (by simpa using e), List.filter_cons_of_pos (by simpa using e), List.map_cons, List.map_cons, this]
theorem del_own {k : Key} : ∀ {kds : List (Key × D)} {kvs : List (Key × V)} {B : List Addr}, kvs.map (·.1) = kds.map (·.1) → OwnAll K Hf H (kds.map (·.2)) (kvs.map (·.2)) B →
    ∃ B', (∀ b ∈ B', b ∈ B) ∧ OwnAll K Hf H ((delD kds k).map (·.2)) ((dropK kvs k).map (·.2)) B'
  | [], [], _, _, _ => ⟨[], by simp, .nil⟩
  | [], _ :: _, _, h, _ => by cases h
  | _ :: _, [], _, h, _ => by cases h
  | (g, u) :: r0, (g', u') :: r', _, h, hr => by
    simp only [List.map_cons, List.cons.injEq] at h
    obtain ⟨hg, h⟩ := h
    subst hg
    cases hr with
    | @cons _ _ _ _ A B q t nd w =>
      obtain ⟨B', h1, h2⟩ := del_own (k := k) h t
      unfold dropK delD at h2 ⊢
      by_cases e : g' = k
      · refine ⟨B', fun b hb => List.mem_append_right _ (h1 b hb), ?_⟩
        rw [List.filter_cons_of_neg (by simpa using e), List.filter_cons_of_neg (by simpa using e)]
        exact h2
      · refine ⟨A ++ B', fun b hb => ?_, ?_⟩
        · rcases List.mem_append.mp hb with z | z
          · exact List.mem_append_left _ z
          · exact List.mem_append_right _ (h1 b z)
        · rw [List.filter_cons_of_pos (by simpa using e), List.filter_cons_of_pos (by simpa using e)]
          exact .cons q h2 (fun a ha hb => nd a ha (h1 a hb)) w
end
section
variable {X : Cx} {pin : List Nat} {ρ : RhoS} {Φ : Out → Prop} {e ke : Expr} {d : D} {pos p' p1 p2 p3 : Pos} {i : Nat} {x f : Str} {C : Addr} {fds : List (Str × D)}
/-- x.f = [] and x.f = {} -/
theorem js_fldL0 (hi : ρ[i]? = some (some (.ow (.ins C fds)))) (cl : Cls X.K C) (hn : NoAttr X.K C f) (hl : fds.length < 1000) (hk : Φ (.nx (ρ.set i (some (.ow (.ins C (putD f (.lst []) fds))))))) (hN : X.N[i]? = some x := by rfl) (hv : L2.Vis X.env.scope x := by first | exact Or.inl rfl | exact Or.inr (Or.inl rfl))
    (hd : (x == ("__debug__" : Str)) = false := by decide) (hcd : (x == ("__classdict__" : Str)) = false := by decide) (hs : swapsWith (.List [] p2) (some (.Attribute (.Name x p1) f p')) pos.line X.env = pure false := by rfl) : JS X pin (.Assign [.Attribute (.Name x p1) f p'] (.List [] p2) pos) ρ Φ := ⟨fun E σ H D hpn ⟨Hf, A, s⟩ k => by
  refine .of (ps_fld (pe_var hN hv hd hcd) (pe_lst pa_nil) hs) ⟨by decide, fun q hq => ?_⟩
  obtain ⟨ad, dx, fs, h1, h2, h3, h4, ok⟩ := s.newF (f := f) hi (o := .lst []) (d' := .lst []) hq fun H' h => .lst h .nil (by simp)
  exact ⟨_, h1, ad, C, dx, fs, rfl, by rw [upd_ne h2]; exact h3, cl, hn, by omega, k _ hk σ _ ok⟩⟩
theorem js_fldD0 (hi : ρ[i]? = some (some (.ow (.ins C fds)))) (cl : Cls X.K C) (hn : NoAttr X.K C f) (hl : fds.length < 1000) (hk : Φ (.nx (ρ.set i (some (.ow (.ins C (putD f (.dct []) fds))))))) (hN : X.N[i]? = some x := by rfl) (hv : L2.Vis X.env.scope x := by first | exact Or.inl rfl | exact Or.inr (Or.inl rfl))
    (hd : (x == ("__debug__" : Str)) = false := by decide) (hcd : (x == ("__classdict__" : Str)) = false := by decide) (hs : swapsWith (.Dict [] [] p2) (some (.Attribute (.Name x p1) f p')) pos.line X.env = pure false := by rfl) : JS X pin (.Assign [.Attribute (.Name x p1) f p'] (.Dict [] [] p2) pos) ρ Φ := ⟨fun E σ H D hpn ⟨Hf, A, s⟩ k => by
  refine .of (ps_fld (pe_var hN hv hd hcd) pe_dnewK hs) fun q hq => ?_
  obtain ⟨ad, dx, fs, h1, h2, h3, h4, ok⟩ := s.newF (f := f) hi (o := .dK []) (d' := .dct []) hq fun H' h => .dct h rfl .nil (by simp)
  exact ⟨_, h1, ad, C, dx, fs, rfl, by rw [upd_ne h2]; exact h3, cl, hn, by omega, k _ hk σ _ ok⟩⟩
/-- x.f op= e, ints -/
theorem js_fldAdd {m n : Int} (hi : ρ[i]? = some (some (.ow (.ins C fds)))) (hf : fds.lookup f = some (.int m)) (h : J X e (allR ρ) (.int n)) (cl : Cls X.K C) (hn : NoAttr X.K C f) (hl : fds.length < 1000) (hk : Φ (.nx (ρ.set i (some (.ow (.ins C (putD f (.int (m + n)) fds))))))) (hN : X.N[i]? = some x := by rfl) (hv : L2.Vis X.env.scope x := by first | exact Or.inl rfl | exact Or.inr (Or.inl rfl))
    (hd : (x == ("__debug__" : Str)) = false := by decide) (hcd : (x == ("__classdict__" : Str)) = false := by decide) : JS X pin (.AugAssign (.Attribute (.Name x p1) f p') .Add e pos) ρ Φ := ⟨fun E σ H D hpn ⟨Hf, A, s⟩ k => by
  refine .of (ps_fldaug (pe_var hN hv hd hcd) pe_w in_add) ?_
  obtain ⟨ad, dx, fs, v, Af, h1, h2, h3, h4, h5, _, h6, h7, _⟩ := s.updF hi hf
  cases h5 with
  | fz r =>
    cases r
    refine ⟨_, h1, ad, C, dx, fs, _, rfl, h2, cl, hn, h4, ?_⟩
    refine h H σ H (.refl _) s.visH _ fun y W' H' st r => ?_
    cases r
    obtain ⟨a, dx', fs', e, g1, g2, ok⟩ := (s.grow st.hh).fld (f := f) (y := .int (m + n)) hi h1 (.int (m + n)) rfl
    cases e
    exact ⟨m, n, rfl, rfl, dx', fs', g1, by omega, k _ hk σ _ ok⟩⟩
end
section
variable {K : PySem.W.Frag} {E : Ent} {ρ : RhoS} {σ : L2.St} {H Hf : Hp} {A : Nat → List Addr} {i : Nat} {C : Addr} {fds : List (Str × D)} {f : Str} {d : D} {kds : List (Key × D)}
/-- the own dict in a field -/
theorem StAt.dctF (s : StAt K E ρ σ H Hf A) (hi : ρ[i]? = some (some (.ow (.ins C fds)))) (hf : fds.lookup f = some (.dct kds)) :
    ∃ ad dx fs l kvs, σ[i]? = some (some (.ref ad)) ∧ H ad = some (.ins C dx fs) ∧ fs.length = fds.length ∧ fs.lookup f = some (.ref l) ∧ l ≠ ad ∧ H l = some (.dK kvs) ∧ kvs.map (·.1) = kds.map (·.1) ∧ RepAll K H (kds.map (·.2)) (kvs.map (·.2)) ∧
      (∀ {d : D} {v : V} {k : Key}, Rep K Hf d v → insM d = false → StOk K E (ρ.set i (some (.ow (.ins C (putD f (.dct (setD kds k d)) fds))))) σ (upd H l (.dK (putK kvs k v)))) ∧
      (∀ {k : Key}, StOk K E (ρ.set i (some (.ow (.ins C (putD f (.dct (delD kds k)) fds))))) σ (upd H l (.dK (dropK kvs k)))) := by
  obtain ⟨ad, dx, fs, v, Af, h1, h2, h3, h4, h5, hw, h6, h7, h8⟩ := s.updF hi hf
  have hr := h5.rep s.fh fun _ _ => rfl
  cases h5 with
  | fz r => exact absurd rfl (hw rfl)
  | @dct l kvs _ A1 g1 g2 g3 g4 =>
    cases hr with
    | dct r1 r2 r3 =>
      have e0 : some (HO.dK kvs) = _ := g1.symm.trans r1
      cases e0
      have hl : ∀ o, (∀ b, b ∉ l :: A1 → H b ≠ none → upd H l o b = H b) ∧ (∀ b, upd H l o b = none → H b = none) := fun o => ⟨fun b hb _ => upd_ne fun z => hb (by rw [z]; exact List.mem_cons_self), fun b hb => by
        by_cases z : b = l
        · rw [z, upd_same] at hb; cases hb
        · rw [upd_ne z] at hb; exact hb⟩
      have stay : ∀ o, ∀ a ∈ A1, upd H l o a = H a := fun o a ha => upd_ne fun z => g4 (by rw [← z]; exact ha)
      have fin : ∀ (o : HO) (B' : List Addr), (∀ b ∈ B', b ∈ A1) → ∀ a ∈ l :: B', upd H l o a ≠ none ∧ (a ∈ l :: A1 ∨ H a = none) := fun o B' hB a ha => by
        rcases List.mem_cons.mp ha with z | z
        · rw [z, upd_same]; exact ⟨by simp, .inl List.mem_cons_self⟩
        · rw [stay o a (hB a z)]; exact ⟨(h7 a (List.mem_cons_of_mem _ (hB a z))).2, .inl (List.mem_cons_of_mem _ (hB a z))⟩
      refine ⟨ad, dx, fs, l, kvs, h1, h2, h3, h4, fun z => h6 (by rw [z]; exact List.mem_cons_self), g1, g2, r3, fun {d v k} r hM => ?_, fun {k} => ?_⟩
      · obtain ⟨B', m1, m2⟩ := set_own (k := k) r hM g2 g3
        exact h8 (hl _).1 (hl _).2 (.dct upd_same (set_keys g2) (m2.move (.refl _) fun a ha => stay _ a (m1 a ha)) fun z => g4 (m1 _ z)) (fin _ B' m1) (fun _ => by simp)
      · obtain ⟨B', m1, m2⟩ := del_own (k := k) g2 g3
        exact h8 (hl _).1 (hl _).2 (.dct upd_same (del_keys g2) (m2.move (.refl _) fun a ha => stay _ a (m1 a ha)) fun z => g4 (m1 _ z)) (fin _ B' m1) (fun _ => by simp)
end
section
variable {X : Cx} {pin : List Nat} {ρ : RhoS} {Φ : Out → Prop} {e ke : Expr} {d : D} {pos p' p1 p2 p3 : Pos} {i : Nat} {x f : Str} {C : Addr} {fds : List (Str × D)} {kds : List (Key × D)} {z : Str}
/-- x.f[k] = e -/
theorem js_dputF (hu : X.A.units + 1 < cLine) (hi : ρ[i]? = some (some (.ow (.ins C fds)))) (hf : fds.lookup f = some (.dct kds)) (h : J X e (fzR ρ) d) (hke : J X ke (allR ρ) (.str z)) (hsz : kds.length < sizeLine) (cl : Cls X.K C) (hn : NoAttr X.K C f) (hk : Φ (.nx (ρ.set i (some (.ow (.ins C (putD f (.dct (setD kds (.inr z) d)) fds)))))))
    (hM : insM d = false := by rfl) (hN : X.N[i]? = some x := by rfl) (hv : L2.Vis X.env.scope x := by first | exact Or.inl rfl | exact Or.inr (Or.inl rfl)) (hd : (x == ("__debug__" : Str)) = false := by decide) (hcd : (x == ("__classdict__" : Str)) = false := by decide)
    (hb : attributeBase (.Name x p1) f X.env (eval (.Name x p1) X.env) = eval (.Name x p1) X.env := by rfl) (hs : swapsWith e (some (.Subscript (.Attribute (.Name x p1) f p2) ke p')) pos.line X.env = pure false := by rfl) : JS X pin (.Assign [.Subscript (.Attribute (.Name x p1) f p2) ke p'] e pos) ρ Φ := ⟨fun E σ H D hpn ⟨Hf, A, s⟩ k => by
  refine .of (ps_dput hu (pe_fld (pe_var hN hv hd hcd) hb) pe_w pe_w hs) ?_
  refine h Hf σ H s.fh s.vis _ fun v W' H' st r => ?_
  have s1 := s.step st
  obtain ⟨ad, dx, fs, l, kvs, h1, h2, h3, h4, h5, h6, _⟩ := s1.dctF hi hf
  refine ⟨_, h1, ad, C, dx, fs, _, rfl, h2, cl, hn, h4, ?_⟩
  refine hke H' σ H' (.refl _) s1.visH _ fun y W2 H2 st2 r2 => ?_
  cases r2
  have s2 := s1.grow st2.hh
  obtain ⟨ad2, dx2, fs2, l2, kvs2, g1, g2, g3, g4, g5, g6, g7, g8, g9, _⟩ := s2.dctF hi hf
  have e1 : some (some (V.ref ad)) = _ := h1.symm.trans g1
  cases e1
  have e2 := (st2.hh _ _ h2).symm.trans g2
  cases e2
  have e3 := h4.symm.trans g4
  cases e3
  refine ⟨l, _, rfl, DPut.k (k := Sum.inr z) g6 (by have := congrArg List.length g7; simp at this; omega), k _ hk σ _ (g9 r hM)⟩⟩
theorem j_din {o : Expr} {ρ : Rho} (hu : X.A.units + 1 < cLine) (hke : J X ke ρ (.str z)) (ho : J X o ρ (.dct kds)) (hbi : behindInMarks CmpOp.In o = false := by rfl) : J X (.Compare ke [.In] [o] pos) ρ (.bl (hasD kds (.inr z))) := ⟨fun W σ H ex V Q g => by
  refine .of (pe_cmp (pc_din hu pe_w pe_w) hbi) (hke W σ H ex V _ fun y W1 H1 s1 r1 => ho W1 σ H1 s1.wh (V.mono s1.ww) _ fun v W2 H2 s2 r2 => ?_)
  cases r1
  cases r2 with
  | dct k1 k2 k3 =>
    refine ⟨_, _, rfl, DGet.k (k := Sum.inr z) (s2.wh _ _ k1), ?_⟩
    rw [← valV_any, has_keys k2]
    exact g _ W2 H2 (s1.trans s2) (.bl _)⟩
end
end Pf

namespace Pf
open PySem L2
open Evl (Ex)
theorem DpAll.len {K : PySem.W.Frag} {H : Hp} : ∀ {xs : List V} {ps : List PyData}, DpAll K H xs ps → xs.length = ps.length
  | _, _, .nil => rfl
  | _, _, .cons _ t => congrArg (· + 1) (DpAll.len t)
end Pf

namespace Pf
open PySem L2
open Evl (Ex)
section
variable {X : Cx} {elt : Expr} {elts : List Expr} {scope : Scope} {own : List (Str × Nat)} {pos tpos apos cpos p1 p2 : Pos} {kk : Nat} {ρ : Rho} {its : List (D × Option D)} {is : List Nat} {x f : Str} {i : Nat} {C : Addr} {fds : List (Str × D)} {kds : List (Key × D)}
end
end Pf

namespace Pf
open PySem PySem.Spec PyProof.Rows L2
open Evl (Ex)
def tListVals (te : TE) : TE := fun σ H Q => te σ H fun x Hn => ∃ (d : Addr) (kvs : List (Key × V)), x = .ref d ∧ Hn d = some (.dK kvs) ∧ ∀ l, Hn l = none → Q (.ref l) (upd Hn l (.lst (kvs.map (·.2))))
section
variable {X : Cx} {e : Expr} {te : TE} {p apos cpos pos : Pos}
theorem vals_of : ∀ {xs : List V} {ys : List Value}, xs.length = ys.length → (∀ (j : Nat) x y, xs[j]? = some x → ys[j]? = some y → RelV x y) → Vals xs ys
  | [], [], _, _ => .nil
  | [], _ :: _, h, _ => by simp at h
  | _ :: _, [], h, _ => by simp at h
  | x :: xs, y :: ys, h, k => .cons (k 0 x y rfl rfl) (vals_of (by simpa using h) fun j a b h1 h2 => k (j + 1) a b (by simpa using h1) (by simpa using h2))
theorem vals_acc {kvs : List (Key × V)} {vs : List (Key × Value)} (kv : KV kvs vs) {acc : Array Value} (h : ItemsOf (fun i v => ∃ k, vs[i]? = some (k, v)) acc vs.length) : Vals (kvs.map (·.2)) acc.toList := by
  have lenE : kvs.length = vs.length := Paired.length kv
  have szE : acc.toList.length = vs.length := h.1
  refine vals_of (by rw [List.length_map, szE]; exact lenE) fun j x y h1 h2 => ?_
  rw [List.getElem?_map] at h1
  rw [Array.getElem?_toList] at h2
  obtain ⟨k, oldKept⟩ := h.2 j y h2
  cases e : kvs[j]? with
  | none => rw [e] at h1; cases h1
  | some z =>
    rw [e] at h1
    cases h1
    obtain ⟨q, g1, g2, g3⟩ := LiI.paired_get kv e
    rw [oldKept] at g1
    cases g1
    exact g3
theorem pe_listVals (hc : X.calm = true) (he : PE X e te) (hg : Gl X "list") (hm : X.mg "list" = none) (hv : bootBuiltins "list" = some (.type "list")) (hbase : attributeBase e "values" X.env (eval e X.env) = eval e X.env := by rfl) (hline : (apos.endLine == cpos.line) = true := by rfl)
    (hs : starEach [.Call (.Attribute e "values" apos) [] [] cpos] X.env = (false, eval (.Call (.Attribute e "values" apos) [] [] cpos) X.env) :: starEach [] X.env := by rfl) :
    PE X (.Call (.Name "list" p) [.Call (.Attribute e "values" apos) [] [] cpos] [] pos) (tListVals te) := by
  refine ⟨fun pins s σ H Q Jv hq => ?_⟩
  refine wpAny_Call_Name_kw (ld_blt Jv hg hm hv ?_)
  refine PyProof.Rows.callWith_type1 ?_ hs rfl
  rw [hs]
  refine Calls.spliced_cons (rest := backTo pos (starEach [] X.env)) ?_
  refine wpAny_Call_method (T := "dict") (id := "dict.values") hbase rfl hline F.plainAttrs_dict F.slot_dict_values F.type_dict_values (thn (he.run pins s σ H _ Jv hq) fun u tn ⟨x, Hn, Jn, relX, d, kvs, ex, hd, q⟩ => ?_)
  subst ex
  obtain rfl : u = Value.ref d := relX
  obtain ⟨szE, notSys, vs, kv, dOf⟩ := Jn.hok d _ hd
  obtain ⟨ep, dAt⟩ := dOf.dictAt
  have lenE : kvs.length = vs.length := Paired.length kv
  refine ⟨dOf.typeIs, dOf.mapOf.noDict, ?_⟩
  refine method_meetsIn F.slot_dict_values F.entry_dict_values rfl (PySem.evalArgs_none ⟨rfl, dOf.typeIs, F.args_dict_values_1 _, _, meets_dict_values (mixKind X.prog X.w) d notSys, ⟨vs, dOf⟩, ?_⟩)
  refine Calls.spliced_nil ?_
  have Jm : Inv X pins σ Hn { tn with heap := tn.heap.push { cls := .type "dict_values", data := .fields #[.ref d] } } := Jn.kept (t' := tn.toks) fun b ob q => Heap.get?_push_of_some _ q
  refine PySem.W.kdl_call (PySem.W.kdl_values (knd := mixKind X.prog X.w) (kvs := vs) (ep := ep) (d := d)) (Jn.ok.hd hc) ⟨⟨_, Heap.get?_push_size _ rfl, rfl, rfl⟩, dAt.push _⟩ (by omega) fun h' tk acc c oldKept hS hacc => ?_
  refine ⟨.ref _, _, Jm.laid (o := .lst (kvs.map (·.2))) (t' := tk) oldKept (Nat.le_refl _) ⟨by rw [List.length_map]; omega, acc.toList, c, vals_acc kv hacc, by rw [Array.toArray_toList]; exact hS⟩, rfl, q _ (Jm.hok.fresh (Nat.le_refl _))⟩
end
end Pf

namespace Pf
open PySem PySem.Spec PyProof.Rows L2
open Evl (Ex)
section
variable {X : Cx} {e : Expr} {te : TE} {apos cpos : Pos}
end
end Pf

namespace Pf
open PySem L2
open Evl (Ex)
section
variable {X : Cx} {o : Expr} {ρ : Rho} {kds : List (Key × D)} {p pos apos cpos : Pos}
/-- list(x.values()) -/
theorem j_listVals (hc : X.calm = true) (hm : X.mg "list" = none) (ho : J X o ρ (.dct kds)) (hg : Gl X "list" := by rfl) (hbase : attributeBase o "values" X.env (eval o X.env) = eval o X.env := by rfl) (hline : (apos.endLine == cpos.line) = true := by rfl)
    (hs : starEach [.Call (.Attribute o "values" apos) [] [] cpos] X.env = (false, eval (.Call (.Attribute o "values" apos) [] [] cpos) X.env) :: starEach [] X.env := by rfl) : J X (.Call (.Name "list" p) [.Call (.Attribute o "values" apos) [] [] cpos] [] pos) ρ (.lst (kds.map (·.2))) := ⟨fun W σ H ex hV Q g => by
  refine .of (pe_listVals hc pe_w hg hm (by decide +kernel) hbase hline hs) ?_
  refine ho W σ H ex hV _ fun v W1 H1 s1 r1 => ?_
  cases r1 with
  | @dct a kvs _ k1 k2 k3 =>
    exact ⟨a, kvs, rfl, s1.wh _ _ k1, fun l hl => g _ _ _ (s1.trans (.new s1.wh hl)) (.lst upd_same (k3.mono (Evl.Ex.new (Evl.fresh_back s1.wh hl))))⟩⟩
end
end Pf

namespace Pf
open PySem L2
open Evl (Ex)
def dcD (its : List (D × (Str × D))) : List (Key × D) := its.foldl (fun kds q => setD kds (.inr q.2.1) q.2.2) []
theorem setD_in {kds : List (Key × D)} {k : Key} {d x : D} (h : x ∈ (setD kds k d).map (·.2)) : x = d ∨ x ∈ kds.map (·.2) := by
  unfold setD at h
  split at h
  · obtain ⟨kv, h1, h2⟩ := List.mem_map.mp h
    obtain ⟨kw, h3, h4⟩ := List.mem_map.mp h1
    by_cases c : kw.1 = k
    · rw [if_pos c] at h4; rw [← h4] at h2; exact .inl h2.symm
    · rw [if_neg c] at h4; rw [← h4] at h2; exact .inr (List.mem_map.mpr ⟨kw, h3, h2⟩)
  · rw [List.map_append] at h
    rcases List.mem_append.mp h with z | z
    · exact .inr z
    · exact .inl (by simpa using z)
theorem dcD_in {x : D} : ∀ (its : List (D × (Str × D))) (kds : List (Key × D)), x ∈ (its.foldl (fun kds q => setD kds (.inr q.2.1) q.2.2) kds).map (·.2) → x ∈ kds.map (·.2) ∨ ∃ q ∈ its, x = q.2.2
  | [], _, h => .inl h
  | q :: its, kds, h => by
    rcases dcD_in its _ h with z | ⟨r, hr, e⟩
    · rcases setD_in z with y | y
      · exact .inr ⟨q, by simp, y⟩
      · exact .inl y
    · exact .inr ⟨r, by simp [hr], e⟩
theorem NoM.dm {α : Type} {f : α → D × (Str × D)} {xs : List α} (h : ∀ x, insM (f x).2.2 = false) : NoM ((dcD (xs.map f)).map (·.2)) := fun d hd => by
  rcases dcD_in _ _ hd with z | ⟨q, hq, e⟩
  · cases z
  · obtain ⟨x, _, rfl⟩ := List.mem_map.mp hq
    rw [e]; exact h x
theorem NoM.dn {α : Type} {f : α → Key × D} {xs : List α} (h : ∀ x, insM (f x).2 = false) : NoM ((xs.map f).map (·.2)) := fun d hd => by
  obtain ⟨q, hq, rfl⟩ := List.mem_map.mp hd
  obtain ⟨x, _, rfl⟩ := List.mem_map.mp hq
  exact h x
section
variable {X : Cx} {kx vx tg iter : Expr} {scope : Scope} {own : List (Str × Nat)} {pos : Pos} {ρ : Rho} {its : List (D × (Str × D))} {pat : Pat}
end
section
variable {X : Cx} {pin : List Nat} {ρ : RhoS} {Φ : Out → Prop} {e ke o : Expr} {d : D} {pos p' p1 p2 p3 : Pos} {i j : Nat} {x y f : Str} {C : Addr} {fds : List (Str × D)} {kds : List (Key × D)} {z : Str}
/-- .. over what is read in the whole heap, the items flat -/
theorem StAt.move {K : PySem.W.Frag} {E : Ent} {σ : L2.St} {H Hf : Hp} {A : Nat → List Addr} {v : V} (s : StAt K E ρ σ H Hf A) (hi : ρ[i]? = some (some (.ow d))) (hv : σ[i]? = some (some v)) (hp : E.pa i = none) (hpj : E.pa j = none) (hij : i ≠ j) :
    StAt K E ((ρ.set j (some (.ow d))).set i none) (σ.set j (some v)) H Hf (fun n => if n = j then A i else if n = i then [] else A n) where
  len := by rw [List.length_set, List.length_set, List.length_set]; exact s.len
  w0 := s.w0
  fh := s.fh
  fr := s.fr
  hh := s.hh
  kp := s.kp
  sl := fun n sv h => by
    by_cases hn : i = n
    · subst hn
      by_cases hl : i < (ρ.set j (some (.ow d))).length
      · rw [List.getElem?_set_self hl] at h; cases h
      · rw [List.getElem?_eq_none (by rw [List.length_set]; omega)] at h; cases h
    · rw [List.getElem?_set_ne hn] at h
      by_cases hj : j = n
      · subst hj
        by_cases hl : j < ρ.length
        · rw [List.getElem?_set_self hl] at h; cases h
          obtain ⟨v', e1, e2⟩ := s.sl i _ hi
          rw [hv] at e1; cases e1
          exact ⟨v, List.getElem?_set_self (by rw [← s.len]; exact hl), by dsimp only; rw [if_pos rfl]; exact e2⟩
        · rw [List.getElem?_eq_none (by rw [List.length_set]; omega)] at h; cases h
      · rw [List.getElem?_set_ne hj] at h ⊢
        obtain ⟨v', e1, e2⟩ := s.sl n sv h
        refine ⟨v', e1, ?_⟩
        cases sv with
        | fz d' => exact e2
        | ow d' => dsimp only at e2 ⊢; rw [if_neg (fun q => hj q.symm), if_neg (fun q => hn q.symm)]; exact e2
  ap := fun n a ha => by
    by_cases hj : n = j
    · rw [if_pos hj] at ha
      obtain ⟨h1, h2, h3⟩ := s.ap i a ha
      exact ⟨h1, h2, .inl (h3.resolve_right fun q => q.2 hp)⟩
    · rw [if_neg hj] at ha
      by_cases hn : n = i
      · rw [if_pos hn] at ha; exact absurd ha (by simp)
      · rw [if_neg hn] at ha; exact s.ap n a ha
  dj := fun n m a h1 h2 => by
    have g : ∀ n, a ∈ (if n = j then A i else if n = i then [] else A n) → (n = j ∧ a ∈ A i) ∨ (n ≠ j ∧ n ≠ i ∧ a ∈ A n) := fun n h => by
      by_cases hj : n = j
      · rw [if_pos hj] at h; exact .inl ⟨hj, h⟩
      · rw [if_neg hj] at h
        by_cases hn : n = i
        · rw [if_pos hn] at h; exact absurd h (by simp)
        · rw [if_neg hn] at h; exact .inr ⟨hj, hn, h⟩
    rcases g n h1 with ⟨a1, a2⟩ | ⟨a1, a2, a3⟩ <;> rcases g m h2 with ⟨b1, b2⟩ | ⟨b1, b2, b3⟩
    · rw [a1, b1]
    · exact absurd (s.dj _ _ _ a2 b3).symm b2
    · exact absurd (s.dj _ _ _ b2 a3).symm a2
    · exact s.dj _ _ _ a3 b3
  pn := fun n a h => by
    have hn : j ≠ n := fun q => by subst q; rw [hpj] at h; cases h
    rw [List.getElem?_set_ne hn]; exact s.pn n a h
end
end Pf

namespace Pf
open PySem L2
open Evl (Ex)
theorem RepAll.any {K : PySem.W.Frag} {H H' : Hp} : ∀ {ds : List D} {vs : List V}, RepAll K H ds vs → ds.all flatD = true → RepAll K H' ds vs
  | _, _, .nil, _ => .nil
  | _, _, .cons r t, h => by
    rw [List.all_cons, Bool.and_eq_true] at h
    exact .cons (r.any h.1) (RepAll.any t h.2)
section
variable {X : Cx} {elt : Expr} {elts : List Expr} {scope : Scope} {own : List (Str × Nat)} {pos tpos apos cpos p1 p2 : Pos} {kk : Nat} {ρ : Rho} {its : List (D × Option D)} {pat : Pat} {x f : Str} {i : Nat} {C : Addr} {fds : List (Str × D)} {kds : List (Key × D)}
end
section
variable {X : Cx} {pin : List Nat} {ρ : RhoS} {Φ : Out → Prop} {es : List Expr} {ds ts : List D} {pos tpos p1 p2 p3 : Pos} {kk : Nat} {i : Nat} {x : Str}
/-- xs.append((e, ..)), the parts flat, read in the whole heap -/
theorem js_appendT (hi : ρ[i]? = some (some (.ow (.lst ds)))) (h : JA X es (allR ρ) ts) (hfl : ts.all flatD = true) (htl : ts.length ≤ sizeLine) (hl : ds.length < sizeLine) (hk : Φ (.nx (ρ.set i (some (.ow (.lst (ds ++ [.tup ts]))))))) (hN : X.N[i]? = some x := by rfl) (hv : L2.Vis X.env.scope x := by first | exact Or.inl rfl | exact Or.inr (Or.inl rfl))
    (hd : (x == ("__debug__" : Str)) = false := by decide) (hcd : (x == ("__classdict__" : Str)) = false := by decide) (hst : starEach [.Tuple es kk tpos] X.env = (false, eval (.Tuple es kk tpos) X.env) :: starEach [] X.env := by rfl)
    (hfew : ((backTo p3 (starEach [.Tuple es kk tpos] X.env)).all (fun x => !x.1) && (backToKw p3 (keywordEach [] X.env)).all (fun x => x.1.isSome) && decide ([Expr.Tuple es kk tpos].length + ([] : List Keyword).length + (if ([] : List Keyword).isEmpty then 0 else 1) < 30)) = true := by rfl)
    (hline : (p2.endLine == p3.line) = true := by rfl)
    (hs : swapsWith (.Call (.Attribute (.Name x p1) "append" p2) [.Tuple es kk tpos] [] p3) none pos.line X.env = pure false := by rfl) : JS X pin (.Expr (.Call (.Attribute (.Name x p1) "append" p2) [.Tuple es kk tpos] [] p3) pos) ρ Φ := ⟨fun E σ H D hpn ⟨Hf, A, s⟩ k => by
  refine .of (ps_expr (pe_bm PySem.F.plainAttrs_list PySem.F.slot_list_append PySem.F.type_list_append mt_append (pe_var hN hv hd hcd) (pa_cons (pe_tup pa_w) pa_nil hst) rfl hfew hline hst) hs) ?_
  obtain ⟨v, hσ, ow, ne⟩ := s.sl i _ hi
  generalize hA : A i = Ai at ow ne
  cases ow with
  | fz _ => exact absurd rfl ne
  | @lst l vs _ B hl1 ha nB =>
    refine ⟨_, hσ, .inl ⟨rfl, _, SqL.of hl1⟩, ?_⟩
    refine h H σ H (.refl _) s.visH _ fun ys W' H' st r => ⟨by rw [← r.length]; exact htl, fun q hq => ?_⟩
    have s0 := s.grow st.hh
    have s' := s0.step (.new s0.fh hq (o := .tup ys))
    have hl2 : upd H' q (.tup ys) l = some (.lst vs) := by rw [upd_ne fun z => by rw [← z, st.hh _ _ hl1] at hq; cases hq]; exact st.hh _ _ hl1
    have rq : Rep X.K (upd Hf q (.tup ys)) (.tup ts) (.ref q) := .tup (SqT.of upd_same) (r.any hfl)
    refine ⟨l, vs, .ref q, rfl, rfl, hl2, by rw [← ha.length]; exact hl, ?_⟩
    have hm : l ∈ A i := by rw [hA]; exact List.mem_cons_self
    have k1 : ∀ a ∈ B, upd (upd H' q (.tup ys)) l (.lst (vs ++ [.ref q])) a = H a := fun a haB => by
      rw [upd_ne (fun z => by subst z; exact nB haB)]
      have := (s.ap i a (by rw [hA]; exact List.mem_cons_of_mem _ haB)).2.1
      cases qq : H a with
      | none => exact absurd qq this
      | some o => rw [upd_ne fun z => by rw [z] at qq; rw [st.hh _ _ qq] at hq; cases hq]; exact st.hh _ _ qq
    exact k _ hk _ _ ⟨_, _, s'.change (B := l :: B) hi hσ hm (by simp) (fun b hb => by rw [hA]; exact hb) (.lst upd_same ((ha.move (.new (Evl.fresh_back s0.fh hq)) k1).snoc rq rfl) nB)⟩⟩
end
def stillD : D → Bool
  | .lst _ => false
  | .dct _ => false
  | .ins _ _ => false
  | _ => true
theorem OwnAll.still {K : PySem.W.Frag} {Hf H : Hp} : ∀ {ds : List D} {vs : List V} {A : List Addr}, OwnAll K Hf H ds vs A → (∀ d ∈ ds, stillD d = true) → RepAll K Hf ds vs
  | _, _, _, .nil, _ => .nil
  | _, _, _, .cons q t _ _, h => .cons (by
      cases q with
      | fz r => exact r
      | lst _ _ _ => have := h _ List.mem_cons_self; cases this
      | dct _ _ _ _ => have := h _ List.mem_cons_self; cases this
      | ins _ _ _ _ => have := h _ List.mem_cons_self; cases this) (OwnAll.still t fun d hd => h d (List.mem_cons_of_mem _ hd))
section
variable {X : Cx} {pin : List Nat} {ρ : RhoS} {Φ : Out → Prop} {pos p' : Pos} {i j : Nat} {x : Str}
end
end Pf

namespace Pf
open PySem L2 PySem.Spec PyProof.Rows
open Evl (Ex)
section
variable {prog : Program} {w : World} {A : Around} {E : Value → Shared → Prop} {s : Shared}
end
section
variable {X : Cx} {pos tpos p2 : Pos}
end
end Pf

namespace Pf
open PySem L2
open Evl (Ex)
theorem OwnAll.drop {K : PySem.W.Frag} {Hf H : Hp} : ∀ {ds : List D} {vs : List V} {B : List Addr} (n : Nat), OwnAll K Hf H ds vs B → ∃ B', (∀ b ∈ B', b ∈ B) ∧ OwnAll K Hf H (ds.drop n) (vs.drop n) B'
  | _, _, B, 0, h => ⟨B, fun _ q => q, h⟩
  | _, _, _, _ + 1, .nil => ⟨[], fun _ q => q, .nil⟩
  | _, _, _, n + 1, .cons q t _ _ => by
    obtain ⟨B', h1, h2⟩ := OwnAll.drop n t
    exact ⟨B', fun b hb => List.mem_append_right _ (h1 b hb), h2⟩
theorem OwnAll.dropLast {K : PySem.W.Frag} {Hf H : Hp} : ∀ {ds : List D} {vs : List V} {B : List Addr}, OwnAll K Hf H ds vs B → ∃ B', (∀ b ∈ B', b ∈ B) ∧ OwnAll K Hf H ds.dropLast vs.dropLast B'
  | _, _, _, .nil => ⟨[], fun _ q => q, .nil⟩
  | _, _, _, .cons q .nil _ _ => ⟨[], fun _ h => absurd h (by simp), .nil⟩
  | _, _, _, .cons (A := A1) q (.cons (A := A2) (B := B2) q2 t2 n2 w2) nd w => by
    obtain ⟨B', h1, h2⟩ := OwnAll.dropLast (.cons q2 t2 n2 w2)
    exact ⟨A1 ++ B', fun b hb => by
      rcases List.mem_append.mp hb with z | z
      · exact List.mem_append_left _ z
      · exact List.mem_append_right _ (h1 b z), .cons q h2 (fun a ha hb => nd a ha (h1 a hb)) w⟩
section
variable {K : PySem.W.Frag} {E : Ent} {ρ : RhoS} {σ : L2.St} {H Hf : Hp} {A : Nat → List Addr} {i : Nat} {C : Addr} {fds : List (Str × D)} {f : Str} {ds : List D}
theorem StAt.lstF (s : StAt K E ρ σ H Hf A) (hi : ρ[i]? = some (some (.ow (.ins C fds)))) (hf : fds.lookup f = some (.lst ds)) :
    ∃ ad dx fs l vs, σ[i]? = some (some (.ref ad)) ∧ H ad = some (.ins C dx fs) ∧ fs.length = fds.length ∧ fs.lookup f = some (.ref l) ∧ l ≠ ad ∧ H l = some (.lst vs) ∧ RepAll K H ds vs ∧
      ∀ {ds' : List D} {vs' : List V}, (∀ B, OwnAll K Hf H ds vs B → ∃ B', (∀ b ∈ B', b ∈ B) ∧ OwnAll K Hf H ds' vs' B') → StOk K E (ρ.set i (some (.ow (.ins C (putD f (.lst ds') fds))))) σ (upd H l (.lst vs')) := by
  obtain ⟨ad, dx, fs, v, Af, h1, h2, h3, h4, h5, hw, h6, h7, h8⟩ := s.updF hi hf
  have hr := h5.rep s.fh fun _ _ => rfl
  cases h5 with
  | fz r => exact absurd rfl (hw rfl)
  | @lst l vs _ A1 g1 g3 g4 =>
    cases hr with
    | lst r1 r3 =>
      have e0 : some (HO.lst vs) = _ := g1.symm.trans r1
      cases e0
      have hl : ∀ o, (∀ b, b ∉ l :: A1 → H b ≠ none → upd H l o b = H b) ∧ (∀ b, upd H l o b = none → H b = none) := fun o => ⟨fun b hb _ => upd_ne fun z => hb (by rw [z]; exact List.mem_cons_self), fun b hb => by
        by_cases z : b = l
        · rw [z, upd_same] at hb; cases hb
        · rw [upd_ne z] at hb; exact hb⟩
      have stay : ∀ o, ∀ a ∈ A1, upd H l o a = H a := fun o a ha => upd_ne fun z => g4 (by rw [← z]; exact ha)
      have fin : ∀ (o : HO) (B' : List Addr), (∀ b ∈ B', b ∈ A1) → ∀ a ∈ l :: B', upd H l o a ≠ none ∧ (a ∈ l :: A1 ∨ H a = none) := fun o B' hB a ha => by
        rcases List.mem_cons.mp ha with z | z
        · rw [z, upd_same]; exact ⟨by simp, .inl List.mem_cons_self⟩
        · rw [stay o a (hB a z)]; exact ⟨(h7 a (List.mem_cons_of_mem _ (hB a z))).2, .inl (List.mem_cons_of_mem _ (hB a z))⟩
      refine ⟨ad, dx, fs, l, vs, h1, h2, h3, h4, fun z => h6 (by rw [z]; exact List.mem_cons_self), g1, r3, fun {ds' vs'} hT => ?_⟩
      obtain ⟨B', m1, m2⟩ := hT _ g3
      exact h8 (hl _).1 (hl _).2 (.lst upd_same (m2.move (.refl _) fun a ha => stay _ a (m1 a ha)) fun z => g4 (m1 _ z)) (fin _ B' m1) (fun _ => by simp)
end
section
variable {X : Cx} {pin : List Nat} {ρ : RhoS} {Φ : Out → Prop} {e : Expr} {d : D} {pos tpos p' p1 p2 p3 : Pos} {i j : Nat} {x y f : Str} {C : Addr} {fds : List (Str × D)} {ds : List D}
/-- x.f.append(e) -/
theorem js_appendF (hi : ρ[i]? = some (some (.ow (.ins C fds)))) (hf : fds.lookup f = some (.lst ds)) (h : J X e (fzR ρ) d) (hl : ds.length < sizeLine) (cl : Cls X.K C) (hn : NoAttr X.K C f) (hk : Φ (.nx (ρ.set i (some (.ow (.ins C (putD f (.lst (ds ++ [d])) fds))))))) (hM : insM d = false := by rfl) (hN : X.N[i]? = some x := by rfl) (hv : L2.Vis X.env.scope x := by first | exact Or.inl rfl | exact Or.inr (Or.inl rfl))
    (hd : (x == ("__debug__" : Str)) = false := by decide) (hcd : (x == ("__classdict__" : Str)) = false := by decide) (hb : attributeBase (.Name x p1) f X.env (eval (.Name x p1) X.env) = eval (.Name x p1) X.env := by rfl)
    (hb2 : attributeBase (.Attribute (.Name x p1) f p') "append" X.env (eval (.Attribute (.Name x p1) f p') X.env) = eval (.Attribute (.Name x p1) f p') X.env := by rfl) (hst : starEach [e] X.env = (false, eval e X.env) :: starEach [] X.env := by rfl)
    (hfew : ((backTo p3 (starEach [e] X.env)).all (fun x => !x.1) && (backToKw p3 (keywordEach [] X.env)).all (fun x => x.1.isSome) && decide ([e].length + ([] : List Keyword).length + (if ([] : List Keyword).isEmpty then 0 else 1) < 30)) = true := by rfl)
    (hline : (p2.endLine == p3.line) = true := by rfl)
    (hs : swapsWith (.Call (.Attribute (.Attribute (.Name x p1) f p') "append" p2) [e] [] p3) none pos.line X.env = pure false := by rfl) : JS X pin (.Expr (.Call (.Attribute (.Attribute (.Name x p1) f p') "append" p2) [e] [] p3) pos) ρ Φ := ⟨fun E σ H D hpn ⟨Hf, A, s⟩ k => by
  refine .of (ps_expr (pe_bm PySem.F.plainAttrs_list PySem.F.slot_list_append PySem.F.type_list_append mt_append (pe_fld (pe_var hN hv hd hcd) hb) (pa_cons pe_w pa_nil hst) hb2 hfew hline hst) hs) ?_
  obtain ⟨ad, dx, fs, l, vs, h1, h2, h3, h4, h5, h6, h7, _⟩ := s.lstF hi hf
  refine ⟨_, h1, ad, C, dx, fs, _, rfl, h2, cl, hn, h4, .inl ⟨rfl, _, SqL.of h6⟩, ?_⟩
  refine h Hf σ H s.fh s.vis _ fun z W' H' st r => ?_
  have s' := s.step st
  obtain ⟨ad2, dx2, fs2, l2, vs2, g1, g2, g3, g4, g5, g6, g7, g8⟩ := s'.lstF hi hf
  have e1 : some (some (V.ref ad)) = _ := h1.symm.trans g1
  cases e1
  have e2 := (st.hh _ _ h2).symm.trans g2
  cases e2
  have e3 := h4.symm.trans g4
  cases e3
  exact ⟨l, vs2, z, rfl, rfl, g6, by rw [← g7.length]; exact hl, k _ hk _ _ (g8 fun B hB => ⟨B, fun _ q => q, hB.snoc r hM⟩)⟩⟩
end
end Pf

namespace Pf
open PySem L2
open Evl (Ex)
def Fx (i : Nat) (f : Str) (l : Addr) (vs : List V) (σ : L2.St) (H : Hp) : Prop := ∃ ad C dx fs, σ[i]? = some (some (.ref ad)) ∧ H ad = some (.ins C dx fs) ∧ fs.lookup f = some (.ref l) ∧ l ≠ ad ∧ H l = some (.lst vs)
theorem Fx.grow {i : Nat} {f : Str} {l : Addr} {vs : List V} {σ : L2.St} {H H' : Hp} (h : Fx i f l vs σ H) (e : Ex H H') : Fx i f l vs σ H' := by
  obtain ⟨ad, C, dx, fs, h1, h2, h3, h4, h5⟩ := h
  exact ⟨ad, C, dx, fs, h1, e _ _ h2, h3, h4, e _ _ h5⟩
theorem Fx.slot {i j : Nat} {f : Str} {l : Addr} {vs : List V} {σ σ' : L2.St} {H : Hp} (h : Fx i f l vs σ H) (e : σ'[i]? = σ[i]?) : Fx i f l vs σ' H := by
  obtain ⟨ad, C, dx, fs, h1, h2, h3, h4, h5⟩ := h
  exact ⟨ad, C, dx, fs, e.trans h1, h2, h3, h4, h5⟩
section
variable {X : Cx} {pin : List Nat} {st : Stmt} {rest a b body : List Stmt} {ρ : RhoS} {Φ : Out → Prop} {e c tg : Expr} {d : D} {pos p' p1 p2 : Pos} {i j : Nat} {x f g : Str} {t : Bool} {C : Addr} {fds : List (Str × D)}
end
end Pf

namespace Pf
open PySem L2 PySem.Spec PyProof.Rows
open Evl (Ex)
section
variable {K : PySem.W.Frag}
theorem rc_maxL {ns : List Int} {m : Int} (h1 : m ∈ ns) (h2 : ∀ y ∈ ns, y ≤ m) : RCD K (rMax K) [.lst (ns.map D.int)] (.int m) := fun W H vs ex r Q q => by
  cases r with
  | cons r t =>
    cases t
    cases r with
    | lst h k =>
      cases k.ints
      exact ⟨_, ns, rfl, SqL.of (ex _ _ h), List.length_pos_of_mem h1, fun m' a b => by
        have e : m' = m := Int.le_antisymm (h2 _ a) (b _ h1)
        subst e
        exact q.now ex (.int _)⟩
theorem r1_neg {i : Int} : R1D K (rU fun i => .int (-i)) (.int i) (.int (-i)) := fun W H v ex r Q q => by
  cases r; exact ⟨i, rfl, q.now ex (.int _)⟩
end
section
variable {X : Cx} {ρ : Rho} {e a b c : Expr} {pos p p2 pos2 : Pos}
theorem jb_maxL {ns : List Int} {m : Int} (T : Bt X.mg) (ha : JA X [e] ρ [.lst (ns.map D.int)]) (h1 : m ∈ ns) (h2 : ∀ y ∈ ns, y ≤ m) (hc : X.calm = true := by rfl) (hg : Gl X "max" := by rfl) (he : starEach [e] X.env = (false, eval e X.env) :: starEach [] X.env := by rfl) (hpl : (backTo pos (starEach [] X.env)).any (·.1) = false := by rfl) :
    J X (.Call (.Name "max" p) [e] [] pos) ρ (.int m) := j_cb (cr_max hc) T.max (by decide +kernel) ha (rc_maxL h1 h2) hg (by decide) (by decide) he hpl
theorem jb_any {bs : List Bool} (T : Bt X.mg) (ha : JA X [e] ρ [.lst (bs.map D.bl)]) (hc : X.calm = true := by rfl) (hg : Gl X "any" := by rfl) (he : starEach [e] X.env = (false, eval e X.env) :: starEach [] X.env := by rfl) (hpl : (backTo pos (starEach [] X.env)).any (·.1) = false := by rfl) :
    J X (.Call (.Name "any" p) [e] [] pos) ρ (.bl (bs.any id)) := j_cb (cr_any hc) T.any (by decide +kernel) ha rc_any hg (by decide) (by decide) he hpl
theorem jb_intB {t : Bool} (T : Bt X.mg) (ha : JA X [e] ρ [.bl t]) (hg : Gl X "int" := by rfl) (he : starEach [e] X.env = (false, eval e X.env) :: starEach [] X.env := by rfl) (hpl : (backTo pos (starEach [] X.env)).any (·.1) = false := by rfl) :
    J X (.Call (.Name "int" p) [e] [] pos) ρ (.int (if t then 1 else 0)) := j_ct call_int1 T.int (by decide +kernel) ha rc_intB hg (by decide) (by decide) he hpl
theorem j_neg {i : Int} (ha : J X a ρ (.int i)) : J X (.UnaryOp .USub a pos) ρ (.int (-i)) := j_un un_neg ha r1_neg
end
section
variable {E : Ent} {σ : L2.St} {H Hf : Hp} {A : Nat → List Addr}
theorem js_retRP {P : D → Prop} (h : JP X e (retR pin ρ) P) (hk : ∀ d, P d → Φ (.rt d ρ)) : JS X pin (.Return (some e) pos) ρ Φ := ⟨fun E σ H D hp ⟨Hf, A, s⟩ k =>
  .of (ps_ret pe_w) (h (retW E Hf H A) σ H s.retH (s.visR hp) _ fun d hd v W' H' st r => k _ (hk d hd) v H' ⟨σ, Hf, A, W', s.grow st.hh, s.retHf.trans st.ww, st.wh, fun b h1 h2 => by
      by_cases q : retW E Hf H A b = none
      · exact s.kp b (st.fr b h1 q)
      · by_cases hn : ∃ i, b ∈ A i ∧ E.pa i ≠ none
        · exact absurd (retW_arg hn) q
        · by_cases z : E.H0 b = none
          · exact z
          · rw [retW_old hn z] at q; exact s.fr b q h2, fun i a ha hpa => by
      cases q : W' a with
      | none => rfl
      | some o => exact absurd (st.fr a (by rw [q]; simp) (retW_arg ⟨i, ha, hpa⟩)) (s.ap i a ha).2.1, r⟩)⟩
theorem js_retP {P : D → Prop} (h : JP X e (allR ρ) P) (hk : ∀ d, P d → Φ (.rt d ρ)) : JS X [] (.Return (some e) pos) ρ Φ := js_retRP (by rw [retR_nil]; exact h) hk
end
section
variable {X : Cx} {pin : List Nat} {st : Stmt} {rest a b body : List Stmt} {ρ : RhoS} {Φ : Out → Prop} {e c tg iter : Expr} {es : List Expr} {d : D} {ds : List D} {pos p p' p1 p2 p3 : Pos} {i : Nat} {x : Str} {t : Bool}
end
end Pf

namespace Pf
open PySem L2 PySem.Spec PyProof.Rows
open Evl (Ex)
/-- the signs of z, each in a new pair with its number from k0 on -/
def ItX (z : PySem.Str) (k0 : Int) : It :=
  ⟨fun i _ => i < z.cps.size, fun i H v H' => ∃ T c, v = .ref T ∧ H T = none ∧ H' = upd H T (.tup [.int (k0 + (i : Nat)), .str ⟨#[c]⟩]) ∧ z.cps[i]? = some c, fun i _ => i = z.cps.size⟩
theorem turn_enumX {P : Program} {w : World} {K : PySem.W.Frag} {elts : List Expr} {kk : Nat} {tpos : Pos} (z : PySem.Str) (t : Tok) (k0 : Int) (e it : Addr) :
    Turn P w K (.Tuple elts kk tpos) (ItX z k0) [e, it] e (fun i h => (∃ old, IsEnum h e it (k0 + ((i : Nat) : Int)) old) ∧ h.IsStrIter it (strIterType z) z t i ∧ e ≠ it) where
  mem := List.mem_cons_self
  obj := by
    rintro i h ⟨⟨old, he⟩, ⟨o, ho, _, hd⟩, _⟩ b hb
    rcases List.mem_cons.mp hb with q | q
    · rw [q]; exact ⟨_, he, fun v r => nomatch r⟩
    · exact ⟨o, List.mem_singleton.mp q ▸ ho, fun v q => by rw [hd] at q; cases q⟩
  keep := by
    rintro i h h' ⟨⟨old, he⟩, ⟨o, ho, hr⟩, hne⟩ k
    exact ⟨⟨old, k e List.mem_cons_self _ he⟩, ⟨o, k it (List.mem_cons_of_mem _ List.mem_cons_self) o ho, hr⟩, hne⟩
  item := by
    rintro X rfl rfl rfl hc i pins s σ H E I hf ⟨⟨old, he⟩, hit, hne⟩ hg
    have hD := Draws.text (prog := X.prog) (w := X.w) (A := X.A.in1) (show X.A.in1.handled = none from I.ok.hd hc) it z t
    have le : e < s.heap.objs.size := Heap.lt_size he
    have li : it < s.heap.objs.size := by obtain ⟨_, q, _⟩ := hit; exact Heap.lt_size q
    refine wpAny_pyNext_enum_itemC hD he hit hg hne (fun q => hne (List.mem_singleton.mp q)) fun x h1 tk ⟨c, u, hcx, hx⟩ out hit1 hT hsz hk => ?_
    subst hx
    refine ⟨_, rfl, wpAny_letOwnedTupleGo_enum out fun h2 he2 sb => ?_⟩
    have hT2 := (sb.2 _ (Nat.ne_of_gt le)).trans hT
    have hnew : ObjOk X.prog X.w (upd H s.heap.objs.size (.tup [.int (k0 + (i : Nat)), .str ⟨#[c]⟩])) h2 s.heap.objs.size (.tup [.int (k0 + (i : Nat)), .str ⟨#[c]⟩]) :=
      ⟨by show 2 ≤ _; decide, [.int (k0 + (i : Nat)) tk, .str ⟨#[c]⟩ u], .cons ⟨_, rfl⟩ (.cons ⟨_, rfl⟩ .nil), ⟨_, hT2, rfl, _, rfl⟩⟩
    have I2 := I.turnedNew (h' := h2) (t' := tk + 1) (ch := [e, it]) (fun b ob hb q => (sb.2 b fun y => hb (y ▸ List.mem_cons_self)).trans (hk b ob (fun y => hb (y ▸ List.mem_cons_self)) (fun y => hb (y ▸ List.mem_cons_of_mem _ List.mem_cons_self)) q)) hf (Nat.le_refl _) hnew
    refine ⟨.ref s.heap.objs.size, _, I2, rfl, ⟨_, c, rfl, I.hok.fresh (Nat.le_refl _), rfl, hcx⟩, ⟨⟨.str ⟨#[c]⟩ u, ?_⟩, ?_, hne⟩, fun b hb => ?_⟩
    · rw [show k0 + (((i + 1 : Nat)) : Int) = k0 + (i : Int) + 1 by omega]
      exact he2
    · obtain ⟨o, ho, hr⟩ := hit1
      exact ⟨o, (sb.2 it (Ne.symm hne)).trans ho, hr⟩
    · have lb : b < s.heap.objs.size := by
        rcases List.mem_cons.mp hb with q | q
        · exact q ▸ le
        · exact List.mem_singleton.mp q ▸ li
      rw [upd_ne (Nat.ne_of_lt lb)]
      exact (hf b hb).1
  done := by
    rintro X rfl rfl rfl hc i pins s σ H E I hf ⟨⟨old, he⟩, hit, hne⟩ hg
    have hD := Draws.text (prog := X.prog) (w := X.w) (A := X.A.in1) (show X.A.in1.handled = none from I.ok.hd hc) it z t
    obtain ⟨f0, f1, f2, f3, f4, f5⟩ := hf it (List.mem_cons_of_mem _ List.mem_cons_self)
    replace hg : i = z.cps.size := hg
    subst hg
    exact wpAny_pyNext_enum_endD hD he hit fun h' eb => ⟨rfl, I.turned (t' := s.toks) (fun b o hb q => eb b o hb q) f0 f1 f3 f4 f5⟩
  self := by
    rintro A i s Q E ⟨⟨_, he⟩, _⟩ h
    exact wpAny_pyIter_enum he h
def enumD (z : PySem.Str) (k0 : Int) : List D := z.cps.toList.zipIdx.map fun p => .tup [.int (k0 + (p.2 : Nat)), .str ⟨#[p.1]⟩]
theorem enumD_get {z : PySem.Str} {k0 : Int} {i : Nat} {d : D} (h : (enumD z k0)[i]? = some d) : ∃ c, z.cps[i]? = some c ∧ d = .tup [.int (k0 + (i : Nat)), .str ⟨#[c]⟩] := by
  unfold enumD at h
  rw [List.getElem?_map, List.getElem?_zipIdx, Array.getElem?_toList, Nat.zero_add] at h
  cases hc : z.cps[i]? with
  | none => rw [hc] at h; cases h
  | some c => rw [hc] at h; cases h; exact ⟨c, rfl, rfl⟩
theorem enumD_length {z : PySem.Str} {k0 : Int} : (enumD z k0).length = z.cps.size := by unfold enumD; rw [List.length_map, List.length_zipIdx, Array.length_toList]
theorem walks_enumX {K : PySem.W.Frag} {W : Hp} {z : PySem.Str} {k0 : Int} : Walks K (ItX z k0) W (enumD z k0) where
  go := fun i H _ h => by rw [enumD_length] at h; exact h
  yld := fun i H x H' d _ hd ⟨T, c, hx, hT, hH, hc⟩ W2 _ e2 => by
    obtain ⟨c', hc', rfl⟩ := enumD_get hd
    rw [hc] at hc'
    cases hc'
    subst hx hH
    exact ⟨_, .new e2 hT, .tup (SqT.of upd_same) (.cons (.int _) (.cons (.str _) .nil))⟩
  stop := fun H _ => enumD_length
/-- a built-in class called with keywords -/
theorem callWith_typeK {M : Model} {A : Around} {E : Value → Shared → Prop} {s : Shared} {env : Env} {pos : Pos} {T : String} {e : Expr} {kws : List Keyword} {Q : Value → Shared → Prop}
    (h : wpAny M A (spliced (backTo pos (starEach [e] env))) (fun vs s1 => wpAny M A (evalAll ((backToKw pos (keywordEach kws env)).map (·.2))) (fun kvs s2 => wpAny M A (call (.type T) vs (((backToKw pos (keywordEach kws env)).filterMap (·.1)).zip kvs)) Q E s2) E s1) E s)
    (he : backTo pos (starEach [e] env) = (false, eval e env) :: backTo pos (starEach [] env)) (hp : (backTo pos (starEach [e] env)).any (·.1) = false) (hall : (backToKw pos (keywordEach kws env)).all (·.1.isSome) = true) (hkw : (backToKw pos (keywordEach kws env)).any (·.1.isNone) = false) :
    wpAny M A (callWith pos (.type T) [] (backTo pos (starEach [e] env)) (backToKw pos (keywordEach kws env))) Q E s := by
  have hb : wpAny M A (evalArgs (.type T) true (backTo pos (starEach [e] env)) (backToKw pos (keywordEach kws env))) (fun a s1 => wpAny M A (call (.type T) ([] ++ a.pos) a.kw) Q E s1) E s := by
    rw [he] at h ⊢
    exact evalArgs_kwB hall h
  unfold callWith
  refine wpAny_bind (wpAny_holding (wpAny_mono hb (fun a s1 h1 => wpAny_bind (wpAny_standAt ?_)) fun _ _ x => x))
  simp only [hp, hkw, Bool.or_false]
  exact wpAny_bind (wpAny_pure (wpAny_bind (wpAny_mono h1 (fun r s2 hr => wpAny_bind (wpAny_holding (wpAny_point (wpAny_pure hr)))) fun _ _ x => x)))
section
variable {X : Cx} {ρ : Rho} {a : Expr} {pos p p2 kp tpos : Pos} {elts : List Expr} {kk kt : Nat}
theorem ji_enumX {z : PySem.Str} {k0 : Int} (T : Bt X.mg) (ha : J X a ρ (.str z)) (h0 : -(2 ^ 63) ≤ k0) (h1 : k0 < 2 ^ 63) (hg : Gl X "enumerate" := by rfl) (hs : starEach [a] X.env = (false, eval a X.env) :: starEach [] X.env := by rfl)
    (he : backTo pos (starEach [a] X.env) = (false, eval a X.env) :: backTo pos (starEach [] X.env) := by rfl) (hp : (backTo pos (starEach [a] X.env)).any (·.1) = false := by rfl)
    (hall : (backToKw pos (keywordEach [⟨some "start", .Constant (.int k0) kk p2, kp⟩] X.env)).all (·.1.isSome) = true := by rfl) (hkw : (backToKw pos (keywordEach [⟨some "start", .Constant (.int k0) kk p2, kp⟩] X.env)).any (·.1.isNone) = false := by rfl) :
    JI X (.Tuple elts kt tpos) (.Call (.Name "enumerate" p) [a] [⟨some "start", .Constant (.int k0) kk p2, kp⟩] pos) ρ (enumD z k0) := ⟨fun W σ H ex hV R g => fun pins s I => by
  refine wpAny_Call_Name_kw (ld_blt I hg T.enumerate boot_enumerate (callWith_typeK (args_cons (thn (pe_w.run pins s σ H _ I (ha W σ H ex hV (fun v H' => ∃ W', Step W H W' H' ∧ v = .str z) fun v W' H' st r => ⟨W', st, by cases r; rfl⟩)) fun u s1 ⟨vv, H1, I1, r1, W', st, ev⟩ => args_nil ?_) hs) he hp hall hkw))
  subst ev
  obtain ⟨tk, rfl⟩ := r1
  refine kws_cons (thn ((pe_int (X := X) (i := k0)).run pins s1 σ H1 (fun v H' => v = .int k0 ∧ H' = H1) I1 ⟨rfl, rfl⟩) fun u s2 ⟨vv, H2, I2, r2, e1, e2⟩ => kws_nil ?_)
  subst e1 e2
  obtain ⟨tk2, rfl⟩ := r2
  refine enum_begins_start (begins_text z tk) trivial h0 h1 fun h' hen hit hsz hk => wpAny_pyIter_enum hen ?_
  have I3 := I2.kept (t' := s2.toks) hk
  refine ⟨s2.heap.objs.size + 1, [s2.heap.objs.size + 1, s2.heap.objs.size], _, _, _, rfl, I3, turn_enumX z tk k0 (s2.heap.objs.size + 1) s2.heap.objs.size, ⟨⟨.none, ?_⟩, ⟨_, hit, rfl, rfl⟩, Nat.succ_ne_self _⟩, fun b hb => ?_, g _ _ _ st walks_enumX⟩
  · show IsEnum h' _ _ (k0 + ((0 : Nat) : Int)) _
    rw [show k0 + ((0 : Nat) : Int) = k0 by omega]
    exact hen
  · have lb : s2.heap.objs.size ≤ b := by
      rcases List.mem_cons.mp hb with q | q
      · rw [q]; exact Nat.le_add_right _ _
      · rw [List.mem_singleton.mp q]; exact Nat.le_refl _
    exact I2.fpOk lb (I2.hok.fresh lb)⟩
end
end Pf

namespace Pf
open PySem L2 PySem.Spec PyProof.Rows PySem.W
open Evl (Ex)
/-- three digits -/
def d3 (n : Nat) : PySem.Str := ⟨#[48 + n / 100, 48 + n / 10 % 10, 48 + n % 10]⟩
open PySem.Builtin PySem.Builtin.Str PySem.Builtin.Int in
theorem three_meets {n : Nat} {t : Tok} (h : n < 1000) : ∀ u, Meets (Builtin.«int.__format__» ⟨[.int (n : Int) t, .str (Str.ofString "03d") u], []⟩) (fun _ R s => ∀ t' k, R (.ok (.ret (.str (d3 n) t'))) { s with toks := k }) := by
  have hl : ((n : Nat) : Int).natAbs.log2 < 1920 := (by decide +kernel : ∀ n : Nat, n < 1000 → ((n : Nat) : Int).natAbs.log2 < 1920) n h
  intro u
  apply KPc.meets_of
  intro _ _ _ _ _ _ q
  unfold Builtin.«int.__format__»
  refine wpAny_bind (wpAny_of_eq (a := (_, _)) rfl (wpAny_bind (wpAny_of_eq (a := _) rfl ?_)))
  kxf_if
  refine wpAny_bind (wpAny_typeNameOf (typeIs_str _ _ _) (T := "str") (by decide) fun _ => wpAny_bind (wpAny_of_eq (a := some _) rfl ?_))
  kxf_if
  kxf_if
  refine wpAny_bind (wpAny_typeNameOfCut_int ?_)
  repeat kxf_if
  refine wpAny_bind (wpAny_of_eq (PyProof.Rows.overDigitLimit_small hl) ?_)
  dsimp only
  repeat kxf_if
  refine KXf.ret_text (T := d3 n) ?_ ?_ q
  · clear q hl
    revert n
    decide +kernel
  · clear q hl
    revert n
    decide +kernel
end Pf

namespace Pf
open PySem L2 PySem.Spec PyProof.Rows
open Evl (Ex)
section
variable {X : Cx} {ρ : Rho} {e o a b c : Expr} {es : List Expr} {pos p p1 p2 p3 apos cpos : Pos} {kk : Nat}
theorem j_fmt3 {n : Nat} (ha : J X e ρ (.int (n : Int))) (h : n < 1000) : J X (.FormattedValue e (-1) (some (.JoinedStr [.Constant (.str "03d") kk p1] p2)) pos) ρ (.str (d3 n)) := ⟨fun W σ H ex hV Q g => fun pins s I => by
  refine wpAny_FormattedValue_spec (thn (pe_w.run pins s σ H _ I (ha W σ H ex hV (fun v H' => ∃ W', Step W H W' H' ∧ v = .int (n : Int)) fun v W' H' st r => ⟨W', st, by cases r; rfl⟩)) fun u s1 ⟨vv, H1, I1, r1, W', st, ev⟩ => ?_)
  subst ev
  obtain ⟨tk, rfl⟩ := r1
  refine thn ((pe_joined1 (pos := p2) (pe_str (X := X) (x := "03d") (j := kk) (pos := p1))).run pins s1 σ H1 (fun v H' => v = .str "03d" ∧ H' = H1) I1 ⟨rfl, rfl⟩) fun u s2 ⟨vv, H2, I2, r2, e1, e2⟩ => ?_
  subst e1 e2
  obtain ⟨tk2, rfl⟩ := r2
  exact ⟨_, tk2, rfl, PySem.W.KXf.field_int rfl (by decide +kernel) (by decide +kernel) (three_meets h) fun t' k => ⟨.str (d3 n), _, I2.tok _, ⟨t', rfl⟩, g _ _ _ st (.str _)⟩⟩⟩
theorem j_fmtI {i : Int} (ha : J X e ρ (.int i)) (h : i.natAbs.log2 < 1920) : J X (.FormattedValue e (-1) none pos) ρ (.str (toString i)) := ⟨fun W σ H ex hV Q g => .of (pe_fmt pe_w) (ha W σ H ex hV _ fun v W1 H1 s1 r1 => by
  cases r1; exact .inr ⟨i, rfl, h, g _ _ _ s1 (.str _)⟩)⟩
theorem j_fmtS {y : PySem.Str} (ha : J X e ρ (.str y)) (h : y.length ≤ sizeLine) : J X (.FormattedValue e (-1) none pos) ρ (.str y) := ⟨fun W σ H ex hV Q g => .of (pe_fmt pe_w) (ha W σ H ex hV _ fun v W1 H1 s1 r1 => by
  cases r1; exact .inl ⟨y, rfl, h, g _ _ _ s1 (.str _)⟩)⟩
inductive JF (X : Cx) (ρ : Rho) : List Expr → List PySem.Str → Prop
  | nil : JF X ρ [] []
  | cons {e : Expr} {y : PySem.Str} {es : List Expr} {ys : List PySem.Str} (h : J X e ρ (.str y)) (r : JF X ρ es ys) : JF X ρ (e :: es) (y :: ys)
def joinS (acc : PySem.Str) : List PySem.Str → PySem.Str
  | [] => acc
  | y :: ys => joinS (acc ++ y) ys
theorem app_len (x y : PySem.Str) : (x ++ y).length = x.length + y.length := by
  show (x.cps ++ y.cps).size = _
  rw [Array.size_append]; rfl
theorem joinS_le : ∀ (ys : List PySem.Str) (acc : PySem.Str), acc.length ≤ (joinS acc ys).length
  | [], _ => Nat.le_refl _
  | y :: ys, acc => Nat.le_trans (by rw [app_len]; omega) (joinS_le ys (acc ++ y))
theorem pj_w : ∀ es : List Expr, PJ X es (es.map (wE X))
  | [] => .nil
  | _ :: es => .cons pe_w (pj_w es)
theorem jf_run {ys : List PySem.Str} (h : JF X ρ es ys) : ∀ (acc : PySem.Str) (W : Hp) (σ : L2.St) (H : Hp) (Q : PySem.Str → Hp → Prop), Ex W H → Vis X.K ρ W σ → (joinS acc ys).length ≤ sizeLine → (∀ W' H', Step W H W' H' → Q (joinS acc ys) H') → tJs (es.map (wE X)) acc σ H Q := by
  induction h with
  | nil => intro acc W σ H Q ex hV hl g; exact g W H (.refl ex)
  | @cons e y es ys h r ih =>
    intro acc W σ H Q ex hV hl g
    refine h W σ H ex hV _ fun v W1 H1 s1 r1 => ?_
    cases r1
    exact ⟨y, rfl, Nat.le_trans (joinS_le ys (acc ++ y)) hl, ih (acc ++ y) W1 σ H1 Q s1.wh (hV.mono s1.ww) hl fun W' H' s2 => g W' H' (s1.trans s2)⟩
theorem j_fs {v1 v2 : Expr} {rest : List Expr} {ys : List PySem.Str} {z : PySem.Str} (h : JF X ρ (v1 :: v2 :: rest) ys) (hz : joinS Str.empty ys = z) (hl : z.length ≤ sizeLine) : J X (.JoinedStr (v1 :: v2 :: rest) pos) ρ (.str z) := ⟨fun W σ H ex hV Q g => by
  subst hz
  exact .of (pe_joined (pj_w _)) (jf_run h Str.empty W σ H _ ex hV hl fun W' H' st => g _ _ _ st (.str _))⟩
def signsD (z : PySem.Str) : List D := z.cps.toList.map fun c => .str ⟨#[c]⟩
theorem signsD_get {z : PySem.Str} {i : Nat} {d : D} (h : (signsD z)[i]? = some d) : ∃ c, z.cps[i]? = some c ∧ d = .str ⟨#[c]⟩ := by
  unfold signsD at h
  rw [List.getElem?_map, Array.getElem?_toList] at h
  cases hc : z.cps[i]? with
  | none => rw [hc] at h; cases h
  | some c => rw [hc] at h; cases h; exact ⟨c, rfl, rfl⟩
theorem signsD_length {z : PySem.Str} : (signsD z).length = z.cps.size := by unfold signsD; rw [List.length_map, Array.length_toList]
theorem walks_signs {K : PySem.W.Frag} {W : Hp} {z : PySem.Str} : Walks K (Its z) W (signsD z) where
  go := fun i H _ h => by rw [signsD_length] at h; exact h
  yld := fun i H x H' d _ hd ⟨hH, c, hc, hx⟩ W2 _ e2 => by
    obtain ⟨c', hc', rfl⟩ := signsD_get hd
    rw [hc] at hc'
    cases hc'
    subst hx hH
    exact ⟨W2, .refl e2, .str _⟩
  stop := fun H _ => Nat.le_of_eq signsD_length.symm
theorem ji_str {tg : Expr} {z : PySem.Str} (ha : J X a ρ (.str z)) : JI X tg a ρ (signsD z) := ⟨fun W σ H ex hV R g => .of (pi_str pe_w) (ha W σ H ex hV _ fun v W1 H1 s1 r1 => by
  cases r1; exact ⟨z, rfl, g _ _ _ s1 walks_signs⟩)⟩
theorem j_join {x : PySem.Str} {ys : List PySem.Str} {z : PySem.Str} (ho : J X o ρ (.str x)) (ha : J X a ρ (.lst (ys.map D.str))) (hz : (ys.map (·.length)).sum + ys.length * x.length ≤ 16777216) (hj : Txt.join x ys = z) (hs : starEach [a] X.env = [(false, eval a X.env)] := by rfl) (hbase : attributeBase o "join" X.env (eval o X.env) = eval o X.env := by rfl) (hline : (apos.endLine == pos.line) = true := by rfl) :
    J X (.Call (.Attribute o "join" apos) [a] [] pos) ρ (.str z) := ⟨fun W σ H ex hV Q g => .of (pe_join pe_w pe_w hs hbase hline) (ho W σ H ex hV _ fun v W1 H1 s1 r1 => by
  cases r1
  refine ⟨⟨x, rfl⟩, ha W1 σ H1 s1.wh (hV.mono s1.ww) _ fun u W2 H2 s2 r2 => ?_⟩
  cases r2 with
  | lst h1 k => cases k.strs; subst hj; exact ⟨x, _, ys, rfl, rfl, .inl (SqL.of (s2.wh _ _ h1)), hz, g _ _ _ (s1.trans s2) (.str _)⟩)⟩
theorem j_splitMax {x y : PySem.Str} {k : Int} (ho : J X o ρ (.str x)) (ha : JA X [a, b] ρ [.str y, .int k]) (hy : (y.length == 0) = false) (h0 : -(2 ^ 63) ≤ k) (h1 : k < 2 ^ 63) (hl : x.length + 2 ≤ sizeLine) (hbase : attributeBase o "split" X.env (eval o X.env) = eval o X.env := by rfl)
    (hfew : ((backTo cpos (starEach [a, b] X.env)).all (fun x => !x.1) && (backToKw cpos (keywordEach [] X.env)).all (fun x => x.1.isSome) && decide ([a, b].length + ([] : List Keyword).length + (if ([] : List Keyword).isEmpty then 0 else 1) < 30)) = true := by rfl)
    (hline : (apos.endLine == cpos.line) = true := by rfl) (hs : starEach [a, b] X.env = (false, eval a X.env) :: starEach [b] X.env := by rfl) (hplain : (backTo cpos (starEach [b] X.env)).any (·.1) = false := by rfl) :
    J X (.Call (.Attribute o "split" apos) [a, b] [] cpos) ρ (.lst ((Txt.splitMax x y k).map D.str)) := ⟨fun W σ H ex hV Q g =>
  .of (pe_bm PySem.F.plainAttrs_str PySem.F.slot_str_split PySem.F.type_str_split mt_splitMax pe_w pa_w hbase hfew hline hs hplain) (ho W σ H ex hV _ fun v W1 H1 s1 r1 => by
  cases r1
  refine ⟨rfl, ha W1 σ H1 s1.wh (hV.mono s1.ww) _ fun us W2 H2 s2 r2 => ?_⟩
  cases r2 with
  | cons q1 r2 =>
    cases q1
    cases r2 with
    | cons q1 r2 =>
      cases q1
      cases r2
      exact ⟨x, y, k, rfl, rfl, hy, h0, h1, hl, fun q hq => g _ _ _ ((s1.trans s2).trans (.new s2.wh hq)) (.lst upd_same (RepAll.toStrs _))⟩)⟩
theorem rc_ord {K : PySem.W.Frag} {n : Nat} : RCD K (fun xs H Q => ∃ x, xs = [V.str x] ∧ x.length = 1 ∧ Q (V.int (x.cps.getD 0 0 : Nat)) H) [.str ⟨#[n]⟩] (.int (n : Int)) := fun W H vs ex r Q q => by
  cases r with | cons r t => cases t; cases r; exact ⟨_, rfl, rfl, q.now ex (.int _)⟩
theorem rc_intS {K : PySem.W.Frag} {x : PySem.Str} {n : Int} (h : PySem.intText? x = some n) (hl : x.length ≤ 640) : RCD K (fun xs H Q => ∃ a n, xs = [V.str a] ∧ PySem.intText? a = some n ∧ a.length ≤ 640 ∧ Q (V.int n) H) [.str x] (.int n) := fun W H vs ex r Q q => by
  cases r with | cons r t => cases t; cases r; exact ⟨x, n, rfl, h, hl, q.now ex (.int _)⟩
theorem jb_ord {n : Nat} (hm : X.mg "ord" = none) (ha : JA X [e] ρ [.str ⟨#[n]⟩]) (hg : Gl X "ord" := by rfl) (he : starEach [e] X.env = (false, eval e X.env) :: starEach [] X.env := by rfl) (hpl : (backTo pos (starEach [] X.env)).any (·.1) = false := by rfl) :
    J X (.Call (.Name "ord" p) [e] [] pos) ρ (.int (n : Int)) := j_cb call_ord hm (by decide +kernel) ha rc_ord hg (by decide) (by decide) he hpl
theorem jb_intS {x : PySem.Str} {n : Int} (T : Bt X.mg) (ha : JA X [e] ρ [.str x]) (h : PySem.intText? x = some n) (hl : x.length ≤ 640) (hg : Gl X "int" := by rfl) (he : starEach [e] X.env = (false, eval e X.env) :: starEach [] X.env := by rfl) (hpl : (backTo pos (starEach [] X.env)).any (·.1) = false := by rfl) :
    J X (.Call (.Name "int" p) [e] [] pos) ρ (.int n) := j_ct call_int_str T.int (by decide +kernel) ha (rc_intS h hl) hg (by decide) (by decide) he hpl
theorem cd_leS {x y : PySem.Str} : CmD X .LtE (.str x) (.str y) (!decide (y.cps.toList < x.cps.toList)) := ⟨_, op_le_str, fun W H v u ex r1 r2 Q q => by
  cases r1; cases r2; exact ⟨x, y, rfl, rfl, q.now ex (.bl _)⟩⟩
end
end Pf

namespace Pf
open PySem L2 PySem.Spec PyProof.Rows
open Evl (Ex)

section
open PySem.W PySem.Calls
variable {prog : Program} {w : World} {A : Around} {E : Value → Shared → Prop} {h : Heap} {g : Array GenState} {d : Drawn} {t : Nat} {os : OsState}
end

section
variable {X : Cx} {pins : List (Addr × Obj)} {σ : L2.St} {H : Hp} {s : Shared} {A : Around} {E : Value → Shared → Prop} {a C u : Addr}
end

section
variable {P : Program} {w : World} {K : PySem.W.Frag} {mg : Str → Option Value} {base : Heap} {k : Nat} {f C cc c : Addr} {qual pa fld : Str} {params : Arguments} {scope : Scope} {dV kV doc pm ct oc : Value} {an od : Option Addr} {osl : Array (Option Value)} {fd : FuncData} {msg : Expr} {p0 p1 p2 p3 p4 q0 q1 q2 q3 : Pos} {G : D → Prop} {body : List Stmt}
end
end Pf

namespace Pf
open PySem L2 PySem.Spec PyProof.Rows
open Evl (Ex)

abbrev HdT := Value × Option Nat × (Addr → Value → Option Addr → TS)
def SuiteOk (X : Cx) (st : List Stmt) (ts : Addr → Value → Option Addr → TS) : Prop := ∀ (a : Addr) (oe : Obj) (cls : Value) (d : Option Addr) (pn : List (Addr × Obj)), Zc cls d oe → (∃ vs, oe.data = .fields vs) → PSs (X.suite a ((a, oe) :: pn)) st (ts a cls d)
inductive HdM (X : Cx) : List ExceptHandler → List HdT → Prop
  | nil : HdM X [] []
  | plain {x : Str} {c : Value} {ts : Addr → Value → Option Addr → TS} {b₀ : Stmt} {suite : List Stmt} {np pos' : Pos} {hds : List ExceptHandler} {l : List HdT} : Names X x c → SuiteOk X (b₀ :: suite) ts → HdM X hds l → HdM X (.ExceptHandler (some (.Name x np)) none (b₀ :: suite) pos' :: hds) ((c, none, ts) :: l)
  | named {x n : Str} {i : Nat} {c : Value} {ts : Addr → Value → Option Addr → TS} {b₀ : Stmt} {suite : List Stmt} {np pos' : Pos} {hds : List ExceptHandler} {l : List HdT} : Names X x c → X.N[i]? = some n → X.env.kindOf n = some .local → SuiteOk X (b₀ :: suite) ts → HdM X hds l →
      HdM X (.ExceptHandler (some (.Name x np)) (some n) (b₀ :: suite) pos' :: hds) ((c, some i, ts) :: l)

section
variable {X : Cx} {body : List Stmt} {h₀ : ExceptHandler} {hds : List ExceptHandler} {l : List HdT} {pos : Pos} {tb : L2.WX → TS} {Wo : L2.WX}
end
end Pf

namespace Pf
open PySem L2 PySem.Spec PyProof.Rows
open Evl (Ex)

/-- what is done where an error er leaves, made behind H -/
def GoodX (K : PySem.W.Frag) (H : Hp) (er : Er) (E : XK) : Prop := ∀ d H', Ex H H' → ErAt K H' er d → (∀ dd, d = some dd → H dd = none) → E er.cls d H'
theorem GoodX.step {K : PySem.W.Frag} {H H1 : Hp} {er : Er} {E : XK} (g : GoodX K H er E) (e : Ex H H1) : GoodX K H1 er E := fun d H' e1 at' fr => g d H' (e.trans e1) at' fun dd q => by
  cases z : H dd with
  | none => rfl
  | some o => have := e _ _ z; rw [fr dd q] at this; cases this
section
variable {P : Program} {w : World} {K : PySem.W.Frag} {mg : Str → Option Value} {base : Heap} {x qual : Str} {st : Stmt} {f : Addr} {fd : FuncData} {N ps : List Str} {k : Nat} {G : List D → (D → Prop) → (Er → Prop) → Prop}
end

section
variable {X : Cx} {pin : List Nat} {ρ : RhoS} {Φ : Out → Prop} {e : Expr} {es : List Expr} {ds : List D} {pos p p' : Pos} {i k j n : Nat} {x : Str} {P : D → Prop} {R : Er → Prop} {G : List D → (D → Prop) → (Er → Prop) → Prop}
end

section
variable {X : Cx} {pin : List Nat} {ρ : RhoS} {Φ : Out → Prop} {e : Expr} {es : List Expr} {ds : List D} {pos p p' : Pos} {i k j n : Nat} {x : Str} {er : Er}
end

/-- an except clause: its class, the slot of its name, its suite -/
structure Hd where
  c : Value
  i : Option Nat
  st : List Stmt
inductive HdJ (X : Cx) : List ExceptHandler → List Hd → Prop
  | nil : HdJ X [] []
  | plain {x : Str} {c : Value} {b₀ : Stmt} {suite : List Stmt} {np pos' : Pos} {hds : List ExceptHandler} {l : List Hd} : Names X x c → HdJ X hds l → HdJ X (.ExceptHandler (some (.Name x np)) none (b₀ :: suite) pos' :: hds) (⟨c, none, b₀ :: suite⟩ :: l)
  | named {x n : Str} {i : Nat} {c : Value} {b₀ : Stmt} {suite : List Stmt} {np pos' : Pos} {hds : List ExceptHandler} {l : List Hd} : Names X x c → X.N[i]? = some n → X.env.kindOf n = some .local → HdJ X hds l →
      HdJ X (.ExceptHandler (some (.Name x np)) (some n) (b₀ :: suite) pos' :: hds) (⟨c, some i, b₀ :: suite⟩ :: l)
/-- the dict of a caught error: there where it has fields, none else -/
structure DOk (er : Er) (d : Option Addr) : Prop where
  has : er.fs.isSome = true → ∃ dd, d = some dd
  no : er.fs = none → d = none
instance {er : Er} {d : Option Addr} : CoeFun (DOk er d) (fun _ => er.fs.isSome = true → ∃ dd, d = some dd) := ⟨DOk.has⟩
def tsOf (X : Cx) (st : List Stmt) : Addr → Value → Option Addr → TS := fun a cls d D σ H => ∀ (oe : Obj) (pn : List (Addr × Obj)), Zc cls d oe → (∃ vs, oe.data = .fields vs) → wSs (X.suite a ((a, oe) :: pn)) st D σ H
theorem tsOf_ok {X : Cx} {st : List Stmt} : SuiteOk X st (tsOf X st) := fun a oe cls d pn hz hf => ⟨fun pins s σ H D I h => h oe pn hz hf pins s I⟩
def hdT (X : Cx) (h : Hd) : HdT := (h.c, h.i, tsOf X h.st)
theorem HdJ.m {X : Cx} : ∀ {hds : List ExceptHandler} {l : List Hd}, HdJ X hds l → HdM X hds (l.map (hdT X))
  | _, _, .nil => .nil
  | _, _, .plain hc r => .plain hc tsOf_ok r.m
  | _, _, .named hc hi hl r => .named hc hi hl tsOf_ok r.m
section
variable {K : PySem.W.Frag} {E : Ent} {ρ : RhoS} {σ : L2.St} {H Hf : Hp} {A : Nat → List Addr}
end
section
variable {X : Cx} {pin : List Nat} {ρ : RhoS} {Φ : Out → Prop} {body : List Stmt} {h₀ : ExceptHandler} {hds : List ExceptHandler} {l : List Hd} {pos : Pos}
end
end Pf

namespace Pf
open PySem L2 PySem.Spec PyProof.Rows
open Evl (Ex)
section
variable {X : Cx} {K : PySem.W.Frag} {ρ : Rho} {a b e o : Expr} {es : List Expr} {ds es' : List D} {pos p tpos apos cpos : Pos} {elts : List Expr} {kk : Nat} {d : D}
theorem zipL_get {xs ys : List D} {i : Nat} {d : D} (h : ((xs.zip ys).map fun p => D.tup [p.1, p.2])[i]? = some d) : ∃ x y, xs[i]? = some x ∧ ys[i]? = some y ∧ d = .tup [x, y] := by
  rw [List.getElem?_map] at h
  cases q : (xs.zip ys)[i]? with
  | none => rw [q] at h; cases h
  | some x =>
    rw [q] at h
    obtain ⟨h1, h2⟩ := List.getElem?_zip_eq_some.mp q
    exact ⟨x.1, x.2, h1, h2, (Option.some.inj h).symm⟩
theorem walks_zipL {W : Hp} {l m : Addr} {vs us : List V} (h : W l = some (.lst vs)) (k : RepAll K W ds vs) (h' : W m = some (.lst us)) (k' : RepAll K W es' us) : Walks K (Itz K l m) W ((ds.zip es').map fun p => D.tup [p.1, p.2]) where
  go := fun i H ex hi => by
    rw [List.length_map, List.length_zip] at hi
    have hv : i < vs.length := by rw [← k.length]; omega
    have hu : i < us.length := by rw [← k'.length]; omega
    exact ⟨vs, us, vs[i], us[i], SqL.of (ex _ _ h), SqL.of (ex _ _ h'), by simp [hv], by simp [hu]⟩
  yld := fun i H x H' d ex hd hy W2 e1 e2 => by
    obtain ⟨T, y, z, rfl, hT, rfl, hy, hz⟩ := hy
    obtain ⟨dx, dy, h1, h2, rfl⟩ := zipL_get hd
    obtain ⟨v, g1, g2⟩ := k.get h1
    obtain ⟨u, g3, g4⟩ := k'.get h2
    have q := hy vs (SqL.of (ex _ _ h))
    rw [g1] at q; cases q
    have q := hz us (SqL.of (ex _ _ h'))
    rw [g3] at q; cases q
    have en := Evl.Ex.new (o := .tup [y, z]) (Evl.fresh_back e2 hT)
    exact ⟨_, .new e2 hT, .tup (SqT.of upd_same) (.cons ((g2.mono e1).mono en) (.cons ((g4.mono e1).mono en) .nil))⟩
  stop := fun H ex => ⟨vs, us, SqL.of (ex _ _ h), SqL.of (ex _ _ h'), by
    rw [List.length_map, List.length_zip]
    have := k.length; have := k'.length
    omega⟩
theorem ji_zipL (hm : X.mg "zip" = none) (h : J X a ρ (.lst ds)) (h' : J X b ρ (.lst es')) (hg : Gl X "zip" := by rfl) (hs : starEach [a, b] X.env = (false, eval a X.env) :: starEach [b] X.env := by rfl) (hs2 : starEach [b] X.env = (false, eval b X.env) :: starEach [] X.env := by rfl) (hpl : (backTo pos (starEach [b] X.env)).any (·.1) = false := by rfl) :
    JI X (.Tuple elts kk tpos) (.Call (.Name "zip" p) [a, b] [] pos) ρ ((ds.zip es').map fun p => D.tup [p.1, p.2]) := ⟨fun W σ H ex hV R g =>
  .of (pi_zip hg hm pa_w hs hpl) (ja_cons h (ja_cons h' ja_nil hs2) hs W σ H ex hV _ fun vs W1 H1 s1 r1 => by
    cases r1 with
    | cons r t =>
      cases t with
      | cons r' t =>
        cases t
        cases r with
        | lst h1 k =>
          cases r' with
          | lst h2 k2 => exact ⟨_, _, _, _, rfl, SqL.of (s1.wh _ _ h1), SqL.of (s1.wh _ _ h2), g _ W1 H1 s1 (walks_zipL h1 k h2 k2)⟩)⟩
end
def tx (cs : List Nat) : Str := ⟨cs.toArray⟩
theorem tx_cps (cs : List Nat) : (tx cs).cps.toList = cs := rfl
theorem tx_len (cs : List Nat) : (tx cs).length = cs.length := by show cs.toArray.size = _; simp
theorem tx_of (z : Str) : tx z.cps.toList = z := by show (⟨z.cps.toList.toArray⟩ : Str) = z; rw [Array.toArray_toList]
theorem len_of (z : Str) : z.cps.toList.length = z.length := by rw [Array.length_toList]; rfl
theorem tx_app (a b : List Nat) : tx a ++ tx b = tx (a ++ b) := by
  show (⟨a.toArray ++ b.toArray⟩ : Str) = ⟨(a ++ b).toArray⟩
  rw [List.append_toArray]
theorem tx_inj {a b : List Nat} (h : tx a = tx b) : a = b := congrArg (fun z : Str => z.cps.toList) h
theorem le_size {n : Nat} (h : n ≤ 10000) : n ≤ sizeLine := Nat.le_trans h (by decide)
theorem lt_size {n : Nat} (h : n ≤ 10000) : n < sizeLine := Nat.lt_of_le_of_lt h (by decide)
theorem cutS_tx (cs : List Nat) (a b : Option Int) : cutS (tx cs) a b = tx (cut cs a b) := by
  unfold cutS cut tx
  congr 1
theorem atI_getD {α : Type} (d : α) {xs : List α} {i : Int} (h0 : 0 ≤ i) (h1 : i < xs.length) : atI xs i = some (xs.getD i.toNat d) := by
  unfold atI ixN
  rw [if_pos h0, if_pos (by omega)]
  show xs[i.toNat]? = _
  rw [List.getD_eq_getElem?_getD, List.getElem?_eq_getElem (by omega)]
  rfl
theorem atI_N {α : Type} (d : α) {xs : List α} {i : Int} (n : Nat) (h0 : i = (n : Int)) (h1 : n < xs.length) : atI xs i = some (xs.getD n d) := by
  subst h0
  exact atI_getD d (by omega) (by omega)
theorem cut_take {α : Type} (xs : List α) (n : Nat) (h : n ≤ xs.length) : cut xs none (some (n : Int)) = xs.take n := by
  unfold cut
  rw [HT.sIx_none, HT.sIx_nat, List.drop_zero]
  congr 1
  omega
theorem cut_takeN {α : Type} (xs : List α) (n : Nat) : cut xs none (some (n : Int)) = xs.take n := by
  unfold cut
  rw [HT.sIx_none, HT.sIx_nat, List.drop_zero]
  by_cases h : n ≤ xs.length
  · congr 1; omega
  · rw [List.take_of_length_le (by omega), List.take_of_length_le (by omega)]
theorem cut_drop {α : Type} (xs : List α) (n : Nat) (h : n ≤ xs.length) : cut xs (some (n : Int)) none = xs.drop n := by
  unfold cut
  rw [HT.sIx_none, HT.sIx_nat, Nat.min_eq_left h]
  exact List.take_of_length_le (by rw [List.length_drop]; omega)
theorem lenS {z : Str} (h : z.length ≤ sizeLine) : lenD (.str z) = some z.length := if_pos h
theorem j_gI {X : Cx} {ρ : Rho} {pos : Pos} {n : Str} {i : Int} (h : ∃ t, X.mg n = some (.int i t)) (hg : Gl X n := by rfl) (hdb : (n == ("__debug__" : Str)) = false := by decide) : J X (.Name n pos) ρ (.int i) := by
  obtain ⟨t, h⟩ := h
  exact j_glob (v := .int i) h ⟨t, rfl⟩ (fun H => .int _) hg hdb
theorem j_gS {X : Cx} {ρ : Rho} {pos : Pos} {n : Str} {i : Str} (h : ∃ t, X.mg n = some (.str i t)) (hg : Gl X n := by rfl) (hdb : (n == ("__debug__" : Str)) = false := by decide) : J X (.Name n pos) ρ (.str i) := by
  obtain ⟨t, h⟩ := h
  exact j_glob (v := .str i) h ⟨t, rfl⟩ (fun H => .str _) hg hdb
def nmSign (c : Nat) : Bool := (decide (97 ≤ c) && decide (c ≤ 122)) || (decide (48 ≤ c) && decide (c ≤ 57))
theorem nm_mem (c : Nat) : decide (c ∈ ("abcdefghijklmnopqrstuvwxyz0123456789" : Str).cps.toList) = nmSign c := by
  rw [show ("abcdefghijklmnopqrstuvwxyz0123456789" : Str).cps.toList = [97, 98, 99, 100, 101, 102, 103, 104, 105, 106, 107, 108, 109, 110, 111, 112, 113, 114, 115, 116, 117, 118, 119, 120, 121, 122, 48, 49, 50, 51, 52, 53, 54, 55, 56, 57] from by decide +kernel]
  unfold nmSign
  rw [Bool.eq_iff_iff, Bool.or_eq_true, Bool.and_eq_true, Bool.and_eq_true, decide_eq_true_iff, decide_eq_true_iff, decide_eq_true_iff, decide_eq_true_iff, decide_eq_true_iff]
  simp only [List.mem_cons, List.not_mem_nil, or_false]
  omega
def isNm (z : Str) : Bool := (decide (1 ≤ z.length) && decide (z.length ≤ 12)) && z.cps.toList.all nmSign
end Pf

namespace Pf
open PySem L2 PySem.Spec PyProof.Rows
open Evl (Ex)
section
variable {X : Cx} {ρ : Rho} {a b e : Expr} {es : List Expr} {x y z d : D} {ds es' : List D} {pos p : Pos} {op : CmpOp} {bo : Operator} {P P' : D → Prop} {R : Er → Prop} {t : Bool}
end
def kySign (c : Nat) : Bool := nmSign c || decide (c = 45)
theorem ky_mem (c : Nat) : decide (c ∈ ("abcdefghijklmnopqrstuvwxyz0123456789-" : Str).cps.toList) = kySign c := by
  rw [show ("abcdefghijklmnopqrstuvwxyz0123456789-" : Str).cps.toList = ("abcdefghijklmnopqrstuvwxyz0123456789" : Str).cps.toList ++ [45] from by decide +kernel]
  unfold kySign
  rw [← nm_mem, Bool.eq_iff_iff, Bool.or_eq_true, decide_eq_true_iff, decide_eq_true_iff, decide_eq_true_iff, List.mem_append, List.mem_singleton]
def isKy (z : Str) : Bool := (decide (1 ≤ z.length) && decide (z.length ≤ 20)) && z.cps.toList.all kySign
def nmD : D → Bool
  | .str z => isNm z
  | _ => false
def kyD : D → Bool
  | .str z => isKy z
  | _ => false
def inD (lo hi : Int) : D → Bool
  | .int i => decide (lo ≤ i) && decide (i ≤ hi)
  | _ => false
/-- a text that is not long, or an int -/
def part : D → Bool
  | .str z => decide (z.length ≤ 2000)
  | .int _ => true
  | _ => false
/-- an entry by its parts -/
def entD : List D → Bool
  | [.str w, a, b, c, d] => decide (w = "ask") && ((kyD a && (nmD b && inD 1 1000 c)) && inD 0 1000000000 d)
  | [.str w, a, b] => decide (w = "release") && (kyD a && inD 0 1000000000 b)
  | _ => false
def OkE (es : List D) : Prop := es.all part = true ∧ es.length ≤ 100 ∧ ∃ w r, es = .str w :: r
def kyOf : List D → Str
  | _ :: .str z :: _ => z
  | _ => ""
def lastOf (es : List D) : Int := match es.getLast? with
  | some (.int i) => i
  | _ => 0
def isRel : List D → Bool
  | .str w :: _ => decide (w = "release")
  | _ => false
end Pf

namespace Pf
open PySem L2 PySem.Spec PyProof.Rows
open Evl (Ex)
section
variable {X : Cx} {K : PySem.W.Frag} {ρ : Rho} {a b e o : Expr} {es : List Expr} {ds : List D} {pos p apos cpos : Pos} {d : D}
end
end Pf
namespace Pf
open PySem L2 PySem.Spec PyProof.Rows
open Evl (Ex)
section
variable {X : Cx} {K : PySem.W.Frag} {ρ : Rho} {a b e o : Expr} {es : List Expr} {ds : List D} {pos p apos cpos : Pos} {d : D}
end
end Pf

namespace Pf
open PySem L2 PySem.Spec PyProof.Rows
open Evl (Ex)
open PySem.NumText (AllDigits digitsVal)
section
variable {X : Cx} {K : PySem.W.Frag} {ρ : Rho} {a b e o : Expr} {es : List Expr} {ds : List D} {pos p apos cpos : Pos} {d : D}
theorem j_split {x y : PySem.Str} (ho : J X o ρ (.str x)) (ha : JA X [a] ρ [.str y]) (hy : (y.length == 0) = false) (hl : x.length + 2 ≤ sizeLine) (hbase : attributeBase o "split" X.env (eval o X.env) = eval o X.env := by rfl)
    (hfew : ((backTo cpos (starEach [a] X.env)).all (fun x => !x.1) && (backToKw cpos (keywordEach [] X.env)).all (fun x => x.1.isSome) && decide ([a].length + ([] : List Keyword).length + (if ([] : List Keyword).isEmpty then 0 else 1) < 30)) = true := by rfl)
    (hline : (apos.endLine == cpos.line) = true := by rfl) (hs : starEach [a] X.env = (false, eval a X.env) :: starEach [] X.env := by rfl) (hplain : (backTo cpos (starEach [] X.env)).any (·.1) = false := by rfl) :
    J X (.Call (.Attribute o "split" apos) [a] [] cpos) ρ (.lst ((Txt.split x y).map D.str)) := ⟨fun W σ H ex hV Q g =>
  .of (pe_bm PySem.F.plainAttrs_str PySem.F.slot_str_split PySem.F.type_str_split mt_split pe_w pa_w hbase hfew hline hs hplain) (ho W σ H ex hV _ fun v W1 H1 s1 r1 => by
  cases r1
  refine ⟨rfl, ha W1 σ H1 s1.wh (hV.mono s1.ww) _ fun us W2 H2 s2 r2 => ?_⟩
  cases r2 with
  | cons q1 r2 =>
    cases q1
    cases r2
    exact ⟨x, y, rfl, rfl, hy, hl, fun q hq => g _ _ _ ((s1.trans s2).trans (.new s2.wh hq)) (.lst upd_same (RepAll.toStrs _))⟩)⟩
theorem rc_strS {z : PySem.Str} : RCD K (fun xs H Q => ∃ a, xs = [V.str a] ∧ Q (V.str a) H) [.str z] (.str z) := fun W H vs ex r Q q => by
  cases r with | cons r t => cases t; cases r; exact ⟨_, rfl, q.now ex (.str _)⟩
theorem jb_strS {z : PySem.Str} (T : Bt X.mg) (ha : JA X [e] ρ [.str z]) (hg : Gl X "str" := by rfl) (he : starEach [e] X.env = (false, eval e X.env) :: starEach [] X.env := by rfl) (hpl : (backTo pos (starEach [] X.env)).any (·.1) = false := by rfl) :
    J X (.Call (.Name "str" p) [e] [] pos) ρ (.str z) := j_ct SkE.call_str_str T.str (by decide +kernel) ha rc_strS hg (by decide) (by decide) he hpl
end
theorem join_len (y : Str) : ∀ xs : List Str, (Txt.join y xs).length ≤ (xs.map (·.length)).sum + xs.length * y.length := by
  intro xs
  rw [TL.join_eq]
  induction xs with
  | nil => exact Nat.zero_le _
  | cons x xs ih =>
    cases xs with
    | nil => show x.length ≤ _; simp
    | cons z r =>
      show (x ++ y ++ Str.join y (z :: r)).length ≤ _
      rw [app_len, app_len]
      simp only [List.map_cons, List.sum_cons, List.length_cons, Nat.add_mul] at ih ⊢
      omega
theorem sum_le {xs : List Str} {m : Nat} (h : ∀ x ∈ xs, x.length ≤ m) : (xs.map (·.length)).sum ≤ xs.length * m := by
  induction xs with
  | nil => simp
  | cons x xs ih =>
    have h1 := h x (by simp)
    have h2 := ih fun y hy => h y (by simp [hy])
    simp only [List.map_cons, List.sum_cons, List.length_cons, Nat.add_mul]
    omega
def numS (n : Int) : List Nat := ((toString n : String) : Str).cps.toList
def isDg (c : Nat) : Bool := decide (48 ≤ c) && decide (c ≤ 57)
def okNum (cs : List Nat) (k : Nat) : Bool := (decide (1 ≤ cs.length) && decide (cs.length ≤ k)) && cs.all isDg
def zeroed (cs : List Nat) : Bool := decide (cs.getD 0 0 = 48) && !decide (cs = [48])
def pNum (cs : List Nat) (k : Nat) : Option Nat := if okNum cs k = true then (if zeroed cs = true then none else some (digitsVal cs)) else none
def optN : Option Nat → D
  | none => .non
  | some n => .int (n : Int)
theorem dg_mem (c : Nat) : decide (c ∈ ("0123456789" : Str).cps.toList) = isDg c := by
  rw [show ("0123456789" : Str).cps.toList = [48, 49, 50, 51, 52, 53, 54, 55, 56, 57] from by decide +kernel]
  unfold isDg
  rw [Bool.eq_iff_iff, Bool.and_eq_true, decide_eq_true_iff, decide_eq_true_iff, decide_eq_true_iff]
  simp only [List.mem_cons, List.not_mem_nil, or_false]
  omega
theorem val_lt : ∀ cs : List Nat, AllDigits cs → digitsVal cs < 10 ^ cs.length := by
  have key : ∀ (cs : List Nat) (acc : Nat), AllDigits cs → cs.foldl (fun acc c => acc * 10 + (c - 48)) acc < (acc + 1) * 10 ^ cs.length := by
    intro cs
    induction cs with
    | nil => intro acc _; simp
    | cons c cs ih =>
      intro acc h
      have hc := h c List.mem_cons_self
      have := ih (acc * 10 + (c - 48)) fun d hd => h d (List.mem_cons_of_mem _ hd)
      rw [List.foldl_cons, List.length_cons, Nat.pow_succ]
      refine Nat.lt_of_lt_of_le this ?_
      rw [Nat.mul_comm (10 ^ cs.length) 10, ← Nat.mul_assoc]
      exact Nat.mul_le_mul_right _ (by omega)
  intro cs h
  have := key cs 0 h
  unfold digitsVal
  simpa using this
theorem signs_of (n : Nat) : numS (n : Int) = (Nat.toDigits 10 n).map Char.toNat := PySem.W.KIN.signs_num n
theorem dig_range {c : Char} (h : c.isDigit = true) : 48 ≤ c.toNat ∧ c.toNat ≤ 57 := by
  unfold Char.isDigit at h
  rw [Bool.and_eq_true, decide_eq_true_iff, decide_eq_true_iff] at h
  exact ⟨h.1, h.2⟩
theorem numS_dig (n : Nat) : AllDigits (numS (n : Int)) := by
  intro c hc
  rw [signs_of] at hc
  obtain ⟨ch, hch, rfl⟩ := List.mem_map.mp hc
  exact dig_range (Nat.isDigit_of_mem_toDigits (by decide) (by decide) hch)
theorem numS_val (n : Nat) : digitsVal (numS (n : Int)) = n := by rw [signs_of]; exact PySem.W.KIN.val_back n
theorem numS_le {n k : Nat} (hk : 1 ≤ k) (h : n < 10 ^ k) : (numS (n : Int)).length ≤ k := by rw [signs_of, List.length_map]; exact digits10_le hk h
theorem numS_pos (n : Nat) : 1 ≤ (numS (n : Int)).length := by rw [signs_of, List.length_map]; exact tDigits_len_ge 10 n
theorem pNum_num {n k : Nat} (hk : 1 ≤ k) (h : n < 10 ^ k) : pNum (numS (n : Int)) k = some n := by
  have hd := numS_dig n
  have hl := numS_le hk h
  have hp := numS_pos n
  have hok : okNum (numS (n : Int)) k = true := by
    unfold okNum
    rw [Bool.and_eq_true, Bool.and_eq_true, decide_eq_true_iff, decide_eq_true_iff]
    refine ⟨⟨hp, hl⟩, List.all_eq_true.mpr fun c hc => ?_⟩
    unfold isDg
    rw [Bool.and_eq_true, decide_eq_true_iff, decide_eq_true_iff]
    exact hd c hc
  have hz : zeroed (numS (n : Int)) = false := by
    have hv := numS_val n
    cases hcs : numS (n : Int) with
    | nil => rfl
    | cons c rest =>
      cases rest with
      | nil =>
        unfold zeroed
        by_cases q : c = 48
        · subst q; rfl
        · show (decide (c = 48) && _) = false
          rw [decide_eq_false q]; rfl
      | cons e rest =>
        unfold zeroed
        show (decide (c = 48) && _) = false
        by_cases q : c = 48
        · exfalso
          subst q
          rw [hcs] at hv hd
          have h2 : digitsVal (e :: rest) = n := by rw [← hv]; rfl
          have h3 := val_lt (e :: rest) (fun c hc => hd c (List.mem_cons_of_mem _ hc))
          rw [h2] at h3
          have h4 := numS_le (n := n) (k := (e :: rest).length) (by simp) h3
          rw [hcs] at h4
          simp at h4
          omega
        · rw [decide_eq_false q]; rfl
  unfold pNum
  rw [if_pos hok, hz, numS_val]
  rfl
theorem mem_join {c : Nat} {y : Str} : ∀ {xs : List Str}, c ∈ (Txt.join y xs).cps.toList → c ∈ y.cps.toList ∨ ∃ x ∈ xs, c ∈ x.cps.toList := by
  intro xs
  rw [TL.join_eq]
  induction xs with
  | nil => intro h; cases h
  | cons x xs ih =>
    cases xs with
    | nil => exact fun h => .inr ⟨x, by simp, h⟩
    | cons z r =>
      intro h
      have h' : c ∈ TL.tl (x ++ y ++ Str.join y (z :: r)) := h
      rw [TL.tl_append, TL.tl_append, List.mem_append, List.mem_append] at h'
      rcases h' with (h | h) | h
      · exact .inr ⟨x, by simp, h⟩
      · exact .inl h
      · rcases ih h with q | ⟨w, hw, q⟩
        · exact .inl q
        · exact .inr ⟨w, by simp [hw], q⟩
theorem le_join (y : Str) : ∀ {xs : List Str} {x : Str}, x ∈ xs → x.length ≤ (Txt.join y xs).length := by
  intro xs
  induction xs with
  | nil => intro x h; cases h
  | cons a xs ih =>
    intro x h
    rw [TL.join_eq] at ih ⊢
    cases xs with
    | nil => rw [List.mem_singleton] at h; subst h; exact Nat.le_refl _
    | cons z r =>
      show x.length ≤ (a ++ y ++ Str.join y (z :: r)).length
      rw [app_len, app_len]
      rcases List.mem_cons.mp h with h | h
      · subst h; omega
      · have := ih h; omega
theorem split_in {x y w : Str} (h : w ∈ Txt.split x y) : w.length ≤ x.length := by
  have := le_join y h
  rw [TL.join_eq, PySem.StrLaws.join_split] at this
  exact this
theorem split_ne {x y : Str} (hy : Txt.split "" y ≠ []) : Txt.split x y ≠ [] := fun h => by
  have e := PySem.StrLaws.join_split x y
  rw [h] at e
  have e2 : x = "" := e.symm
  rw [e2] at h
  exact hy h
theorem cut_init {α : Type} (xs : List α) : cut xs none (some (-1)) = xs.dropLast := by
  unfold cut
  rw [HT.sIx_none, List.drop_zero, Nat.sub_zero, List.dropLast_eq_take]
  refine congrArg (fun k => xs.take k) ?_
  show (if (-1 : Int) < 0 then ((-1 : Int) + (xs.length : Int)).toNat else min (-1 : Int).toNat xs.length) = _
  rw [if_pos (by decide)]
  omega
theorem ji_tx {X : Cx} {ρ : Rho} {a tg : Expr} {cs : List Nat} (ha : J X a ρ (.str (tx cs))) : JI X tg a ρ (cs.map fun c : Nat => D.str ⟨#[c]⟩) := ji_str ha
end Pf

namespace Pf
open PySem L2 PySem.Spec PyProof.Rows
open Evl (Ex)

/-- the texts that a set's entries bear -/
def txtOf (e : Int × Value) : Str := strOf e.2
def TxE (P : Program) (w : World) (e : Int × Value) : Prop := ∃ z tk, e = ((PySem.strKind P w).hash z, Value.str z tk)
/-- a set of texts at a: its members, each once, and a table that can be walked -/
structure TSet (P : Program) (w : World) (h : Heap) (a : Addr) (xs : List Str) (o : Obj) (es : Array (Int × Value)) (ep : Nat) (t : SetTable) : Prop where
  at' : h.get? a = some o
  ex : o.ExactSet
  da : o.data = .set es ep t
  tx : ∀ e ∈ es.toList, TxE P w e
  pm : (es.toList.map txtOf).Perm xs
  nd : xs.Nodup
  few : xs.length < scanBound
  fits : t.fits es.size = true
  ris : Ris t.place.toList
  led : w.params.followText "set-order" = true ∨ t.led = true
def TS1 (P : Program) (w : World) (h : Heap) (a : Addr) (xs : List Str) : Prop := ∃ o es ep t, TSet P w h a xs o es ep t
section
variable {P : Program} {w : World} {h h' : Heap} {a : Addr} {xs : List Str} {o : Obj} {es : Array (Int × Value)} {ep : Nat} {t : SetTable}
theorem TSet.size (R : TSet P w h a xs o es ep t) : es.size = xs.length := by rw [← Array.length_toList, ← R.pm.length_eq, List.length_map]
theorem TSet.els (R : TSet P w h a xs o es ep t) : ElemsOf (PySem.strKind P w) es.toList := fun e he => by
  obtain ⟨z, tk, rfl⟩ := R.tx e he
  exact ⟨⟨z, strKind_is _ _ _ _, rfl⟩, rfl⟩
theorem TSet.small (R : TSet P w h a xs o es ep t) : es.size < scanBound := by rw [R.size]; exact R.few
theorem TSet.has (R : TSet P w h a xs o es ep t) (k : Str) : k ∈ xs ↔ ∃ e ∈ es.toList, (PySem.strKind P w).is k e.2 = true := by
  rw [← R.pm.mem_iff, List.mem_map]
  constructor
  · rintro ⟨e, he, q⟩
    obtain ⟨z, tk, rfl⟩ := R.tx e he
    have q' : z = k := q
    exact ⟨_, he, by rw [q']; exact strKind_is _ _ _ _⟩
  · rintro ⟨e, he, q⟩
    obtain ⟨z, tk, rfl⟩ := R.tx e he
    exact ⟨_, he, (PySem.strKind P w).inj _ _ _ (strKind_is P w z tk) q⟩
theorem TS1.keep (R : TS1 P w h a xs) (k : ∀ o, h.get? a = some o → h'.get? a = some o) : TS1 P w h' a xs := by
  obtain ⟨o, es, ep, t, r⟩ := R
  exact ⟨o, es, ep, t, k o r.at', r.ex, r.da, r.tx, r.pm, r.nd, r.few, r.fits, r.ris, r.led⟩
end
/-- one more -/
def addD (xs : List Str) (k : Str) : List Str := if k ∈ xs then xs else xs ++ [k]
section
variable {P : Program} {w : World} {A : Around} {E : Value → Shared → Prop} {s : Shared} {a : Addr} {xs : List Str}
/-- what is stored behind an addition, the table grown or not -/
theorem ts_tail {xs' : List Str} {g : Bool → Sem Unit} (hg : ∀ (b : Bool) (s₁ : Shared) (Q' : Unit → Shared → Prop), Q' () s₁ → wpAny (model P w) A (g b) Q' E s₁) {o : Obj} {es es1 : Array (Int × Value)} {ep : Nat} {t t1 : SetTable} (ho : s.heap.get? a = some o) (hex : o.ExactSet) (hd : o.data = .set es ep t)
    (htx : ∀ e ∈ es1.toList, TxE P w e) (hpm : (es1.toList.map txtOf).Perm xs') (hnd : xs'.Nodup) (hfew : xs'.length < scanBound) (hfit : t1.fits es1.size = true) (hris : Ris t1.place.toList) (hled : w.params.followText "set-order" = true ∨ t1.led = true) {d : Bool} {R : Option Bool → Shared → Prop}
    (hR : ∀ h', Heap.SameBut a s.heap h' → TS1 P w h' a xs' → R (some true) { s with heap := h' }) :
    wpAny (model P w) A (do
        storeSet a es1 t1
        if (!d && t1.tooFull) = true then do
            g (relayAll t1 es1 (SetTable.grown es1.size)).2.2
            storeSet a (relayAll t1 es1 (SetTable.grown es1.size)).1 (relayAll t1 es1 (SetTable.grown es1.size)).2.1
            pure (some true)
          else pure (some true)) R E s := by
  have z1 : es1.size = xs'.length := by rw [← Array.length_toList, ← hpm.length_eq, List.length_map]
  have b1 : es1.size < scanBound := by rw [z1]; exact hfew
  refine wpAny_bind (wpAny_storeSet_of ho hd ?_ (fits_of_scanBound b1))
  have at1 := store_at (es' := es1) (t' := t1) ho hd
  have same1 := Heap.SameBut.update s.heap a (Obj.putSet es1 t1)
  split
  · have p2 := relayAll_perm t1 es1 (SetTable.grown es1.size)
    have f2 := relayAll_fits t1 es1 (SetTable.grown es1.size)
    have r2 := relayAll_ris t1 es1 (SetTable.grown es1.size)
    have l2 := relayAll_led t1 es1 (SetTable.grown es1.size)
    rcases hz : relayAll t1 es1 (SetTable.grown es1.size) with ⟨es2, t2, gave⟩
    rw [hz] at p2 f2 r2 l2
    have z2 : es2.size = es1.size := by rw [← Array.length_toList, ← Array.length_toList]; exact p2.length_eq
    refine wpAny_bind (hg _ _ _ (wpAny_bind (wpAny_storeSet_of at1 rfl (wpAny_pure (hR _ (same1.trans (Heap.SameBut.update _ a _)) ⟨_, es2, _, t2, store_at at1 rfl, hex, rfl, fun e he => htx e (p2.mem_iff.mp he), (p2.map txtOf).trans hpm, hnd, hfew, f2, r2, ?_⟩)) (fits_of_scanBound (by show es2.size < scanBound; rw [z2]; exact b1)))))
    rcases hled with q | q
    · exact .inl q
    · exact .inr (l2.trans q)
  · exact wpAny_pure (hR _ same1 ⟨_, es1, _, t1, at1, hex, rfl, htx, hpm, hnd, hfew, hfit, hris, hled⟩)
theorem ts_add {k : Str} {tk : Tok} {Q : Bool → Shared → Prop} (R : TS1 P w s.heap a xs) (room : xs.length + 1 < scanBound) (hQ : ∀ b h', Heap.SameBut a s.heap h' → TS1 P w h' a (addD xs k) → Q b { s with heap := h' }) :
    wpAny (model P w) A (setAddHashed a (.str k tk) ((PySem.strKind P w).hash k)) Q E s := by
  obtain ⟨o, es, ep, t, r⟩ := R
  have hkey : (PySem.strKind P w).is k (.str k tk) = true := strKind_is P w k tk
  have hsc : (Value.str k tk).scannable = true := rfl
  unfold setAddHashed setAddHashedIn
  refine wpAny_holding (wpAny_bind (wpAny_setState_of r.at' r.da r.fits ?_))
  dsimp only
  rw [byScan_of hsc r.small r.els]
  simp only [↓reduceIte]
  unfold setAddByScan
  refine wpAny_bind (wpAny_bind (wpAny_rule (wpAny_bind (wpAny_setScan_of hkey r.at' r.da r.fits r.els ?_))))
  cases hfi : List.findIdx? (fun e => (PySem.strKind P w).is k e.2) es.toList with
  | some j =>
    dsimp only
    obtain ⟨hj, pj, _⟩ := List.findIdx?_eq_some_iff_getElem.mp hfi
    have hin : k ∈ xs := (r.has k).mpr ⟨es.toList[j], List.getElem_mem hj, pj⟩
    have e : addD xs k = xs := by unfold addD; rw [if_pos hin]
    exact wpAny_pure (wpAny_pure (hQ _ s.heap (Heap.SameBut.refl a s.heap) (by rw [e]; exact ⟨o, es, ep, t, r⟩)))
  | none =>
    dsimp only
    have hnin : k ∉ xs := fun q => by
      obtain ⟨e, he, q⟩ := (r.has k).mp q
      have := List.findIdx?_eq_none_iff.mp hfi e he
      rw [q] at this; cases this
    have e : addD xs k = xs ++ [k] := by unfold addD; rw [if_neg hnin]
    rw [e] at hQ
    have gw : ∀ (b : Bool) {s₁ : Shared} {Q' : Unit → Shared → Prop}, Q' () s₁ → wpAny (model P w) A (match b with | true => rule "set.scan.the-table-gave-way" | false => pure ()) Q' E s₁ := fun b s₁ Q' q => by
      cases b
      · exact wpAny_pure q
      · exact wpAny_rule q
    have p1 := layNew_perm t es ((PySem.strKind P w).hash k) (.str k tk)
    have f1 := layNew_fits t es ((PySem.strKind P w).hash k) (.str k tk)
    have r1 := layNew_ris t es ((PySem.strKind P w).hash k) (.str k tk) r.ris
    have l1 := layNew_led t es ((PySem.strKind P w).hash k) (.str k tk)
    rcases hz : layNew t es ((PySem.strKind P w).hash k) (.str k tk) with ⟨es1, t1, wasDummy, gave⟩
    rw [hz] at p1 f1 r1 l1
    dsimp only at p1 f1 r1 l1 ⊢
    rw [Array.toList_push] at p1
    have tx1 : ∀ e ∈ es1.toList, TxE P w e := fun e he => by
      rcases List.mem_append.mp (p1.mem_iff.mp he) with q | q
      · exact r.tx e q
      · rw [List.mem_singleton] at q; exact ⟨k, tk, q⟩
    have pm1 : (es1.toList.map txtOf).Perm (xs ++ [k]) := by
      have q := p1.map txtOf
      rw [List.map_append] at q
      exact q.trans (List.Perm.append_right _ r.pm)
    have nd1 : (xs ++ [k]).Nodup := by
      rw [List.nodup_append]
      exact ⟨r.nd, by simp, fun x hx y hy exy => by rw [List.mem_singleton] at hy; exact hnin (by rw [← hy, ← exy]; exact hx)⟩
    have few1 : (xs ++ [k]).length < scanBound := by rw [List.length_append]; exact room
    have led1 : w.params.followText "set-order" = true ∨ t1.led = true := by
      rcases r.led with q | q
      · exact .inl q
      · exact .inr (l1.trans q)
    refine wpAny_bind (gw _ ?_)
    split
    · refine wpAny_bind ?_
      rw [hashByValue_scannable 8 hsc]
      refine wpAny_pure (ts_tail ?_ r.at' r.ex r.da tx1 pm1 nd1 few1 ?_ ?_ ?_ ?_)
      · intro b s₁ Q' q; cases b <;> first | exact wpAny_pure q | exact wpAny_rule q
      · first | (split <;> first | exact f1 | exact SetTable.fits_plain_off f1) | exact f1
      · first | (split <;> exact r1) | exact r1
      · first | (split <;> exact led1) | exact led1
      · intro h' sb q; dsimp only; exact wpAny_pure (hQ _ h' sb q)
    · refine wpAny_bind (wpAny_pure ?_)
      simp only [↓reduceIte]
      refine ts_tail ?_ r.at' r.ex r.da tx1 pm1 nd1 few1 f1 r1 led1 ?_
      · intro b s₁ Q' q; cases b <;> first | exact wpAny_pure q | exact wpAny_rule q
      · intro h' sb q; dsimp only; exact wpAny_pure (hQ _ h' sb q)
end
def ddL (xs : List Str) : List Str := xs.foldl addD []
theorem ddL_snoc (xs : List Str) (x : Str) : ddL (xs ++ [x]) = addD (ddL xs) x := by unfold ddL; rw [List.foldl_append]; rfl
theorem addD_len (xs : List Str) (x : Str) : (addD xs x).length ≤ xs.length + 1 := by unfold addD; split <;> simp
theorem ddL_len (xs : List Str) : (ddL xs).length ≤ xs.length := by
  have key : ∀ (l acc : List Str), (l.foldl addD acc).length ≤ acc.length + l.length := by
    intro l
    induction l with
    | nil => intro acc; simp
    | cons x l ih =>
      intro acc
      have := ih (addD acc x)
      have := addD_len acc x
      rw [List.foldl_cons, List.length_cons]
      omega
  have := key xs []
  simpa [ddL] using this
theorem ddL_take {xs : List Str} {i : Nat} (h : i < xs.length) : ddL (xs.take (i + 1)) = addD (ddL (xs.take i)) (xs.getD i Str.empty) := by
  rw [List.take_add_one, List.getD_eq_getElem?_getD, List.getElem?_eq_getElem h]
  exact ddL_snoc _ _
section
variable {prog : Program} {w : World} {A : Around} {R : Result → Shared → Prop} {I : Addr} {fp wr : List Addr} {G : Array GenState → Array GenState → Prop} {n : Nat} {Pv : Nat → Value → Prop} {St : Nat → Shared → Prop}
theorem ts_loop (W : WalksS prog w A.in1 I fp wr G n Pv St) (S : Addr) (hS : S ∉ fp) (zs : List Str) (hz : zs.length = n) (hb : n + 1 < scanBound) (hval : ∀ i v, Pv i v → ∃ t, v = .str (zs.getD i Str.empty) t) :
    ∀ (k i : Nat) (s : Shared), n - i = k → i ≤ n → St i s → TS1 prog w s.heap S (ddL (zs.take i)) → (∀ s', Moved (S :: wr) G s s' → TS1 prog w s'.heap S (ddL zs) → R (.ok (.ret .none)) s') →
      codeAny (model prog w) A (.builtin "set.update.loop" ⟨[.ref S, .ref I], []⟩) R s := by
  have notW : S ∉ wr := fun q => hS (W.sub _ q)
  intro k
  induction k with
  | zero =>
    intro i s hk hi st T fin
    have hin : i = n := by omega
    subst hin
    refine codeAny_builtin PyProof.Rows.F.entry_set_update_loop ?_
    rw [Around.under_plainId PyProof.Rows.F.plain_set_update_loop _]
    show wpAny _ A.in1 (pyNext (.ref I) >>= _) _ _ s
    refine wpAny_bind (W.done s _ _ st fun s' hm => ?_)
    show wpAny _ A.in1 (ret Value.none) _ _ s'
    rw [← hz, List.take_length] at T
    exact wpAny_pure (fin s' (hm.mono fun b q => List.mem_cons_of_mem _ q) (T.keep fun o q => hm.heap S _ notW q))
  | succ k ih =>
    intro i s hk hi st T fin
    have hlt : i < n := by omega
    refine codeAny_builtin PyProof.Rows.F.entry_set_update_loop ?_
    rw [Around.under_plainId PyProof.Rows.F.plain_set_update_loop _]
    show wpAny _ A.in1 (pyNext (.ref I) >>= _) _ _ s
    refine wpAny_bind (W.item i s _ _ hlt st fun v s' hP st' hm => ?_)
    obtain ⟨t, rfl⟩ := hval i v hP
    have T' := T.keep fun o q => hm.heap S _ notW q
    show wpAny _ A.in1 (holding [Value.str (zs.getD i Str.empty) t] (setAdd S (.str (zs.getD i Str.empty) t)) >>= _) _ _ s'
    refine wpAny_bind (wpAny_holding ?_)
    unfold setAdd
    refine wpAny_holding (wpAny_bind ((PySem.strKind prog w).pyHash (k := zs.getD i Str.empty) (strKind_is _ _ _ _) ?_))
    have room : (ddL (zs.take i)).length + 1 < scanBound := by
      have := ddL_len (zs.take i)
      rw [List.length_take] at this
      omega
    refine ts_add (s := { s' with toks := s'.toks + 1 }) T' room fun _ h' sb T2 => ?_
    rw [← ddL_take (by omega)] at T2
    refine wpAny_pure ⟨plainId_quiet PyProof.Rows.F.plain_set_update_loop _, ih (i + 1) _ (by omega) hlt (W.frame _ s' _ _ st' (Nat.le_succ _) fun b hb o e => ?_) T2 fun s'' hm'' T3 => ?_⟩
    · rw [sb.2 b (fun q : b = S => hS (by rw [← q]; exact hb))]; exact e
    · refine fin s'' (Moved.trans W.gtrans ((hm.mono fun b q => List.mem_cons_of_mem _ q).then_heap (Nat.le_succ _) fun b o hb e => ?_) hm'') T3
      rw [sb.2 b (fun q : b = S => hb (by rw [q]; exact List.mem_cons_self))]; exact e
end
section
variable {P : Program} {w : World} {A : Around} {E : Value → Shared → Prop} {s : Shared}
/-- set.__new__ with something to take in: the table keeps its order where the world doesn't follow the text -/
theorem new_led (a : Value) {Q : Value → Shared → Prop} (h : Q (.ref s.heap.objs.size) { s with heap := s.heap.push { cls := .type "set", dict := none, data := .set #[] 0 (.fresh 0 0 (!w.params.followText "set-order")) } }) :
    codeAny (model P w) A (.call (.builtin "set.__new__") ⟨[.type "set", a], []⟩) (wants Q E) s := by
  refine codeAny_of_tree (show wpAny _ A.in1 (do checkBuiltinCall "set.__new__" ⟨[.type "set", a], []⟩; again (.builtin "set.__new__" ⟨[.type "set", a], []⟩)) _ _ s from ?_)
  refine wpAny_bind (wpAny_of_eq (PySem.F.newCall_set_1 a) (wpAny_pure ⟨plainId_quiet PySem.F.plain_set_new _, codeAny_builtin PySem.F.entry_set_new ?_⟩))
  rw [Around.under_plainId PySem.F.plain_set_new _]
  unfold Builtin.«set.__new__» Builtin.Frozenset.newClass
  have hsub := sub_set_self
  obtain ⟨hp, g, d, tk, os⟩ := s
  dsimp only
  wp_walk
  refine wpAny_askSetting (wpAny_pure ?_)
  dsimp only
  simp only [newObj]
  exact wpAny_bind (wpAny_alloc (wpAny_pure (wpAny_pure h)))
theorem ts_fresh (h : Heap) : TS1 P w (h.push { cls := .type "set", dict := none, data := .set #[] 0 (.fresh 0 0 (!w.params.followText "set-order")) }) h.objs.size [] :=
  ⟨_, #[], 0, _, Heap.get?_push_size _ rfl, ⟨rfl, rfl, rfl⟩, rfl, (fun e he => by simp at he), .refl _, List.nodup_nil, by decide, rfl, List.Pairwise.nil, by
    show _ ∨ (!w.params.followText "set-order") = true
    cases w.params.followText "set-order"
    · exact .inr rfl
    · exact .inl rfl⟩
end
section
variable {P : Program} {w : World} {A : Around} {E : Value → Shared → Prop} {s : Shared}
set_option maxHeartbeats 3200000 in
/-- set(xs), xs a list of texts -/
theorem call_set_ts {l : Addr} {items : Array Value} {zs : List Str} {Q : Value → Shared → Prop} (hh : A.handled = none) (hl : s.heap.IsList l items) (hi : StrsAre items.toList zs) (hf : zs.length + 1 < scanBound)
    (h : ∀ (h' : Heap) (tk : Nat), TS1 P w h' s.heap.objs.size (ddL zs) → (∀ b o, s.heap.get? b = some o → h'.get? b = some o) → Q (.ref s.heap.objs.size) { s with heap := h', toks := tk }) :
    wpAny (model P w) A (call (.type "set") [.ref l]) Q E s := by
  have hsz : zs.length = items.size := by rw [← StrsAre.len_eq hi, Array.length_toList]
  have hlS : l < s.heap.objs.size := by obtain ⟨o, ho, _⟩ := hl; exact Heap.lt_size ho
  obtain ⟨c, tl, hmro⟩ := PySem.F.called_set.mro
  have hmade := PySem.F.called_set.made
  have hsub := PySem.F.called_set.sub
  refine wpAny_call (codeAny_of_tree (show wpAny _ _ (callAny (.type "set") _) _ _ _ from ?_))
  refine wpAny_pure ⟨Code.quiet_builtin _ (by decide +kernel), codeAny_builtin PySem.F.entry_type_call ?_⟩
  rw [Around.under_plain (weight_type_call_type "set" [.ref l] []) rfl]
  have h1 := PySem.F.called_set.notType
  have h2 := PySem.F.called_set.canCreate
  have hct := PySem.F.typeCall_set_1 (.ref l)
  repeat (any_goals (first | assumption | wp_step))
  refine codeAny_mono (new_led (.ref l) (E := E) (Q := fun obj s₁ => obj = .ref s.heap.objs.size ∧ s₁ = { s with heap := s.heap.push { cls := .type "set", dict := none, data := .set #[] 0 (.fresh 0 0 (!w.params.followText "set-order")) } }) ⟨rfl, rfl⟩) fun r s₁ hr => ?_
  cases r with
  | error e => exact hr
  | ok fl =>
    cases fl with
    | next => exact hr.elim
    | brk => exact hr.elim
    | cont => exact hr.elim
    | ret obj =>
      obtain ⟨rfl, rfl⟩ := hr
      have T0 := ts_fresh (P := P) (w := w) s.heap
      have hS : (s.heap.push { cls := .type "set", dict := none, data := .set #[] 0 (.fresh 0 0 (!w.params.followText "set-order")) }).get? s.heap.objs.size = some { cls := .type "set", dict := none, data := .set #[] 0 (.fresh 0 0 (!w.params.followText "set-order")) } := Heap.get?_push_size _ rfl
      have hl1 : (s.heap.push { cls := .type "set", dict := none, data := .set #[] 0 (.fresh 0 0 (!w.params.followText "set-order")) }).IsList l items := hl.push _
      have kp0 : ∀ b o, s.heap.get? b = some o → (s.heap.push { cls := .type "set", dict := none, data := .set #[] 0 (.fresh 0 0 (!w.params.followText "set-order")) }).get? b = some o := fun b o q => Heap.get?_push_of_some _ q
      have hz1 : (s.heap.push { cls := .type "set", dict := none, data := .set #[] 0 (.fresh 0 0 (!w.params.followText "set-order")) }).objs.size = s.heap.objs.size + 1 := size_push' _ _
      generalize s.heap.push { cls := .type "set", dict := none, data := .set #[] 0 (.fresh 0 0 (!w.params.followText "set-order")) } = hp1 at T0 hS hl1 kp0 hz1
      have hT : Shared.TypeIs { s with heap := hp1 } (.ref s.heap.objs.size) "set" := ⟨_, hS, rfl⟩
      have hli := PySem.F.called_set.init.lookup
      have hbi := PySem.F.called_set.init.bind (.ref s.heap.objs.size)
      repeat (any_goals (first | assumption | wp_step))
      refine codeAny_mono (codeAny_call_builtin (R := wants (fun r s₂ => r = .none ∧ ∃ h' tk, s₂ = { s with heap := h', toks := tk } ∧ TS1 P w h' s.heap.objs.size (ddL zs) ∧ ∀ b o, s.heap.get? b = some o → h'.get? b = some o) E) PySem.F.called_set.init.plain PySem.F.entry_set_init (check_set_init_1 hT ?_)) fun r₂ s₂ hr₂ => ?_
      · obtain ⟨ol, hol, hcl, nl, hdl⟩ := id hl1
        obtain ⟨ocls, odict, odata, oslots⟩ := ol
        simp only at hcl hdl
        subst hcl; subst hdl
        have hsls := PySem.F.sub_list_set
        have hslf := PySem.F.sub_list_frozenset
        have hne : (Value.type "list" == Value.type "dict") = false := by decide
        unfold Builtin.«set.__init__» noKeywords Builtin.Frozenset.updateFrom
        generalize hPI : pyIter = PI
        wp_walk
        subst hPI
        refine wpAny_pyIter_list hl1 (wpAny_bind (wpAny_runValue ?_))
        have hneI : l ≠ hp1.objs.size := by rw [hz1]; exact Nat.ne_of_lt (Nat.lt_succ_of_lt hlS)
        have hSf : s.heap.objs.size ∉ [hp1.objs.size, l] := by
          rw [hz1]
          simp only [List.mem_cons, List.not_mem_nil, or_false, not_or]
          exact ⟨Nat.ne_of_lt (Nat.lt_succ_self _), Nat.ne_of_gt hlS⟩
        have hval : ∀ (i : Nat) (v : Value), items[i]? = some v → ∃ t, v = .str (zs.getD i Str.empty) t := fun i v hv => SS.strs_at hi i v (by rw [Array.getElem?_toList]; exact hv)
        have hh3 : A.in1.in1.in1.handled = none := by simp [hh]
        refine ts_loop ((Walks.list hh3 _ l hneI items).toS) s.heap.objs.size hSf zs hsz (by rw [← hsz]; exact hf) hval (items.size - 0) 0 _ (by omega) (Nat.zero_le _) ⟨⟨_, Heap.get?_push_size _ rfl, rfl, rfl⟩, (hl1.push _)⟩ (T0.keep fun o q => Heap.get?_push_of_some _ q) ?_
        intro s' hm T
        obtain ⟨h', g', d', tk', os'⟩ := s'
        have eg : g' = s.gens := hm.gens
        have ed : d' = s.drawn := hm.drawn
        have eo : os' = s.os := hm.os
        subst eg; subst ed; subst eo
        show wpAny _ _ _ _ _ _
        refine wpAny_pure ?_
        show wpAny _ _ (ret Value.none) _ _ _
        refine wpAny_pure ⟨rfl, h', tk', rfl, T, fun b o q => ?_⟩
        have hb := Heap.lt_size q
        refine hm.heap b o (fun z => ?_) (Heap.get?_push_of_some _ (kp0 b o q))
        simp only [List.mem_cons, List.not_mem_nil, or_false] at z
        rcases z with z | z
        · exact absurd z (Nat.ne_of_lt hb)
        · exact absurd z (by rw [hz1]; exact Nat.ne_of_lt (Nat.lt_succ_of_lt hb))
      · cases r₂ with
        | error e => exact hr₂
        | ok fl₂ =>
          cases fl₂ with
          | ret r =>
            obtain ⟨rfl, h', tk, rfl, T, kp⟩ := hr₂
            repeat (any_goals (first | assumption | wp_step))
            exact h _ _ T kp
          | next => exact hr₂.elim
          | brk => exact hr₂.elim
          | cont => exact hr₂.elim
end
end Pf

namespace Pf
open PySem L2 PySem.Spec PyProof.Rows
open Evl (Ex)
/-- the order of texts -/
def ltT (a b : Str) : Prop := a.cps.toList < b.cps.toList
theorem ltT_of {a b : Str} (h : ltCps b.cps.toList a.cps.toList = false) (hne : a ≠ b) : ltT a b := by
  rw [ltCps_eq] at h
  have h' : ¬ b.cps.toList < a.cps.toList := of_decide_eq_false h
  unfold ltT
  rcases Std.lt_trichotomy a.cps.toList b.cps.toList with q | q | q
  · exact q
  · exact absurd (TL.ext_tl q) hne
  · exact absurd q h'
theorem asc_of : ∀ {p : Str} {l : List Str}, risingS p l = true → (p :: l).Nodup → (p :: l).Pairwise ltT
  | p, [], _, _ => List.pairwise_singleton _ _
  | p, x :: r, h, hn => by
    have h' : (!ltCps x.cps.toList p.cps.toList && risingS x r) = true := h
    rw [Bool.and_eq_true, Bool.not_eq_true'] at h'
    have ih := asc_of h'.2 (List.nodup_cons.mp hn).2
    have hpx := ltT_of h'.1 (fun e => (List.nodup_cons.mp hn).1 (by rw [e]; simp))
    refine List.pairwise_cons.mpr ⟨fun y hy => ?_, ih⟩
    rcases List.mem_cons.mp hy with rfl | hy
    · exact hpx
    · exact List.lt_trans hpx ((List.pairwise_cons.mp ih).1 y hy)
theorem asc_sorted {l : List Str} (h : sortedS l = true) (hn : l.Nodup) : l.Pairwise ltT := by
  cases l with
  | nil => exact .nil
  | cons p l => exact asc_of h hn
theorem ddL_all {xs : List Str} : (ddL xs).length = xs.length ↔ xs.Nodup := by
  have key : ∀ (l acc : List Str), acc.Nodup → (l.foldl addD acc).length ≤ acc.length + l.length ∧ ((l.foldl addD acc).length = acc.length + l.length ↔ (acc ++ l).Nodup) := by
    intro l
    induction l with
    | nil => intro acc h; simpa using h
    | cons x l ih =>
      intro acc h
      rw [List.foldl_cons]
      by_cases hx : x ∈ acc
      · rw [show addD acc x = acc from if_pos hx]
        have q := ih acc h
        refine ⟨by rw [List.length_cons]; omega, ⟨fun e => ?_, fun hn => ?_⟩⟩
        · rw [List.length_cons] at e; omega
        · rw [List.nodup_append] at hn
          exact absurd rfl (hn.2.2 x hx x (by simp))
      · rw [show addD acc x = acc ++ [x] from if_neg hx]
        have hn : (acc ++ [x]).Nodup := by
          rw [List.nodup_append]
          exact ⟨h, by simp, fun a ha b hb e => by rw [List.mem_singleton] at hb; exact hx (by rw [← hb, ← e]; exact ha)⟩
        have q := ih (acc ++ [x]) hn
        rw [List.length_append, List.append_assoc] at q
        simp only [List.length_cons, List.length_nil, List.singleton_append] at q ⊢
        refine ⟨by omega, ?_⟩
        rw [← q.2]
        constructor <;> intro e <;> omega
  have := (key xs [] List.nodup_nil).2
  simpa [ddL] using this
section
variable {P : Program} {w : World} {A : Around} {E : Value → Shared → Prop} {s : Shared} {a : Addr} {xs : List Str}
end
section
variable {X : Cx} {a : Expr} {ta : TE} {p p2 q pos : Pos} {ρ : Rho} {zs : List Str}
def tSetL (K : PySem.W.Frag) (ta : TE) (k : List Str → Hp → VK → Prop) : TE := fun σ H Q => ta σ H fun x H1 => ∃ l, ∃ xs : List Str, x = .ref l ∧ SqL K H1 l (xs.map V.str) ∧ xs.length + 1 < scanBound ∧ k xs H1 Q
theorem pe_lenTS (hc : X.calm = true) (hg : Gl X "len") (hm : X.mg "len" = none) (hg2 : Gl X "set") (hm2 : X.mg "set" = none) (ha : PE X a ta) (na : starEach [a] X.env = (false, eval a X.env) :: starEach [] X.env := by rfl) :
    PE X (.Call (.Name "len" p) [.Call (.Name "set" p2) [a] [] q] [] pos) (tSetL X.K ta fun xs H1 Q => Q (.int ((ddL xs).length : Nat)) H1) := by
  refine ⟨fun pins s σ H Q I h => ?_⟩
  refine Call_ (ld_blt I hg hm boot_len ?_)
  refine PyProof.Rows.callWith_builtin1 (PyProof.Rows.args_cons ?_ rfl) rfl rfl
  refine Call_ (ld_blt I hg2 hm2 boot_set ?_)
  refine PyProof.Rows.callWith_type1 (PyProof.Rows.args_cons (thn (ha.run pins s σ H _ I h) fun v s1 ⟨x, H1, I1, r1, q1⟩ => PyProof.Rows.args_nil ?_) na) na rfl
  obtain ⟨l, xs, rfl, hq, hb, q1⟩ := q1
  cases r1
  obtain ⟨its, r, pl, hz⟩ := I1.list hq
  refine call_set_ts (P := X.prog) (w := X.w) (I1.ok.hd hc) pl.isList (by simpa using strsAre_of r) hb fun h' tk T hk => ?_
  refine PyProof.Rows.args_nil ?_
  obtain ⟨o, es, ep, t, R⟩ := T
  have I2 : Inv X pins σ H1 { s1 with heap := h', toks := tk } := I1.kept fun b o e => hk b o e
  have hl := ddL_len xs
  have hs := R.size
  exact call_len_set R.at' R.ex R.da R.fits (by have h4 : scanBound = 4096 := rfl; omega) ⟨.int ((ddL xs).length : Nat), H1, I2.tok _, ⟨_, by rw [hs]⟩, q1⟩
end
section
variable {X : Cx} {a : Expr} {p p2 q pos : Pos} {ρ : Rho} {xs : List Str}
/-- len(set(xs)) -/
theorem jb_lenSet (T : Bt X.mg) (ha : J X a ρ (.lst (xs.map D.str))) (hb : xs.length + 1 < scanBound) (hc : X.calm = true := by rfl) (hg : Gl X "len" := by rfl) (hg2 : Gl X "set" := by rfl) (na : starEach [a] X.env = (false, eval a X.env) :: starEach [] X.env := by rfl) :
    J X (.Call (.Name "len" p) [.Call (.Name "set" p2) [a] [] q] [] pos) ρ (.int ((ddL xs).length : Nat)) := ⟨fun W σ H ex hV Q g => .of (pe_lenTS hc hg T.len hg2 T.set pe_w na) (ha W σ H ex hV _ fun v W1 H1 s1 r1 => by
  cases r1 with
  | lst h1 k => cases k.strs; exact ⟨_, xs, rfl, SqL.of (s1.wh _ _ h1), hb, g _ W1 H1 s1 (.int _)⟩)⟩
end
end Pf

namespace Pf
open PySem L2 PySem.Spec PyProof.Rows
open Evl (Ex)
section
variable {X : Cx} {ρ : Rho} {a b c d e : Expr} {x y z u : D} {pos p : Pos} {op op' op'' : CmpOp} {t t' t'' : Bool}
theorem cd_ltS {x y : Str} : CmD X .Lt (.str x) (.str y) (decide (x.cps.toList < y.cps.toList)) := ⟨_, op_lt_str, fun W H v u ex r1 r2 Q q => by
  cases r1; cases r2; exact ⟨x, y, rfl, rfl, q.now ex (.bl _)⟩⟩
end
section
variable {X : Cx} {ρ : Rho} {a b e : Expr} {pos p : Pos} {n z : Str} {T : List (Str × Option (List Int))} {ns : List Int}
end
section
variable {X : Cx} {K : PySem.W.Frag} {ρ : Rho} {a b : Expr} {ds es' : List D} {pos p tpos : Pos} {elts : List Expr} {kk : Nat}
end
section
variable {X : Cx} {ρ : Rho} {e e2 : Expr} {pos p : Pos} {fds : List (Str × D)} {a C : Addr} {oe : Obj} {pn : List (Addr × Obj)} {b : Bool}
end
section
variable {X : Cx} {ρ : Rho} {pos : Pos}
inductive JPs (X : Cx) (ρ : Rho) : List (Option Expr) → List Expr → List (Str × D) → Prop
  | nil : JPs X ρ [] [] []
  | cons {k v : Expr} {ks : List (Option Expr)} {vs : List Expr} {z : Str} {d : D} {r : List (Str × D)} : J X k ρ (.str z) → J X v ρ d → JPs X ρ ks vs r → JPs X ρ (some k :: ks) (v :: vs) ((z, d) :: r)
def trsOf (X : Cx) : List (Option Expr) → List Expr → List (TE × TE)
  | some k :: ks, v :: vs => (wE X k, wE X v) :: trsOf X ks vs
  | _, _ => []
theorem JPs.len : ∀ {ks : List (Option Expr)} {vs : List Expr} {r : List (Str × D)}, JPs X ρ ks vs r → ks.length = vs.length ∧ ks.length = r.length ∧ ks.all (·.isSome) = true
  | _, _, _, .nil => ⟨rfl, rfl, rfl⟩
  | _, _, _, .cons _ _ h => by
    obtain ⟨a, b, c⟩ := h.len
    exact ⟨by simp [a], by simp [b], by simp [c]⟩
theorem JPs.run : ∀ {ks : List (Option Expr)} {vs : List Expr} {r : List (Str × D)}, JPs X ρ ks vs r → ∀ W σ H, Ex W H → Vis X.K ρ W σ → ∀ Q : List (V × V) → Hp → Prop, (∀ (us : List V) W' H', Step W H W' H' → RepAll X.K W' (r.map (·.2)) us → Q ((r.map fun q => V.str q.1).zip us) H') → tPairs (trsOf X ks vs) σ H Q
  | _, _, _, .nil => fun W σ H ex hV Q g => g [] W H (.refl ex) .nil
  | _, _, _, .cons hk hv h => fun W σ H ex hV Q g => hk W σ H ex hV _ fun x W1 H1 s1 r1 => hv W1 σ H1 s1.wh (hV.mono s1.ww) _ fun y W2 H2 s2 r2 => h.run W2 σ H2 s2.wh (hV.mono (s1.trans s2).ww) _ fun us W3 H3 s3 r3 => by
    cases r1
    exact g (y :: us) W3 H3 ((s1.trans s2).trans s3) (.cons (r2.mono s3.ww) r3)
end
end Pf

namespace Pf
open PySem L2 PySem.Spec PyProof.Rows
open Evl (Ex)
section
variable {X : Cx} {ρ : Rho} {e : Expr} {pos p : Pos} {P1 : D → Prop}
end
section
variable {X : Cx} {ρ : Rho} {e : Expr} {es : List Expr} {pos : Pos} {P1 : D → Prop} {P : List D → Prop} {d : D} {ds : List D}
end
end Pf

namespace Pf
open PySem L2 PySem.Spec PyProof.Rows
open Evl (Ex)
section
variable {K : PySem.W.Frag} {E : Ent} {ρ : RhoS} {σ : L2.St} {H Hf : Hp} {A : Nat → List Addr} {i : Nat} {d : D}
theorem StAt.freeze (s : StAt K E ρ σ H Hf A) (hi : ρ[i]? = some (some (.ow d))) (hp : E.pa i = none) : StAt K E (ρ.set i (some (.fz d))) σ H (fun b => if b ∈ A i then H b else Hf b) (fun j => if j = i then [] else A j) := by
  have no : ∀ b, b ∈ A i → Hf b = none := fun b hb => (s.ap i b hb).1
  have ex : Ex Hf (fun b => if b ∈ A i then H b else Hf b) := fun b o q => by
    show (if b ∈ A i then H b else Hf b) = some o
    rw [if_neg (fun hb => by rw [no b hb] at q; cases q)]; exact q
  refine ⟨by rw [List.length_set]; exact s.len, s.w0.trans ex, fun b o q => ?_, fun b q1 q2 => ?_, s.hh, s.kp, fun j sv q => ?_, fun j a ha => ?_, fun j k a h1 h2 => ?_, s.pn⟩
  · by_cases hb : b ∈ A i
    · have q' : (if b ∈ A i then H b else Hf b) = some o := q
      rw [if_pos hb] at q'; exact q'
    · have q' : (if b ∈ A i then H b else Hf b) = some o := q
      rw [if_neg hb] at q'; exact s.fh _ _ q'
  · by_cases hb : b ∈ A i
    · rcases (s.ap i b hb).2.2 with h | ⟨_, h⟩
      · exact h
      · exact absurd hp h
    · have q' : (if b ∈ A i then H b else Hf b) ≠ none := q1
      rw [if_neg hb] at q'
      exact s.fr b q' q2
  · by_cases hj : i = j
    · subst hj
      obtain ⟨v, e1, e2⟩ := s.sl i _ hi
      have hlt : i < ρ.length := (List.getElem?_eq_some_iff.mp hi).1
      rw [List.getElem?_set_self hlt] at q
      cases q
      exact ⟨v, e1, e2.1.rep ex fun a ha => if_pos ha⟩
    · rw [List.getElem?_set_ne hj] at q
      obtain ⟨v, e1, e2⟩ := s.sl j sv q
      refine ⟨v, e1, ?_⟩
      cases sv with
      | fz d => exact Rep.mono ex e2
      | ow d =>
        have hji : ¬ j = i := fun e => hj e.symm
        show Own K _ H d v (if j = i then [] else A j) ∧ (if j = i then [] else A j) ≠ []
        rw [if_neg hji]
        exact ⟨e2.1.move ex fun _ _ => rfl, e2.2⟩
  · by_cases hj : j = i
    · have ha' : a ∈ (if j = i then [] else A j) := ha
      rw [if_pos hj] at ha'; cases ha'
    · have ha' : a ∈ (if j = i then [] else A j) := ha
      rw [if_neg hj] at ha'
      obtain ⟨h1, h2⟩ := s.ap j a ha'
      refine ⟨?_, h2⟩
      show (if a ∈ A i then H a else Hf a) = none
      rw [if_neg (fun hb => hj (s.dj j i a ha' hb))]; exact h1
  · have h1' : a ∈ (if j = i then [] else A j) := h1
    have h2' : a ∈ (if k = i then [] else A k) := h2
    by_cases hj : j = i
    · rw [if_pos hj] at h1'; cases h1'
    · by_cases hk : k = i
      · rw [if_pos hk] at h2'; cases h2'
      · rw [if_neg hj] at h1'; rw [if_neg hk] at h2'
        exact s.dj j k a h1' h2'
end
section
variable {X : Cx} {pin : List Nat} {st : List Stmt} {ρ : RhoS} {Φ : Out → Prop} {d : D}
/-- what is own may be taken as frozen -/
theorem jss_freeze (i : Nat) (hi : ρ[i]? = some (some (.ow d))) (h : JSs X pin st (ρ.set i (some (.fz d))) Φ) (hp : i ∉ pin := by decide) : JSs X pin st ρ Φ := ⟨fun E σ H D hpn ⟨Hf, A, s⟩ k =>
  h.run E σ H D hpn ⟨_, _, s.freeze hi (hpn.none hp)⟩ k⟩
end
section
variable {X : Cx} {ρ : Rho} {a b : Expr} {ds : List D} {pos : Pos} {P2 : D → Prop}
theorem jp_addL (ha : J X a ρ (.lst ds)) (hb : JP X b ρ P2) (hP : ∀ d, P2 d → ∃ es, d = .lst es ∧ ds.length + es.length ≤ sizeLine) : JP X (.BinOp a .Add b pos) ρ fun d => ∃ es, P2 (.lst es) ∧ d = .lst (ds ++ es) := ⟨fun W σ H ex hV Q g => by
  refine .of (pe_op op_cat pe_w pe_w) (ha W σ H ex hV _ fun v W1 H1 s1 r1 => hb.run W1 σ H1 s1.wh (hV.mono s1.ww) _ fun d hd u W2 H2 s2 r2 => ?_)
  obtain ⟨es, rfl, hl⟩ := hP d hd
  cases r1 with
  | lst h1 k1 =>
    cases r2 with
    | lst h2 k2 =>
      have s3 := s1.trans s2
      refine ⟨_, _, _, _, rfl, rfl, s2.wh _ _ (s2.ww _ _ h1), s2.wh _ _ h2, by rw [← k1.length, ← k2.length]; exact hl, fun q hq => ?_⟩
      exact g _ ⟨es, hd, rfl⟩ _ _ _ (s3.trans (.new s3.wh hq)) (.lst upd_same (((k1.mono s2.ww).append k2).mono (Evl.Ex.new (Evl.fresh_back s3.wh hq))))⟩
end
end Pf

namespace Pf
open PySem L2 PySem.Spec PyProof.Rows
open Evl (Ex)
open SrtO (Swo Srtd Stb SortableO Cmp)
/-- the text at the beginning of a tuple -/
def nmAt (h : Heap) (v : Value) : Str := match v with
  | .ref a => match h.get? a with
    | some o => match o.data with
      | .seq its _ => match its.toList with
        | Value.str z _ :: _ => z
        | _ => Str.empty
      | _ => Str.empty
    | none => Str.empty
  | _ => Str.empty
def HasTxt (h : Heap) (v : Value) : Prop := ∃ a o z t r n, v = .ref a ∧ h.get? a = some o ∧ o.cls = .type "tuple" ∧ o.data = .seq (Value.str z t :: r).toArray n
theorem HasTxt.nm {h : Heap} {v : Value} (x : HasTxt h v) : ∃ a o t r n, v = .ref a ∧ h.get? a = some o ∧ o.cls = .type "tuple" ∧ o.data = .seq (Value.str (nmAt h v) t :: r).toArray n := by
  obtain ⟨a, o, z, t, r, n, rfl, h1, h2, h3⟩ := x
  refine ⟨a, o, t, r, n, rfl, h1, h2, ?_⟩
  have : nmAt h (.ref a) = z := by
    unfold nmAt
    simp only [h1, h3]
  rw [this]; exact h3
section
variable {prog : Program} {w : World} {A : Around} {s : Shared}
end
section
variable {X : Cx} {β : Type} {nm : β → Str}
end
section
variable {X : Cx} {a : Expr} {p pos : Pos} {ρ : Rho}
end
end Pf

namespace Pf
open PySem L2 PySem.Spec PyProof.Rows
open Evl (Ex)
structure JNP (X : Cx) (e : Expr) (ρ : Rho) (P : List D → Prop) : Prop where
  run : ∀ W σ H, Ex W H → Vis X.K ρ W σ → ∀ Q : VK, (∀ ds, P ds → ∀ (a : Addr) (W' H' : Hp) (vs : List V), Step W H W' H' → H a = none → W' a = none → H' a = some (.lst vs) → RepAll X.K W' ds vs → Q (.ref a) H') → wE X e σ H Q
section
variable {X : Cx} {ρr : Rho} {e a o : Expr} {es : List Expr} {ds : List D} {d : D} {P : List D → Prop} {pos p apos : Pos}
theorem jnp_of (h : JN X e ρr ds) : JNP X e ρr fun l => l = ds := ⟨fun W σ H ex hV Q g => h.run W σ H ex hV Q (g ds rfl)⟩
theorem jn_of (h : JNP X e ρr P) (k : ∀ l, P l → l = ds) : JN X e ρr ds := ⟨fun W σ H ex hV Q g => h.run W σ H ex hV Q fun l hl => by
  have := k l hl
  subst this
  exact g⟩
theorem JNP.imp {P2 : List D → Prop} (h : JNP X e ρr P) (k : ∀ l, P l → P2 l) : JNP X e ρr P2 := ⟨fun W σ H ex hV Q g => h.run W σ H ex hV Q fun l hl => g l (k l hl)⟩
theorem jp_N (h : JNP X e ρr P) : JP X e ρr fun d => ∃ l, P l ∧ d = .lst l := ⟨fun W σ H ex hV Q g => h.run W σ H ex hV Q fun l hl a W' H' vs st h1 h2 h3 r =>
  g _ ⟨l, hl, rfl⟩ (.ref a) (upd W' a (.lst vs)) H' (st.show' h1 h2 h3) (.lst upd_same (r.mono fun b u hb => by rw [upd_ne (ne_of_none hb h2)]; exact hb))⟩
theorem j_N (h : JN X e ρr ds) : J X e ρr (.lst ds) := ⟨fun W σ H ex hV Q g => h.run W σ H ex hV Q fun a W' H' vs st h1 h2 h3 r =>
  g (.ref a) (upd W' a (.lst vs)) H' (st.show' h1 h2 h3) (.lst upd_same (r.mono fun b u hb => by rw [upd_ne (ne_of_none hb h2)]; exact hb))⟩
/-- an object that has just been made, as a value -/
theorem jp_O {Pd : D → Prop} (h : JO1 X e ρr Pd) : JP X e ρr Pd := ⟨fun W σ H ex hV Q g => h.run W σ H ex hV Q fun d a W' H' A' hd st ow ne hA => by
  have ex2 : Ex W' (fun b => if b ∈ A' then H' b else W' b) := fun b u hb => by
    show (if b ∈ A' then H' b else W' b) = some u
    rw [if_neg (fun z => by rw [(hA b z).1] at hb; cases hb)]; exact hb
  refine g d hd (.ref a) (fun b => if b ∈ A' then H' b else W' b) H' ⟨st.ww.trans ex2, fun b u hb => ?_, st.hh, fun b h1 h2 => ?_⟩ (ow.rep ex2 fun b hb => if_pos hb)
  · by_cases z : b ∈ A'
    · have hb' : (if b ∈ A' then H' b else W' b) = some u := hb
      rw [if_pos z] at hb'; exact hb'
    · have hb' : (if b ∈ A' then H' b else W' b) = some u := hb
      rw [if_neg z] at hb'; exact st.wh b u hb'
  · by_cases z : b ∈ A'
    · exact (hA b z).2.2
    · have h1' : (if b ∈ A' then H' b else W' b) ≠ none := h1
      rw [if_neg z] at h1'; exact st.fr b h1' h2⟩
end
section
variable {X : Cx} {pin : List Nat} {ρ : RhoS} {Φ : Out → Prop} {e : Expr} {ds : List D} {P : List D → Prop} {pos p' p1 : Pos} {i : Nat} {x f : Str} {C : Addr} {fds : List (Str × D)}
theorem js_setNP (h : JNP X e (fzR ρ) P) (hk : ∀ l, P l → Φ (.nx (ρ.set i (some (.ow (.lst l)))))) (hN : X.N.Nodup) (hM : ∀ l, P l → NoM l := by (intro l hl; first | (cases hl; (repeat (first | exact NoM.nil | exact NoM.map fun _ => rfl | exact NoM.fm fun _ => rfl | exact NoM.dm fun _ => rfl | exact NoM.dn fun _ => rfl | refine NoM.cons rfl ?_ | refine NoM.app ?_ ?_)); done) | (obtain ⟨_, rfl⟩ := hl; (repeat (first | exact NoM.nil | exact NoM.map fun _ => rfl | exact NoM.fm fun _ => rfl | exact NoM.dm fun _ => rfl | exact NoM.dn fun _ => rfl | refine NoM.cons rfl ?_ | refine NoM.app ?_ ?_)); done) | (obtain ⟨_, rfl, _⟩ := hl; (repeat (first | exact NoM.nil | exact NoM.map fun _ => rfl | exact NoM.fm fun _ => rfl | exact NoM.dm fun _ => rfl | exact NoM.dn fun _ => rfl | refine NoM.cons rfl ?_ | refine NoM.app ?_ ?_)); done))) (hi : X.N[i]? = some x := by rfl) (hx : Loc X.env.scope x := by first | exact Or.inl rfl | exact Or.inr rfl) (hp : i ∉ pin := by decide) (hs : swapsWith e (some (.Name x p')) pos.line X.env = pure false := by rfl)
    (hf : X.fn x = true ∨ X.env.scope.names.lookup x = some .local := by first | exact .inl rfl | exact .inr rfl) : JS X pin (.Assign [.Name x p'] e pos) ρ Φ := ⟨fun E σ H D hpn ⟨Hf, A, s⟩ k =>
  .of (ps_set hN hi hx pe_w hs hf) (h.run Hf σ H s.fh s.vis _ fun l hl a W' H' vs st h1 h2 h3 r => k _ (hk l hl) _ H' (s.newL st h1 h2 h3 r (hpn.none hp) (hM l hl)))⟩
end
def spN (K : PySem.W.Frag) (n : Nat) (G : List D → (List D → Prop) → Prop) : Sp := fun vs H Q _ => vs.length = n ∧ ∃ W ds P, Ex W H ∧ RepAll K W ds vs ∧ G ds P ∧ ∀ l, P l → ∀ (a : Addr) (W' H' : Hp) (us : List V), Step W H W' H' → H a = none → W' a = none → H' a = some (.lst us) → RepAll K W' l us → Q (.ref a) H'
section
variable {P : Program} {w : World} {K : PySem.W.Frag} {mg : Str → Option Value} {base : Heap} {x qual : Str} {st : Stmt} {f : Addr} {fd : FuncData} {N ps : List Str} {k : Nat} {G : List D → (List D → Prop) → Prop} {e : Expr} {pos : Pos}
end
section
variable {X : Cx} {ρ : Rho} {o e : Expr} {es : List Expr} {ds : List D} {C : Addr} {fds : List (Str × D)} {pos apos : Pos} {m f : Str} {k j n : Nat} {G : List D → (List D → Prop) → Prop} {P : List D → Prop}
end
section
variable {X : Cx} {a : Expr} {p pos : Pos} {ρ : Rho}
/-- sorted(xs), xs texts -/
theorem jnp_sortedS {xs : List Str} (T : Bt X.mg) (ha : J X a ρ (.lst (xs.map D.str))) (h64 : xs.length < 64) (hg : Gl X "sorted" := by rfl) (he : starEach [a] X.env = (false, eval a X.env) :: starEach [] X.env := by rfl) (hpl : (backTo pos (starEach [] X.env)).any (·.1) = false := by rfl) :
    JNP X (.Call (.Name "sorted" p) [a] [] pos) ρ fun l => ∃ ys : List Str, l = ys.map D.str ∧ ys.Perm xs ∧ (xs.Nodup → ys.Pairwise ltT) := ⟨fun W σ H ex hV Q g => .of (pe_callB cr_sortedS hg T.sorted (by decide +kernel) (pa_cons pe_w pa_nil he) (by decide) (by decide) he hpl) (ha W σ H ex hV _ fun v W1 H1 s1 r1 => by
  cases r1 with
  | lst h1 k =>
    cases k.strs
    exact ⟨_, xs, rfl, SqL.of (s1.wh _ _ h1), h64, fun ys q hp hs hn => g _ ⟨ys, rfl, hp, fun hx => asc_sorted hs (hp.nodup_iff.mpr hx)⟩ q W1 _ _ (s1.trans (.newH s1.wh hn)) (Evl.fresh_back s1.hh hn) (Evl.fresh_back s1.wh hn) upd_same (.toStrs ys)⟩)⟩
/-- two ascending rows of the same texts -/
theorem asc_eq {xs ys : List Str} (h : xs.Perm ys) (h1 : xs.Pairwise ltT) (h2 : ys.Pairwise ltT) : xs = ys :=
  h.eq_of_pairwise (le := ltT) (fun a b _ _ p q => absurd (List.lt_trans (α := Nat) p q) (List.lt_irrefl _)) h1 h2
end
section
variable {X : Cx} {d : D} {ds : List D} {t u : Bool}
theorem any_py (n : Nat) {d : D} {p : PyData} (hd : fitD n d = true) (hp : toPy d = some p) : ∀ (ds : List D) (ps : List PyData), fitAllD n ds = true → toPys ds = some ps → (ps.any fun z => PyData.eqv z p) = ds.any fun z => eqvD z d
  | [], ps, _, h => by cases h; rfl
  | e :: ds, ps, hf, h => by
    have hf' : fitD n e = true ∧ fitAllD n ds = true := by simpa [fitAllD] using hf
    simp only [toPys] at h
    split at h
    · rename_i y ys e1 e2
      cases h
      rw [List.any_cons, List.any_cons, any_py n hd hp ds ys hf'.2 e2, eqv_py n e d y p hf'.1 hd e1 hp]
    · cases h
theorem fit_lst {n : Nat} (h : fitAllD n ds = true) (hn : n ≤ 58) : ∃ ps, toPys ds = some ps ∧ SeqAt.shaped (.list ps) = true := by
  obtain ⟨ps, h1, h2, h3⟩ := fitAll_py n ds h
  exact ⟨ps, h1, shaped_of (n := n + 1) (by simp only [PyData.canLay0]; exact h2) (by simp only [PyData.depth]; omega) (by omega)⟩
theorem Rep.dpL {K : PySem.W.Frag} {H : Hp} {v : V} {ps : List PyData} (r : Rep K H (.lst ds) v) (h : toPys ds = some ps) : Dp K H v (.list ps) := r.dp _ (by simp only [toPy, h]; rfl)
theorem cd_inDeep (n : Nat) (hu : X.A.units + 65 < cLine) (h1 : fitD n d = true) (h2 : fitAllD n ds = true) (hn : n ≤ 58 := by decide) : CmD X .In d (.lst ds) (ds.any fun z => eqvD z d) := ⟨_, op_inD hu, fun W H v w ex r1 r2 Q q => by
  obtain ⟨p, e1, e2, e3⟩ := fit_py n d h1
  obtain ⟨ps, g1, g2⟩ := fit_lst h2 hn
  refine ⟨p, ps, (r1.mono ex).dp _ e1, (r2.mono ex).dpL g1, shaped_of e2 e3 (by omega), g2, ?_⟩
  rw [any_py n h1 e1 ds ps h2 g1]
  exact q.now ex (.bl _)⟩
theorem units65 {k : Nat} {A : Around} (r : Room k A) : A.units + 65 < cLine := by have := r.un; omega
end
end Pf

namespace Pf
open PySem L2 PySem.Spec PyProof.Rows
open Evl (Ex)
inductive All2 {α β : Type} (R : α → β → Prop) : List α → List β → Prop
  | nil : All2 R [] []
  | cons {a : α} {b : β} {as : List α} {bs : List β} : R a b → All2 R as bs → All2 R (a :: as) (b :: bs)
section
variable {α β γ : Type} {R : α → β → Prop}
theorem All2.len : ∀ {as : List α} {bs : List β}, All2 R as bs → as.length = bs.length
  | _, _, .nil => rfl
  | _, _, .cons _ h => congrArg (· + 1) h.len
theorem All2.append {as : List α} {bs : List β} {as' : List α} {bs' : List β} (h : All2 R as bs) (h' : All2 R as' bs') : All2 R (as ++ as') (bs ++ bs') := by
  induction h with
  | nil => exact h'
  | cons a _ ih => exact .cons a ih
theorem All2.imp {S : α → β → Prop} {as : List α} {bs : List β} (h : All2 R as bs) (k : ∀ a ∈ as, ∀ b, R a b → S a b) : All2 S as bs := by
  induction h with
  | nil => exact .nil
  | cons a _ ih => exact .cons (k _ List.mem_cons_self _ a) (ih fun x hx => k x (List.mem_cons_of_mem _ hx))
theorem All2.right {P : β → Prop} {as : List α} {bs : List β} (h : All2 R as bs) (k : ∀ a ∈ as, ∀ b, R a b → P b) : ∀ b ∈ bs, P b := by
  induction h with
  | nil => intro b hb; cases hb
  | cons a _ ih =>
    intro b hb
    rcases List.mem_cons.mp hb with rfl | hb
    · exact k _ List.mem_cons_self _ a
    · exact ih (fun x hx => k x (List.mem_cons_of_mem _ hx)) b hb
end
section
variable {X : Cx} {elt tg iter : Expr} {scope : Scope} {own : List (Str × Nat)} {pos : Pos} {ρ : Rho}
end
end Pf

namespace Pf
open PySem L2 PySem.Spec PyProof.Rows
open Evl (Ex)
section
variable {X : Cx} {ρ : Rho} {a : Expr} {ds : List D} {pos p p2 kp tpos : Pos} {elts : List Expr} {kk kt : Nat}
end
section
variable {X : Cx} {pin : List Nat} {ρ : RhoS} {Φ : Out → Prop} {e : Expr} {ds es : List D} {pos p1 p2 p3 : Pos} {i : Nat} {x : Str}
theorem js_patL {tg : Expr} {is : List Nat} (h : J X e (fzR ρ) (.lst ds)) (hl : ds.length = is.length) (hk : Φ (.nx (setAll ρ is (ds.map SV.fz)))) (hg : PG X tg (gLst X.K is.length (gNames is))) (hp : ∀ i ∈ is, i ∉ pin := by decide) (hs : swapsWithSole [tg] e pos.line X.env = pure false := by rfl) (hw : swappedStores [tg] e X.env = pure none := by rfl)
    (h1 : (assignEach [tg] X.env).map (·.2) = [assign tg X.env] := by rfl) : JS X pin (.Assign [tg] e pos) ρ Φ := ⟨fun E σ H D hpn ⟨Hf, A, s⟩ k =>
  .of (ps_asg pe_w hg hs hw h1) (h Hf σ H s.fh s.vis _ fun v W' H' st r => by
    cases r with
    | @lst l vs _ hb rz =>
      obtain ⟨A', s'⟩ := setAllFz (i := 0) is (s.step st) rz hl fun i hi => hpn.none (hp i hi)
      exact ⟨l, vs, rfl, SqL.of (st.wh _ _ hb), by rw [← rz.length]; exact hl, gNames_run is (by rw [← rz.length]; exact hl) (k _ hk _ _ ⟨_, _, s'⟩)⟩)⟩
end
end Pf

namespace Pf
open PySem L2 PySem.Spec PyProof.Rows
open Evl (Ex)
mutual
/-- no list, dict or object within -/
def tupD : D → Bool
  | .non => true
  | .bl _ => true
  | .int _ => true
  | .str _ => true
  | .tup xs => tupAll xs
  | _ => false
def tupAll : List D → Bool
  | [] => true
  | x :: xs => tupD x && tupAll xs
end
section
variable {K : PySem.W.Frag} {W : Hp} {l : Addr} {vs0 : List V}
/-- without a list's address -/
def dropA (W : Hp) (l : Addr) : Hp := fun b => if b = l then none else W b
theorem sqT_drop (hl : W l = some (.lst vs0)) {a : Addr} {vs : List V} (h : SqT K W a vs) : SqT K (dropA W l) a vs := by
  rcases h with h | h
  · refine .inl ?_
    rcases h with h | ⟨q, h⟩
    · exact .inl (by unfold dropA; rw [if_neg fun z => by rw [z, hl] at h; cases h]; exact h)
    · exact .inr ⟨q, by unfold dropA; rw [if_neg fun z => by rw [z, hl] at h; cases h]; exact h⟩
  · exact .inr h
mutual
theorem rep_drop (hl : W l = some (.lst vs0)) : ∀ (d : D) (v : V), tupD d = true → Rep K W d v → Rep K (dropA W l) d v
  | .non, _, _, .non => .non
  | .bl _, _, _, .bl b => .bl b
  | .int _, _, _, .int b => .int b
  | .str _, _, _, .str b => .str b
  | .tup ds, _, h, .tup h1 h2 => .tup (sqT_drop hl h1) (repAll_drop hl ds _ (by simpa [tupD] using h) h2)
theorem repAll_drop (hl : W l = some (.lst vs0)) : ∀ (ds : List D) (vs : List V), tupAll ds = true → RepAll K W ds vs → RepAll K (dropA W l) ds vs
  | [], _, _, .nil => .nil
  | d :: ds, _, h, .cons r t => by
    have h' : tupD d = true ∧ tupAll ds = true := by simpa [tupAll] using h
    exact .cons (rep_drop hl d _ h'.1 r) (repAll_drop hl ds _ h'.2 t)
end
end
section
variable {X : Cx} {pin : List Nat} {ρ : RhoS} {Φ : Out → Prop} {e : Expr} {ds : List D} {pos p' : Pos} {i j : Nat} {x fld : Str} {C : Addr} {Pd : D → Prop}
end
end Pf

namespace Pf
open PySem L2 PySem.Spec PyProof.Rows
open Evl (Ex)

section
variable {X : Cx} {A' : Around} {W' : L2.WX} {E E2 : Value → Shared → Prop} {i : Nat} {n : Str} {pos : Pos} {u : Value} {s : Shared}
end
end Pf

namespace Pf
open PySem L2 PySem.Spec PyProof.Rows
open Evl (Ex)

section
variable {X : Cx} {body suite : List Stmt} {b₀ : Stmt} {x n : Str} {c : Value} {i : Nat} {np pos pos' : Pos} {tb : L2.WX → TS} {ts : Addr → Value → Option Addr → TS} {Wo : L2.WX}
end

section
variable {X : Cx} {pin : List Nat} {st : Stmt} {rest a b body : List Stmt} {ρ : RhoS} {Φ : Out → Prop} {e c tg iter : Expr} {es : List Expr} {d : D} {ds : List D} {pos p p' : Pos} {i k j n : Nat} {x : Str} {t : Bool} {er : Er} {P : D → Prop} {R : Er → Prop} {G : List D → (D → Prop) → (Er → Prop) → Prop}
end
section
variable {P : Program} {w : World} {K : PySem.W.Frag} {mg : Str → Option Value} {base : Heap} {x qual : Str} {st : Stmt} {f : Addr} {fd : FuncData} {N ps : List Str} {k : Nat} {G : List D → (D → Prop) → (Er → Prop) → Prop}
end

section
variable {X : Cx} {pin : List Nat} {ρ : RhoS} {Φ : Out → Prop} {body suite : List Stmt} {b₀ : Stmt} {x n : Str} {c : Value} {i : Nat} {np pos pos' : Pos}
end
end Pf

namespace Pf
open PySem L2 PySem.Spec PyProof.Rows
open Evl (Ex)
section
variable {X : Cx} {ρ : Rho} {pos : Pos}
/-- {k: v, ..}, the keys numbers -/
inductive JPi (X : Cx) (ρ : Rho) : List (Option Expr) → List Expr → List (Int × D) → Prop
  | nil : JPi X ρ [] [] []
  | cons {k v : Expr} {ks : List (Option Expr)} {vs : List Expr} {z : Int} {d : D} {r : List (Int × D)} : J X k ρ (.int z) → J X v ρ d → JPi X ρ ks vs r → JPi X ρ (some k :: ks) (v :: vs) ((z, d) :: r)
theorem JPi.len : ∀ {ks : List (Option Expr)} {vs : List Expr} {r : List (Int × D)}, JPi X ρ ks vs r → ks.length = vs.length ∧ ks.length = r.length ∧ ks.all (·.isSome) = true
  | _, _, _, .nil => ⟨rfl, rfl, rfl⟩
  | _, _, _, .cons _ _ h => by
    obtain ⟨a, b, c⟩ := h.len
    exact ⟨by simp [a], by simp [b], by simp [c]⟩
theorem JPi.run : ∀ {ks : List (Option Expr)} {vs : List Expr} {r : List (Int × D)}, JPi X ρ ks vs r → ∀ W σ H, Ex W H → Vis X.K ρ W σ → ∀ Q : List (V × V) → Hp → Prop, (∀ (us : List V) W' H', Step W H W' H' → RepAll X.K W' (r.map (·.2)) us → Q ((r.map fun q => V.int q.1).zip us) H') → tPairs (trsOf X ks vs) σ H Q
  | _, _, _, .nil => fun W σ H ex hV Q g => g [] W H (.refl ex) .nil
  | _, _, _, .cons hk hv h => fun W σ H ex hV Q g => hk W σ H ex hV _ fun x W1 H1 s1 r1 => hv W1 σ H1 s1.wh (hV.mono s1.ww) _ fun y W2 H2 s2 r2 => h.run W2 σ H2 s2.wh (hV.mono (s1.trans s2).ww) _ fun us W3 H3 s3 r3 => by
    cases r1
    exact g (y :: us) W3 H3 ((s1.trans s2).trans s3) (.cons (r2.mono s3.ww) r3)
end
end Pf

namespace Pf
open PySem L2
open Evl (Ex)
section
variable {X : Cx} {pin : List Nat} {ρ : RhoS} {Φ : Out → Prop} {e ke fe o : Expr} {es : List Expr} {d : D} {ds : List D} {pos p p' p1 p2 p3 : Pos} {i j : Nat} {x y : Str} {kds : List (Key × D)} {z : Str}
end
end Pf

namespace Pf
open PySem L2 PySem.Spec PyProof.Rows
open Evl (Ex)
section
variable {X : Cx} {elt tg iter tg1 iter1 : Expr} {scope : Scope} {own : List (Str × Nat)} {pos : Pos} {ρ : Rho}
end
structure JR (X : Cx) (sts : List Stmt) (ρ : RhoS) (P : List D → Prop) : Prop where
  run : ∀ (E : Ent) σ H (D : Ends), E.Pins [] → (∀ b, ¬ E.M b) → StOk X.K E ρ σ H → (∀ l, P l → ∀ (a : Addr) (W' H' : Hp) (us : List V), Step E.W0 E.H0 W' H' → E.H0 a = none → W' a = none → H' a = some (.lst us) → RepAll X.K W' l us → D.rt (.ref a) H') → wSs X sts D σ H
/-- what a statement ahead of the rest must come to -/
def thenR (X : Cx) (rest : List Stmt) (P : List D → Prop) : Out → Prop
  | .nx ρ => JR X rest ρ P
  | _ => False
section
variable {X : Cx} {st : Stmt} {rest a b : List Stmt} {ρ : RhoS} {P : List D → Prop} {e c : Expr} {ds : List D} {pos p : Pos} {i : Nat} {x : Str}
theorem jr_cons (h : JS X [] st ρ (thenR X rest P)) : JR X (st :: rest) ρ P := ⟨fun E σ H D hp hM s k =>
  .of (pss_cons ps_w pss_w) (h E σ H _ hp s fun o ho => by
    cases o with
    | nx ρ' => exact fun σ' H' s' => JR.run (show JR X rest ρ' P from ho) E σ' H' D hp hM s' k
    | rt d ρ' => exact ho.elim
    | bk ρ' => exact ho.elim
    | ct ρ' => exact ho.elim
    | ex er ρ' => exact ho.elim)⟩
theorem jr_retN (h : JNP X e (fzR ρ) P) : JR X (.Return (some e) pos :: rest) ρ P := ⟨fun E σ H D hp hM ⟨Hf, A, s⟩ k =>
  .of (pss_cons (ps_ret pe_w) pss_w) (h.run Hf σ H s.fh s.vis _ fun l hl a W' H' vs st h1 h2 h3 r => k l hl a W' H' vs ⟨s.w0.trans st.ww, st.wh, fun b o hb => st.hh _ _ (s.hh b o hb (hM b)), fun b q1 q2 => by
    by_cases z : Hf b = none
    · exact s.kp b (st.fr b q1 z)
    · exact s.fr b z q2⟩ (s.kp a h1) h2 h3 r)⟩
theorem jr_retO (hi : ρ[i]? = some (some (.ow (.lst ds)))) (hst : ∀ d ∈ ds, stillD d = true) (h : P ds) (hN : X.N[i]? = some x := by rfl) (hv : L2.Vis X.env.scope x := by first | exact Or.inl rfl | exact Or.inr (Or.inl rfl)) (hd : (x == ("__debug__" : Str)) = false := by decide) (hcd : (x == ("__classdict__" : Str)) = false := by decide) :
    JR X (.Return (some (.Name x p)) pos :: rest) ρ P := ⟨fun E σ H D hp hM ⟨Hf, A, s⟩ k => by
  refine .of (pss_cons (ps_ret (pe_var hN hv hd hcd)) pss_w) ?_
  obtain ⟨v, hσ, ow, ne⟩ := s.sl i _ hi
  refine ⟨v, hσ, ?_⟩
  generalize hA : A i = Ai at ow ne
  cases ow with
  | fz _ => exact absurd rfl ne
  | @lst l vs _ B hl1 ha nB =>
    obtain ⟨q1, q2, q3⟩ := s.ap i l (by rw [hA]; exact List.mem_cons_self)
    have q4 : E.H0 l = none := by
      rcases q3 with q | q
      · exact q
      · exact absurd q.1 (hM l)
    exact k ds h l Hf H vs ⟨s.w0, s.fh, fun b o hb => s.hh b o hb (hM b), s.fr⟩ q4 q1 hl1 (ha.still hst)⟩
end
section
variable {P : Program} {w : World} {K : PySem.W.Frag} {mg : Str → Option Value} {base : Heap} {x qual : Str} {st : Stmt} {f : Addr} {fd : FuncData} {N ps : List Str} {k : Nat} {G : List D → (List D → Prop) → Prop}
theorem fn_newB (F : Fun K x qual st f fd) (S : FnScope N ps (defScope st)) (hG : ∀ ds Pd, G ds Pd → ds.length = ps.length)
    (body : ∀ (cdv : Value) (A : Around) (outer : List Env) (s : Shared) (H : Hp) (E : XK) (ds : List D) (Pd : List D → Prop), Room k (A.deeper (envOfC qual (defScope st) s.heap.objs.size f cdv)) → G ds Pd →
      JR (cxOf CX0 P w K mg base N qual (defScope st) f cdv A outer s H E).nox (defBody st) (startR N ds) Pd) : FnOk P w K mg base CX0 (k + 1) f fd ps (spN K ps.length G) := by
  refine F.ok S (fun vs H Q E h => h.1) fun cdv A outer s H vs Q E hr h => ?_
  obtain ⟨_, W, ds, Pd, ex, r, hg, q⟩ := h
  refine ⟨_, pss_w, ?_⟩
  exact (body cdv A outer s H E ds Pd hr hg).run ⟨W, H, fun _ => False, fun _ => none⟩ (L2.start N vs) H _ (fun i => ⟨fun z => absurd rfl z, fun z => absurd z (by simp)⟩) (fun _ z => z) ⟨W, _, start_ok ex r⟩ q
end
/-- a def that hands back a new list -/
structure NFn (P : Program) (w : World) (K : PySem.W.Frag) (mg : Str → Option Value) (base : Heap) (k : Nat) (x : Str) (n : Nat) (G : List D → (List D → Prop) → Prop) : Prop where
  ex : ∃ f fd ps, FnOk P w K mg base CX0 k f fd ps (spN K n G) ∧ mg x = some (.ref f) ∧ PySem.W.keepIn K (.ref f) = true ∧ Binds K fd ps []
section
variable {X : Cx} {ρ : Rho} {e : Expr} {es : List Expr} {ds : List D} {pos p : Pos} {x : Str} {k j n : Nat} {G : List D → (List D → Prop) → Prop} {P : List D → Prop}
theorem jnp_call (c : NFn X.prog X.w X.K X.mg X.base k x n G) (hr : Room j X.A) (ha : JA X (e :: es) ρ ds) (hG : G ds P) (hk : k ≤ j := by decide) (hn : ds.length = n := by rfl) (hg : Gl X x := by rfl) (hdb : (x == ("__debug__" : Str)) = false := by decide)
    (he : starEach (e :: es) X.env = (false, eval e X.env) :: starEach es X.env := by rfl) (hpl : (backTo pos (starEach es X.env)).any (·.1) = false := by rfl) : JNP X (.Call (.Name x p) (e :: es) [] pos) ρ P := ⟨fun W σ H ex hV Q g => by
  obtain ⟨f, fd, ps, F, hm, hkp, hb⟩ := c.ex
  refine .of (pe_call (F.mono hk) hr hg hm hkp hb .nil pass0 pa_w hdb he hpl) (ha W σ H ex hV _ fun vs W1 H1 s1 r1 => ?_)
  rw [List.append_nil]
  exact ⟨by rw [← r1.length]; exact hn, W1, ds, P, s1.wh, r1, hG, fun l hl a W' H' us st z1 z2 z3 z4 => g l hl a W' H' us (s1.trans st) (Evl.fresh_back s1.hh z1) z2 z3 z4⟩⟩
end
end Pf

namespace Pf
open PySem L2
open Evl (Ex)
section
variable {X : Cx} {tg e : Expr} {ρ : Rho} {ds : List D} {P : List D → Prop}
theorem j_NP (h : JNP X e ρ P) (k : ∀ l, P l → l = ds) : J X e ρ (.lst ds) := j_N (jn_of h k)
end
end Pf

namespace Pf
open PySem L2
open Evl (Ex)
section
variable {X : Cx} {pin : List Nat} {ρ : RhoS} {Φ : Out → Prop} {a b : Expr} {d1 d2 : D} {pos px py pt pt2 : Pos} {i j : Nat} {x y : Str}
theorem js_par {kt k2} (h : JA X [a, b] (fzR ρ) [d1, d2]) (hk : Φ (.nx ((ρ.set i (some (.fz d1))).set j (some (.fz d2))))) (hN : X.N.Nodup) (hw : swappedStores [.Tuple [.Name x px, .Name y py] kt pt] (.Tuple [a, b] k2 pt2) X.env = pure (some [x, y])) (hij : i ≠ j := by decide) (hi : X.N[i]? = some x := by rfl) (hj : X.N[j]? = some y := by rfl)
    (hx : X.env.scope.names.lookup x = some .local := by rfl) (hy : X.env.scope.names.lookup y = some .local := by rfl) (hp : i ∉ pin := by decide) (hq : j ∉ pin := by decide) (hc : X.calm = true := by rfl) (hs : swapsWithSole [.Tuple [.Name x px, .Name y py] kt pt] (.Tuple [a, b] k2 pt2) pos.line X.env = pure false := by rfl) :
    JS X pin (.Assign [.Tuple [.Name x px, .Name y py] kt pt] (.Tuple [a, b] k2 pt2) pos) ρ Φ := ⟨fun E σ H D hpn ⟨Hf, A, s⟩ k =>
  .of (ps_par hc hN hi hj hij hx hy pa_w hw hs) (h Hf σ H s.fh s.vis _ fun vs W' H' st r => by
    cases r with
    | cons r1 r =>
      cases r with
      | cons r2 r =>
        cases r
        exact ⟨_, _, rfl, k _ hk _ H' ⟨W', _, ((s.step st).setFz r1 (hpn.none hp)).setFz r2 (hpn.none hq)⟩⟩)⟩
end
end Pf

namespace Pf
open PySem L2
open Evl (Ex)
section
variable {X : Cx} {pin : List Nat} {ρ : RhoS} {Φ : Out → Prop} {e : Expr} {ds : List D} {pos p1 p2 p3 : Pos} {i : Nat} {x : Str} {P : D → Prop}
theorem js_appendP (hi : ρ[i]? = some (some (.ow (.lst ds)))) (h : JP X e (fzR ρ) P) (hl : ds.length < sizeLine) (hk : ∀ d, P d → Φ (.nx (ρ.set i (some (.ow (.lst (ds ++ [d]))))))) (hM : ∀ d, P d → insM d = false := by (intro d hd; first | (cases hd; rfl) | (obtain ⟨_, rfl⟩ := hd; rfl) | (obtain ⟨_, rfl, _⟩ := hd; rfl) | (obtain ⟨_, _, rfl⟩ := hd; rfl) | (obtain ⟨_, _, rfl, _⟩ := hd; rfl) | (obtain ⟨_, _, _, rfl⟩ := hd; rfl) | (obtain ⟨_, _, _, rfl, _⟩ := hd; rfl) | (obtain ⟨_, _, _, _, rfl, _⟩ := hd; rfl))) (hN : X.N[i]? = some x := by rfl) (hv : L2.Vis X.env.scope x := by first | exact Or.inl rfl | exact Or.inr (Or.inl rfl))
    (hd : (x == ("__debug__" : Str)) = false := by decide) (hcd : (x == ("__classdict__" : Str)) = false := by decide) (hst : starEach [e] X.env = (false, eval e X.env) :: starEach [] X.env := by rfl)
    (hfew : ((backTo p3 (starEach [e] X.env)).all (fun x => !x.1) && (backToKw p3 (keywordEach [] X.env)).all (fun x => x.1.isSome) && decide ([e].length + ([] : List Keyword).length + (if ([] : List Keyword).isEmpty then 0 else 1) < 30)) = true := by rfl)
    (hline : (p2.endLine == p3.line) = true := by rfl)
    (hs : swapsWith (.Call (.Attribute (.Name x p1) "append" p2) [e] [] p3) none pos.line X.env = pure false := by rfl) : JS X pin (.Expr (.Call (.Attribute (.Name x p1) "append" p2) [e] [] p3) pos) ρ Φ := ⟨fun E σ H D hpn ⟨Hf, A, s⟩ k => by
  refine .of (ps_expr (pe_bm PySem.F.plainAttrs_list PySem.F.slot_list_append PySem.F.type_list_append mt_append (pe_var hN hv hd hcd) (pa_cons pe_w pa_nil hst) rfl hfew hline hst) hs) ?_
  obtain ⟨v, hσ, ow, ne⟩ := s.sl i _ hi
  generalize hA : A i = Ai at ow ne
  cases ow with
  | fz _ => exact absurd rfl ne
  | @lst l vs _ B hl1 ha nB =>
    refine ⟨_, hσ, .inl ⟨rfl, _, SqL.of hl1⟩, ?_⟩
    refine h.run Hf σ H s.fh s.vis _ fun d hd y W' H' st r => ?_
    have s' := s.step st
    have hl2 := st.hh _ _ hl1
    refine ⟨l, vs, y, rfl, rfl, hl2, by rw [← ha.length]; exact hl, ?_⟩
    have hm : l ∈ A i := by rw [hA]; exact List.mem_cons_self
    have k1 : ∀ a ∈ B, upd H' l (.lst (vs ++ [y])) a = H a := fun a haB => by
      rw [upd_ne (fun z => by subst z; exact nB haB)]
      have := (s.ap i a (by rw [hA]; exact List.mem_cons_of_mem _ haB)).2.1
      cases q : H a with
      | none => exact absurd q this
      | some o => exact st.hh _ _ q
    exact k _ (hk d hd) _ _ ⟨W', _, s'.change (B := l :: B) hi hσ hm (by simp) (fun b hb => by rw [hA]; exact hb) (.lst upd_same ((ha.move st.ww k1).snoc r (hM d hd)) nB)⟩⟩
end
end Pf

namespace Pf
open PySem L2 PySem.Spec PyProof.Rows
open Evl (Ex)
section
variable {P : Program} {w : World} {A : Around} {E : Value → Shared → Prop} {s : Shared}
set_option maxHeartbeats 3200000 in
/-- set(xs), xs a tuple of texts -/
theorem call_set_tt {l : Addr} {items : Array Value} {zs : List Str} {Q : Value → Shared → Prop} (hh : A.handled = none) (hl : s.heap.IsTuple l items) (hi : StrsAre items.toList zs) (hf : zs.length + 1 < scanBound)
    (h : ∀ (h' : Heap) (tk : Nat), TS1 P w h' s.heap.objs.size (ddL zs) → (∀ b o, s.heap.get? b = some o → h'.get? b = some o) → Q (.ref s.heap.objs.size) { s with heap := h', toks := tk }) :
    wpAny (model P w) A (call (.type "set") [.ref l]) Q E s := by
  have hsz : zs.length = items.size := by rw [← StrsAre.len_eq hi, Array.length_toList]
  have hlS : l < s.heap.objs.size := by obtain ⟨o, ho, _⟩ := hl; exact Heap.lt_size ho
  obtain ⟨c, tl, hmro⟩ := PySem.F.called_set.mro
  have hmade := PySem.F.called_set.made
  have hsub := PySem.F.called_set.sub
  refine wpAny_call (codeAny_of_tree (show wpAny _ _ (callAny (.type "set") _) _ _ _ from ?_))
  refine wpAny_pure ⟨Code.quiet_builtin _ (by decide +kernel), codeAny_builtin PySem.F.entry_type_call ?_⟩
  rw [Around.under_plain (weight_type_call_type "set" [.ref l] []) rfl]
  have h1 := PySem.F.called_set.notType
  have h2 := PySem.F.called_set.canCreate
  have hct := PySem.F.typeCall_set_1 (.ref l)
  repeat (any_goals (first | assumption | wp_step))
  refine codeAny_mono (new_led (.ref l) (E := E) (Q := fun obj s₁ => obj = .ref s.heap.objs.size ∧ s₁ = { s with heap := s.heap.push { cls := .type "set", dict := none, data := .set #[] 0 (.fresh 0 0 (!w.params.followText "set-order")) } }) ⟨rfl, rfl⟩) fun r s₁ hr => ?_
  cases r with
  | error e => exact hr
  | ok fl =>
    cases fl with
    | next => exact hr.elim
    | brk => exact hr.elim
    | cont => exact hr.elim
    | ret obj =>
      obtain ⟨rfl, rfl⟩ := hr
      have T0 := ts_fresh (P := P) (w := w) s.heap
      have hS : (s.heap.push { cls := .type "set", dict := none, data := .set #[] 0 (.fresh 0 0 (!w.params.followText "set-order")) }).get? s.heap.objs.size = some { cls := .type "set", dict := none, data := .set #[] 0 (.fresh 0 0 (!w.params.followText "set-order")) } := Heap.get?_push_size _ rfl
      have hl1 : (s.heap.push { cls := .type "set", dict := none, data := .set #[] 0 (.fresh 0 0 (!w.params.followText "set-order")) }).IsTuple l items := hl.push _
      have kp0 : ∀ b o, s.heap.get? b = some o → (s.heap.push { cls := .type "set", dict := none, data := .set #[] 0 (.fresh 0 0 (!w.params.followText "set-order")) }).get? b = some o := fun b o q => Heap.get?_push_of_some _ q
      have hz1 : (s.heap.push { cls := .type "set", dict := none, data := .set #[] 0 (.fresh 0 0 (!w.params.followText "set-order")) }).objs.size = s.heap.objs.size + 1 := size_push' _ _
      generalize s.heap.push { cls := .type "set", dict := none, data := .set #[] 0 (.fresh 0 0 (!w.params.followText "set-order")) } = hp1 at T0 hS hl1 kp0 hz1
      have hT : Shared.TypeIs { s with heap := hp1 } (.ref s.heap.objs.size) "set" := ⟨_, hS, rfl⟩
      have hli := PySem.F.called_set.init.lookup
      have hbi := PySem.F.called_set.init.bind (.ref s.heap.objs.size)
      repeat (any_goals (first | assumption | wp_step))
      refine codeAny_mono (codeAny_call_builtin (R := wants (fun r s₂ => r = .none ∧ ∃ h' tk, s₂ = { s with heap := h', toks := tk } ∧ TS1 P w h' s.heap.objs.size (ddL zs) ∧ ∀ b o, s.heap.get? b = some o → h'.get? b = some o) E) PySem.F.called_set.init.plain PySem.F.entry_set_init (check_set_init_1 hT ?_)) fun r₂ s₂ hr₂ => ?_
      · obtain ⟨ol, hol, hcl, nl, hdl⟩ := id hl1
        obtain ⟨ocls, odict, odata, oslots⟩ := ol
        simp only at hcl hdl
        subst hcl; subst hdl
        have hsls := PySem.F.sub_tuple_set
        have hslf := PySem.F.sub_tuple_frozenset
        have hne : (Value.type "tuple" == Value.type "dict") = false := by decide
        unfold Builtin.«set.__init__» noKeywords Builtin.Frozenset.updateFrom
        generalize hPI : pyIter = PI
        wp_walk
        subst hPI
        refine wpAny_pyIter_tuple hl1 (wpAny_bind (wpAny_runValue ?_))
        have hneI : l ≠ hp1.objs.size := by rw [hz1]; exact Nat.ne_of_lt (Nat.lt_succ_of_lt hlS)
        have hSf : s.heap.objs.size ∉ [hp1.objs.size, l] := by
          rw [hz1]
          simp only [List.mem_cons, List.not_mem_nil, or_false, not_or]
          exact ⟨Nat.ne_of_lt (Nat.lt_succ_self _), Nat.ne_of_gt hlS⟩
        have hval : ∀ (i : Nat) (v : Value), items[i]? = some v → ∃ t, v = .str (zs.getD i Str.empty) t := fun i v hv => SS.strs_at hi i v (by rw [Array.getElem?_toList]; exact hv)
        have hh3 : A.in1.in1.in1.handled = none := by simp [hh]
        refine ts_loop ((Walks.tuple hh3 _ l hneI items).toS) s.heap.objs.size hSf zs hsz (by rw [← hsz]; exact hf) hval (items.size - 0) 0 _ (by omega) (Nat.zero_le _) ⟨⟨_, Heap.get?_push_size _ rfl, rfl, rfl⟩, (hl1.push _)⟩ (T0.keep fun o q => Heap.get?_push_of_some _ q) ?_
        intro s' hm T
        obtain ⟨h', g', d', tk', os'⟩ := s'
        have eg : g' = s.gens := hm.gens
        have ed : d' = s.drawn := hm.drawn
        have eo : os' = s.os := hm.os
        subst eg; subst ed; subst eo
        show wpAny _ _ _ _ _ _
        refine wpAny_pure ?_
        show wpAny _ _ (ret Value.none) _ _ _
        refine wpAny_pure ⟨rfl, h', tk', rfl, T, fun b o q => ?_⟩
        have hb := Heap.lt_size q
        refine hm.heap b o (fun z => ?_) (Heap.get?_push_of_some _ (kp0 b o q))
        simp only [List.mem_cons, List.not_mem_nil, or_false] at z
        rcases z with z | z
        · exact absurd z (Nat.ne_of_lt hb)
        · exact absurd z (by rw [hz1]; exact Nat.ne_of_lt (Nat.lt_succ_of_lt hb))
      · cases r₂ with
        | error e => exact hr₂
        | ok fl₂ =>
          cases fl₂ with
          | ret r =>
            obtain ⟨rfl, h', tk, rfl, T, kp⟩ := hr₂
            repeat (any_goals (first | assumption | wp_step))
            exact h _ _ T kp
          | next => exact hr₂.elim
          | brk => exact hr₂.elim
          | cont => exact hr₂.elim
end
section
variable {X : Cx} {a : Expr} {ta : TE} {p p2 q pos : Pos}
def tSetT (K : PySem.W.Frag) (ta : TE) (k : List Str → Hp → VK → Prop) : TE := fun σ H Q => ta σ H fun x H1 => ∃ l, ∃ xs : List Str, x = .ref l ∧ SqT K H1 l (xs.map V.str) ∧ xs.length + 1 < scanBound ∧ k xs H1 Q
theorem pe_lenTT (hc : X.calm = true) (hg : Gl X "len") (hm : X.mg "len" = none) (hg2 : Gl X "set") (hm2 : X.mg "set" = none) (ha : PE X a ta) (na : starEach [a] X.env = (false, eval a X.env) :: starEach [] X.env := by rfl) :
    PE X (.Call (.Name "len" p) [.Call (.Name "set" p2) [a] [] q] [] pos) (tSetT X.K ta fun xs H1 Q => Q (.int ((ddL xs).length : Nat)) H1) := by
  refine ⟨fun pins s σ H Q I h => ?_⟩
  refine Call_ (ld_blt I hg hm boot_len ?_)
  refine PyProof.Rows.callWith_builtin1 (PyProof.Rows.args_cons ?_ rfl) rfl rfl
  refine Call_ (ld_blt I hg2 hm2 boot_set ?_)
  refine PyProof.Rows.callWith_type1 (PyProof.Rows.args_cons (thn (ha.run pins s σ H _ I h) fun v s1 ⟨x, H1, I1, r1, q1⟩ => PyProof.Rows.args_nil ?_) na) na rfl
  obtain ⟨l, xs, rfl, hq, hb, q1⟩ := q1
  cases r1
  obtain ⟨its, r, pl, hz⟩ := I1.tuple hq
  refine call_set_tt (P := X.prog) (w := X.w) (I1.ok.hd hc) pl (by simpa using strsAre_of r) hb fun h' tk T hk => ?_
  refine PyProof.Rows.args_nil ?_
  obtain ⟨o, es, ep, t, R⟩ := T
  have I2 : Inv X pins σ H1 { s1 with heap := h', toks := tk } := I1.kept fun b o e => hk b o e
  have hl := ddL_len xs
  have hs := R.size
  exact call_len_set R.at' R.ex R.da R.fits (by have h4 : scanBound = 4096 := rfl; omega) ⟨.int ((ddL xs).length : Nat), H1, I2.tok _, ⟨_, by rw [hs]⟩, q1⟩
end
section
variable {X : Cx} {a : Expr} {p p2 q pos : Pos} {ρ : Rho} {xs : List Str}
/-- len(set(t)) -/
theorem jb_lenSetT (T : Bt X.mg) (ha : J X a ρ (.tup (xs.map D.str))) (hb : xs.length + 1 < scanBound) (hc : X.calm = true := by rfl) (hg : Gl X "len" := by rfl) (hg2 : Gl X "set" := by rfl) (na : starEach [a] X.env = (false, eval a X.env) :: starEach [] X.env := by rfl) :
    J X (.Call (.Name "len" p) [.Call (.Name "set" p2) [a] [] q] [] pos) ρ (.int ((ddL xs).length : Nat)) := ⟨fun W σ H ex hV Q g => .of (pe_lenTT hc hg T.len hg2 T.set pe_w na) (ha W σ H ex hV _ fun v W1 H1 s1 r1 => by
  cases r1 with
  | tup h1 k => cases k.strs; exact ⟨_, xs, rfl, Evl.ex_t s1.wh h1, hb, g _ W1 H1 s1 (.int _)⟩)⟩
end
end Pf

namespace Pf
open PySem L2
open Evl (Ex)
theorem OwnAll.len {K : PySem.W.Frag} {Hf H : Hp} : ∀ {ds : List D} {vs : List V} {A : List Addr}, OwnAll K Hf H ds vs A → ds.length = vs.length
  | _, _, _, .nil => rfl
  | _, _, _, .cons _ r _ _ => by rw [List.length_cons, List.length_cons, r.len]
section
variable {X : Cx} {ρ : RhoS} {ke : Expr} {ds es : List D} {pos p1 : Pos} {i : Nat} {x : Str} {k : Nat}
end
end Pf

namespace Pf
open PySem L2 PySem.Spec PyProof.Rows
open Evl (Ex)
def NewO (K : PySem.W.Frag) (P : D → Prop) (W H : Hp) (Q : VK) : Prop := ∀ (d : D) (a : Addr) (W' H' : Hp) (A' : List Addr), P d → Step W H W' H' → Own K W' H' d (.ref a) A' → A' ≠ [] → (∀ b ∈ A', W' b = none ∧ H' b ≠ none ∧ H b = none) → Q (.ref a) H'
def spO (K : PySem.W.Frag) (n : Nat) (G : List D → (D → Prop) → Prop) : Sp := fun vs H Q _ => vs.length = n ∧ ∃ W ds P, Ex W H ∧ RepAll K W ds vs ∧ G ds P ∧ NewO K P W H Q
structure JRO (X : Cx) (sts : List Stmt) (ρ : RhoS) (P : D → Prop) : Prop where
  run : ∀ (E : Ent) σ H (D : Ends), E.Pins [] → (∀ b, ¬ E.M b) → StOk X.K E ρ σ H → NewO X.K P E.W0 E.H0 D.rt → wSs X sts D σ H
def thenRO (X : Cx) (rest : List Stmt) (P : D → Prop) : Out → Prop
  | .nx ρ => JRO X rest ρ P
  | _ => False
section
variable {X : Cx} {st : Stmt} {rest a b : List Stmt} {ρ : RhoS} {P : D → Prop} {e c : Expr} {d : D} {pos p : Pos} {i : Nat} {x : Str}
theorem jro_cons (h : JS X [] st ρ (thenRO X rest P)) : JRO X (st :: rest) ρ P := ⟨fun E σ H D hp hM s k =>
  .of (pss_cons ps_w pss_w) (h E σ H _ hp s fun o ho => by
    cases o with
    | nx ρ' => exact fun σ' H' s' => JRO.run (show JRO X rest ρ' P from ho) E σ' H' D hp hM s' k
    | rt d ρ' => exact ho.elim
    | bk ρ' => exact ho.elim
    | ct ρ' => exact ho.elim
    | ex er ρ' => exact ho.elim)⟩
theorem jro_ret (h : JO1 X e (fzR ρ) P) : JRO X (.Return (some e) pos :: rest) ρ P := ⟨fun E σ H D hp hM ⟨Hf, A, s⟩ k =>
  .of (pss_cons (ps_ret pe_w) pss_w) (h.run Hf σ H s.fh s.vis _ fun d a W' H' A' hd st ow ne hA => k d a W' H' A' hd ⟨s.w0.trans st.ww, st.wh, fun b o hb => st.hh _ _ (s.hh b o hb (hM b)), fun b q1 q2 => by
    by_cases z : Hf b = none
    · exact s.kp b (st.fr b q1 z)
    · exact s.fr b z q2⟩ ow ne fun b hb => ⟨(hA b hb).1, (hA b hb).2.1, s.kp b (hA b hb).2.2⟩)⟩
theorem jro_retO (hi : ρ[i]? = some (some (.ow d))) (h : P d) (hN : X.N[i]? = some x := by rfl) (hv : L2.Vis X.env.scope x := by first | exact Or.inl rfl | exact Or.inr (Or.inl rfl)) (hdb : (x == ("__debug__" : Str)) = false := by decide) (hcd : (x == ("__classdict__" : Str)) = false := by decide) :
    JRO X (.Return (some (.Name x p)) pos :: rest) ρ P := ⟨fun E σ H D hp hM ⟨Hf, A, s⟩ k => by
  refine .of (pss_cons (ps_ret (pe_var hN hv hdb hcd)) pss_w) ?_
  obtain ⟨v, hσ, ow, ne⟩ := s.sl i _ hi
  refine ⟨v, hσ, ?_⟩
  have : ∃ a, v = .ref a := by
    have ow' := ow
    generalize hA : A i = Ai at ow' ne
    cases ow' with
    | fz _ => exact absurd rfl ne
    | ins _ _ _ _ => exact ⟨_, rfl⟩
    | lst _ _ _ => exact ⟨_, rfl⟩
    | dct _ _ _ _ => exact ⟨_, rfl⟩
  obtain ⟨a, rfl⟩ := this
  refine k d a Hf H (A i) h ⟨s.w0, s.fh, fun b o hb => s.hh b o hb (hM b), s.fr⟩ ow ne fun b hb => ?_
  obtain ⟨q1, q2, q3⟩ := s.ap i b hb
  refine ⟨q1, q2, ?_⟩
  rcases q3 with q | q
  · exact q
  · exact absurd q.1 (hM b)⟩
end
section
variable {P : Program} {w : World} {K : PySem.W.Frag} {mg : Str → Option Value} {base : Heap} {x qual : Str} {st : Stmt} {f : Addr} {fd : FuncData} {N ps : List Str} {k : Nat} {G : List D → (D → Prop) → Prop}
theorem fn_newO (F : Fun K x qual st f fd) (S : FnScope N ps (defScope st)) (hG : ∀ ds Pd, G ds Pd → ds.length = ps.length)
    (body : ∀ (cdv : Value) (A : Around) (outer : List Env) (s : Shared) (H : Hp) (E : XK) (ds : List D) (Pd : D → Prop), Room k (A.deeper (envOfC qual (defScope st) s.heap.objs.size f cdv)) → G ds Pd →
      JRO (cxOf CX0 P w K mg base N qual (defScope st) f cdv A outer s H E).nox (defBody st) (startR N ds) Pd) : FnOk P w K mg base CX0 (k + 1) f fd ps (spO K ps.length G) := by
  refine F.ok S (fun vs H Q E h => h.1) fun cdv A outer s H vs Q E hr h => ?_
  obtain ⟨_, W, ds, Pd, ex, r, hg, q⟩ := h
  refine ⟨_, pss_w, ?_⟩
  exact (body cdv A outer s H E ds Pd hr hg).run ⟨W, H, fun _ => False, fun _ => none⟩ (L2.start N vs) H _ (fun i => ⟨fun z => absurd rfl z, fun z => absurd z (by simp)⟩) (fun _ z => z) ⟨W, _, start_ok ex r⟩ q
end
structure OFn (P : Program) (w : World) (K : PySem.W.Frag) (mg : Str → Option Value) (base : Heap) (k : Nat) (x : Str) (n : Nat) (G : List D → (D → Prop) → Prop) : Prop where
  ex : ∃ f fd ps, FnOk P w K mg base CX0 k f fd ps (spO K n G) ∧ mg x = some (.ref f) ∧ PySem.W.keepIn K (.ref f) = true ∧ Binds K fd ps []
section
variable {X : Cx} {ρ : Rho} {e : Expr} {es : List Expr} {ds : List D} {pos p : Pos} {x : Str} {k j n : Nat} {G : List D → (D → Prop) → Prop} {P : D → Prop}
theorem jo_call (c : OFn X.prog X.w X.K X.mg X.base k x n G) (hr : Room j X.A) (ha : JA X (e :: es) ρ ds) (hG : G ds P) (hk : k ≤ j := by decide) (hn : ds.length = n := by rfl) (hg : Gl X x := by rfl) (hdb : (x == ("__debug__" : Str)) = false := by decide)
    (he : starEach (e :: es) X.env = (false, eval e X.env) :: starEach es X.env := by rfl) (hpl : (backTo pos (starEach es X.env)).any (·.1) = false := by rfl) : JO1 X (.Call (.Name x p) (e :: es) [] pos) ρ P := ⟨fun W σ H ex hV Q g => by
  obtain ⟨f, fd, ps, F, hm, hkp, hb⟩ := c.ex
  refine .of (pe_call (F.mono hk) hr hg hm hkp hb .nil pass0 pa_w hdb he hpl) (ha W σ H ex hV _ fun vs W1 H1 s1 r1 => ?_)
  rw [List.append_nil]
  exact ⟨by rw [← r1.length]; exact hn, W1, ds, P, s1.wh, r1, hG, fun d a W' H' A' hd st ow ne hA => g d a W' H' A' hd (s1.trans st) ow ne fun b hb => ⟨(hA b hb).1, (hA b hb).2.1, Evl.fresh_back s1.hh (hA b hb).2.2⟩⟩⟩
end
section
variable {X : Cx} {elt tg iter : Expr} {scope : Scope} {own : List (Str × Nat)} {pos : Pos} {ρ : Rho} {pat : Pat}
end
end Pf

namespace Pf
open PySem L2 PySem.Spec PyProof.Rows
open Evl (Ex)
section
variable {K : PySem.W.Frag} {E : Ent} {ρ : RhoS} {σ : L2.St} {H Hf W' H' : Hp} {A : Nat → List Addr} {i : Nat} {C : Addr} {fds : List (Str × D)} {f : Str} {d' : D} {a : Addr} {Ag : List Addr}
theorem StAt.putO (s : StAt K E ρ σ H Hf A) (hi : ρ[i]? = some (some (.ow (.ins C fds)))) (st : Step Hf H W' H') (ow : Own K W' H' d' (.ref a) Ag) (ne : Ag ≠ []) (fr : ∀ b ∈ Ag, W' b = none ∧ H' b ≠ none ∧ H b = none) :
    ∃ ad dx fs, σ[i]? = some (some (.ref ad)) ∧ H' ad = some (.ins C dx fs) ∧ fs.length = fds.length ∧ StOk K E (ρ.set i (some (.ow (.ins C (putD f d' fds))))) σ (upd H' ad (.ins C dx (putF f (.ref a) fs))) := by
  obtain ⟨v0, hσ, ow0, ne0⟩ := s.sl i _ hi
  generalize hA : A i = Ai at ow0 ne0
  cases ow0 with
  | fz _ => exact absurd rfl ne0
  | @ins ad _ dx fs _ B h1 h2 h3 nB =>
    have inA : ∀ b ∈ B, b ∈ A i := fun b hb => by rw [hA]; exact List.mem_cons_of_mem _ hb
    have adA : ad ∈ A i := by rw [hA]; exact List.mem_cons_self
    have live : ∀ b ∈ A i, H b ≠ none := fun b hb => (s.ap i b hb).2.1
    have hold : ∀ b o, H b = some o → H' b = some o := st.hh
    have keepA : ∀ b ∈ A i, H' b = H b := fun b hb => by
      cases q : H b with
      | none => exact absurd q (live b hb)
      | some o => exact st.hh _ _ q
    refine ⟨ad, dx, fs, hσ, hold _ _ h1, by have := congrArg List.length h2; simpa using this, ?_⟩
    have adg : ad ∉ Ag := fun z => live ad adA (fr ad z).2.2
    obtain ⟨B', m1, m2⟩ := putD_ownG (f := f) (ow.move (.refl _) (H' := upd H' ad (.ins C dx (putF f (.ref a) fs))) fun b hb => upd_ne fun z => adg (by rw [← z]; exact hb)) ne h2 (h3.move st.ww (H' := upd H' ad (.ins C dx (putF f (.ref a) fs))) fun b hb => by
      rw [upd_ne fun z => nB (by rw [← z]; exact hb)]; exact keepA b (inA b hb)) (fun b hb hb2 => live b (inA b hb2) (fr b hb).2.2)
    have nB' : ad ∉ B' := fun z => by
      rcases m1 ad z with y | y
      · exact nB y
      · exact adg y
    refine ⟨W', _, s.after hi hσ (A' := ad :: B') ⟨st.ww, fun b o h => ?_, fun b o h hb => ?_, fun b h => ?_, st.fr, .ins upd_same (putD_names h2) m2 nB', by simp, fun b hb => ?_⟩⟩
    · have e1 : b ≠ ad := fun z => by
        rw [z] at h
        have q := (s.ap i ad adA).1
        exact live ad adA (st.fr ad (by rw [h]; simp) q)
      rw [upd_ne e1]; exact st.wh _ _ h
    · have e1 : b ≠ ad := fun z => hb (by rw [z]; exact adA)
      rw [upd_ne e1]; exact hold _ _ h
    · by_cases e1 : b = ad
      · rw [e1, upd_same] at h; cases h
      · rw [upd_ne e1] at h; exact Evl.fresh_back st.hh h
    · have wn : ∀ b ∈ A i, W' b = none := fun b hb => by
        cases q : W' b with
        | none => rfl
        | some o => exact absurd (st.fr b (by rw [q]; simp) (s.ap i b hb).1) (live b hb)
      rcases List.mem_cons.mp hb with z | z
      · rw [z]; exact ⟨wn ad adA, by rw [upd_same]; simp, .inl adA⟩
      · have e1 : b ≠ ad := fun y => nB' (by rw [← y]; exact z)
        rw [upd_ne e1]
        rcases m1 b z with y | y
        · exact ⟨wn b (inA b y), by rw [keepA b (inA b y)]; exact live b (inA b y), .inl (inA b y)⟩
        · exact ⟨(fr b y).1, (fr b y).2.1, .inr (fr b y).2.2⟩
end
section
variable {X : Cx} {pin : List Nat} {ρ : RhoS} {Φ : Out → Prop} {e : Expr} {P : List D → Prop} {Pd : D → Prop} {pos p' p1 : Pos} {i : Nat} {x f : Str} {C : Addr} {fds : List (Str × D)}
/-- x.f = e, e a new object -/
theorem js_fldO (hi : ρ[i]? = some (some (.ow (.ins C fds)))) (h : JO1 X e (fzR ρ) Pd) (cl : Cls X.K C) (hn : NoAttr X.K C f) (hl : fds.length < 1000) (hk : ∀ d, Pd d → Φ (.nx (ρ.set i (some (.ow (.ins C (putD f d fds))))))) (hN : X.N[i]? = some x := by rfl) (hv : L2.Vis X.env.scope x := by first | exact Or.inl rfl | exact Or.inr (Or.inl rfl))
    (hd : (x == ("__debug__" : Str)) = false := by decide) (hcd : (x == ("__classdict__" : Str)) = false := by decide) (hs : swapsWith e (some (.Attribute (.Name x p1) f p')) pos.line X.env = pure false := by rfl) : JS X pin (.Assign [.Attribute (.Name x p1) f p'] e pos) ρ Φ := ⟨fun E σ H D hpn ⟨Hf, A, s⟩ k => by
  refine .of (ps_fld (pe_var hN hv hd hcd) pe_w hs) (h.run Hf σ H s.fh s.vis _ fun d a W' H' A' hpd st ow ne hA => ?_)
  obtain ⟨ad, dx, fs, g1, g2, g3, ok⟩ := s.putO (f := f) hi st ow ne hA
  exact ⟨_, g1, ad, C, dx, fs, rfl, g2, cl, hn, by omega, k _ (hk d hpd) σ _ ok⟩⟩
end
section
variable {K : PySem.W.Frag} {Hf H : Hp}
/-- own_at, the frozen heap may grow -/
theorem own_atX {f : Str} {d : D} : ∀ {fds : List (Str × D)} {fs : List (Str × V)} {B : List Addr}, fs.map (·.1) = fds.map (·.1) → OwnFs K Hf H (fds.map (·.2)) (fs.map (·.2)) B → fds.lookup f = some d →
    ∃ v Af, fs.lookup f = some v ∧ Own K Hf H d v Af ∧ (mutD d = true → Af ≠ []) ∧ (∀ a ∈ Af, a ∈ B) ∧ ∀ {Hf' H' : Hp} {d' : D} {Ag : List Addr}, Ex Hf Hf' → (∀ b ∈ B, b ∉ Af → H' b = H b) → Own K Hf' H' d' v Ag → (∀ a ∈ Ag, a ∈ Af ∨ a ∉ B) → (mutD d' = true → Ag ≠ []) →
      ∃ B', OwnFs K Hf' H' ((putD f d' fds).map (·.2)) (fs.map (·.2)) B' ∧ (putD f d' fds).map (·.1) = fds.map (·.1) ∧ ∀ a ∈ B', a ∈ B ∨ a ∈ Ag
  | [], _, _, _, _, h => by cases h
  | _ :: _, [], _, h, _, _ => by cases h
  | (g, u) :: r0, (g', u') :: r', _, hn, hr, hf => by
    simp only [List.map_cons, List.cons.injEq] at hn
    obtain ⟨hg, hn⟩ := hn
    subst hg
    cases hr with
    | @cons _ _ _ _ A0 B0 q t nd w =>
      rw [List.lookup_cons] at hf
      by_cases e : g' = f
      · subst e
        rw [show (g' == g') = true from beq_self_eq_true _] at hf
        cases hf
        refine ⟨u', A0, by rw [List.lookup_cons, show (g' == g') = true from beq_self_eq_true _], q, w, fun a ha => List.mem_append_left _ ha, fun {Hf' H' d' Ag} ex hH ow hA hw => ⟨Ag ++ B0, ?_, ?_, ?_⟩⟩
        · unfold putD
          rw [if_pos rfl]
          refine .cons ow (t.move ex fun b hb => hH b (List.mem_append_right _ hb) fun z => nd b z hb) (fun a ha hb => ?_) hw
          rcases hA a ha with z | z
          · exact nd a z hb
          · exact z (List.mem_append_right _ hb)
        · unfold putD; rw [if_pos rfl]; rfl
        · intro a ha
          rcases List.mem_append.mp ha with z | z
          · exact .inr z
          · exact .inl (List.mem_append_right _ z)
      · have e' : (f == g') = false := by rw [beq_eq_false_iff_ne]; exact fun z => e z.symm
        rw [e'] at hf
        obtain ⟨v, Af, k1, k2, kw, k3, k4⟩ := own_atX hn t hf
        refine ⟨v, Af, by rw [List.lookup_cons, e']; exact k1, k2, kw, fun a ha => List.mem_append_right _ (k3 a ha), fun {Hf' H' d' Ag} ex hH ow hA hw => ?_⟩
        obtain ⟨B', m1, m2, m3⟩ := k4 ex (fun b hb => hH b (List.mem_append_right _ hb)) ow (fun a ha => by
          rcases hA a ha with z | z
          · exact .inl z
          · exact .inr fun y => z (List.mem_append_right _ y)) hw
        refine ⟨A0 ++ B', ?_, ?_, ?_⟩
        · unfold putD
          rw [if_neg e]
          refine .cons (q.move ex fun a ha => hH a (List.mem_append_left _ ha) fun z => nd a ha (k3 a z)) m1 (fun a ha hb => ?_) w
          rcases m3 a hb with z | z
          · exact nd a ha z
          · rcases hA a z with y | y
            · exact nd a ha (k3 a y)
            · exact y (List.mem_append_left _ ha)
        · unfold putD; rw [if_neg e]; simp only [List.map_cons, m2]
        · intro a ha
          rcases List.mem_append.mp ha with z | z
          · exact .inl (List.mem_append_left _ z)
          · rcases m3 a z with y | y
            · exact .inl (List.mem_append_right _ y)
            · exact .inr y
end
def fzOnly : Option SV → Option SV
  | some (.fz d) => some (.fz d)
  | _ => none
/-- the names' values in the body: own slots hidden, the item in t -/
def bodyO (i t : Nat) (d : D) (ρ : RhoS) : RhoS := ((ρ.map fzOnly).set i none).set t (some (.ow d))
section
variable {X : Cx} {pin : List Nat} {ρ : RhoS} {Φ : Out → Prop} {body : List Stmt} {pos p' p1 p2 : Pos} {i t : Nat} {x y f : Str} {C : Addr} {fds : List (Str × D)} {ds : List D}
end
end Pf

namespace Pf
open PySem L2 PySem.Spec PyProof.Rows
open Evl (Ex)
section
variable {X : Cx} {pin : List Nat} {ρ : RhoS} {Φ : Out → Prop} {e ke o : Expr} {es : List Expr} {d : D} {ds : List D} {pos p p' p1 p2 : Pos} {i j k n : Nat} {x f : Str} {C : Addr} {fds : List (Str × D)} {kds : List (Key × D)} {z : Str}
theorem jb_lenD {ρ : Rho} (hm : X.mg "len" = none) (h : J X e ρ (.dct kds)) (hg : Gl X "len" := by rfl) (he : starEach [e] X.env = (false, eval e X.env) :: starEach [] X.env := by rfl) (hpl : (backTo pos (starEach [] X.env)).any (·.1) = false := by rfl) : J X (.Call (.Name "len" p) [e] [] pos) ρ (.int kds.length) := ⟨fun W σ H ex hV Q g =>
  .of (pe_callB call_lenD hg hm (by decide +kernel) pa_w (by decide) (by decide) he hpl) (ja_cons h ja_nil he W σ H ex hV _ fun vs W1 H1 s1 r1 => by
    cases r1 with
    | cons r t =>
      cases t
      cases r with
      | @dct l kvs _ k1 k2 k3 => exact ⟨l, kvs, rfl, s1.wh _ _ k1, by
          have e1 : kvs.length = kds.length := by have := congrArg List.length k2; simpa using this
          rw [e1]
          exact g _ W1 H1 s1 (.int _)⟩)⟩
end
end Pf

namespace Pf
open PySem L2 PySem.Spec PyProof.Rows
open Evl (Ex)
section
variable {X : Cx} {pin : List Nat} {ρ : RhoS} {Φ : Out → Prop} {e : Expr} {d : D} {ds : List D} {pos p p' : Pos} {i : Nat} {x : Str}
end
section
variable {X : Cx} {ρ : Rho} {e : Expr} {d : D} {pos p : Pos} {f : Str} {k j n : Nat} {P0 : D → Prop} {R : Er → Prop} {G : List D → (D → Prop) → Prop} {P : D → D → Prop}
end
section
variable {X : Cx} {pin : List Nat} {ρ : RhoS} {Φ : Out → Prop} {pos p' : Pos} {i : Nat} {x : Str}
end
section
variable {X : Cx} {ρ : Rho} {e : Expr} {pos p p2 : Pos} {n : Str} {C : Addr} {fds : List (Str × D)}
end
section
variable {X : Cx} {ρ : Rho} {o : Expr} {d : D} {apos pos : Pos} {m : Str} {C : Addr} {fds : List (Str × D)} {k j n : Nat}
/-- o.m() -/
theorem j_meth0 {pl : Sem Bool} {G : List D → (D → Prop) → Prop} {P : D → Prop} (c : PMeth X.prog X.w X.K X.mg X.base k C m n G) (cl : Cls X.K C) (hr : Room j X.A) (h : J X o ρ (.ins C fds)) (hm : fds.lookup m = none) (hG : G [.ins C fds] P) (hP : ∀ d', P d' → d' = d) (hk : k ≤ j := by decide) (hn : n = 1 := by rfl)
    (ht : eval (.Call (.Attribute o m apos) [] [] pos) X.env = (do
      let ov ← eval o X.env
      standAt apos.atName
      let (f, first) ← holding [ov] (getMethod ov m pl)
      callWith pos f first (backTo pos (starEach [] X.env)) (backToKw pos (keywordEach [] X.env))) := by rfl) : J X (.Call (.Attribute o m apos) [] [] pos) ρ d := ⟨fun W σ H ex hV Q g => by
  obtain ⟨f, fd, ps, F, hme, hb⟩ := c.ex
  refine .of (pe_meth0 pe_w cl hme (F.mono hk) hr hb .nil pass0 ht) (h W σ H ex hV _ fun v W1 H1 s1 r1 => ?_)
  have r1' := r1
  cases r1 with
  | ins h1 h2 h3 =>
    refine ⟨_, _, _, rfl, s1.wh _ _ h1, lookup_none h2 hm, ?_⟩
    show spP X.K n G ([_] ++ []) H1 Q E0
    subst hn
    exact ⟨rfl, W1, _, P, s1.wh, .cons r1' .nil, hG, fun d' hd => by rw [hP d' hd]; exact g.step s1⟩⟩
end
end Pf

namespace Pf
open PySem L2 PySem.Spec PyProof.Rows
open Evl (Ex)
theorem OwnAll.put {K : PySem.W.Frag} {Hf H : Hp} {d : D} {y : V} (r : Rep K Hf d y) (hM : insM d = false) : ∀ {ds : List D} {vs : List V} {B : List Addr} (k : Nat), OwnAll K Hf H ds vs B → ∃ B', OwnAll K Hf H (ds.set k d) (vs.set k y) B' ∧ ∀ a ∈ B', a ∈ B
  | _, _, _, _, .nil => ⟨[], .nil, by simp⟩
  | _, _, _, 0, .cons (B := B0) q t nd w => ⟨[] ++ B0, .cons (.fz r) t (by simp) (by rw [hM]; intro z; cases z), fun a ha => List.mem_append_right _ ha⟩
  | _, _, _, k + 1, .cons (A := A0) (B := B0) q t nd w => by
    obtain ⟨B', h1, h2⟩ := OwnAll.put r hM k t
    refine ⟨A0 ++ B', .cons q h1 (fun a ha hb => nd a ha (h2 a hb)) w, fun a ha => ?_⟩
    rcases List.mem_append.mp ha with z | z
    · exact List.mem_append_left _ z
    · exact List.mem_append_right _ (h2 a z)
section
variable {X : Cx} {pin : List Nat} {ρ : RhoS} {Φ : Out → Prop} {e ke : Expr} {d : D} {ds : List D} {pos p' p1 : Pos} {i k : Nat} {x : Str}
end
section
variable {X : Cx} {st : Stmt} {rest : List Stmt} {ρ : RhoS} {P : List D → Prop} {d : D}
theorem jr_mid (Ψ : RhoS → Prop) (h : JS X [] st ρ (fun o => ∃ ρ', o = .nx ρ' ∧ Ψ ρ')) (k : ∀ ρ', Ψ ρ' → JR X rest ρ' P) : JR X (st :: rest) ρ P := jr_cons (h.imp fun o ⟨ρ', e, h⟩ => by subst e; exact k ρ' h)
end
end Pf

namespace Pf
open PySem L2 PySem.Spec PyProof.Rows
open Evl (Ex)
section
variable {X : Cx} {pin : List Nat} {ρ : RhoS} {Φ : Out → Prop} {e a b c : Expr} {d : D} {pos p p2 apos : Pos} {i j k n : Nat} {x f m : Str} {C : Addr} {fds : List (Str × D)}
end
section
variable {X : Cx} {ρ : Rho} {o a : Expr} {pos apos : Pos}
theorem j_joinT {x : PySem.Str} {ys : List PySem.Str} {z : PySem.Str} (ho : J X o ρ (.str x)) (ha : J X a ρ (.tup (ys.map D.str))) (hz : (ys.map (·.length)).sum + ys.length * x.length ≤ 16777216) (hj : Txt.join x ys = z) (hs : starEach [a] X.env = [(false, eval a X.env)] := by rfl) (hbase : attributeBase o "join" X.env (eval o X.env) = eval o X.env := by rfl) (hline : (apos.endLine == pos.line) = true := by rfl) :
    J X (.Call (.Attribute o "join" apos) [a] [] pos) ρ (.str z) := ⟨fun W σ H ex hV Q g => .of (pe_join pe_w pe_w hs hbase hline) (ho W σ H ex hV _ fun v W1 H1 s1 r1 => by
  cases r1
  refine ⟨⟨x, rfl⟩, ha W1 σ H1 s1.wh (hV.mono s1.ww) _ fun u W2 H2 s2 r2 => ?_⟩
  cases r2 with
  | tup h1 k => cases k.strs; subst hj; exact ⟨x, _, ys, rfl, rfl, .inr (h1.imp (fun z => z.imp (s2.wh _ _) fun ⟨o, z⟩ => ⟨o, s2.wh _ _ z⟩) id), hz, g _ _ _ (s1.trans s2) (.str _)⟩)⟩
end
theorem get_none {k : Key} : ∀ {kds : List (Key × D)} {kvs : List (Key × V)}, kvs.map (·.1) = kds.map (·.1) → getD kds k = none → valV kvs k = none
  | [], [], _, _ => rfl
  | [], _ :: _, h, _ => by cases h
  | _ :: _, [], h, _ => by cases h
  | (g, u) :: r, (g', u') :: r', h, hg => by
    simp only [List.map_cons, List.cons.injEq] at h
    obtain ⟨rfl, h⟩ := h
    by_cases e : g' = k
    · exact absurd hg (by simp [getD, e])
    · rw [valV_neg (p := (g', u')) e]
      exact get_none h (by simpa [getD, e] using hg)
section
variable {X : Cx} {ρ : Rho} {o e f : Expr} {apos cpos : Pos} {kds : List (Key × D)} {z : Str} {d0 : D}
theorem j_dgetO (hu : X.A.units + 1 < cLine) (ho : J X o ρ (.dct kds)) (hke : J X e ρ (.str z)) (hf : J X f ρ d0)
    (m1 : attributeBase o "get" X.env (eval o X.env) = eval o X.env := by rfl) (m2 : ((backTo cpos (starEach [e, f] X.env)).all (fun x => !x.1) && (backToKw cpos (keywordEach [] X.env)).all (fun x => x.1.isSome) && decide (([e, f] : List Expr).length + ([] : List Keyword).length + (if ([] : List Keyword).isEmpty then 0 else 1) < 30)) = true := by rfl)
    (m3 : (apos.endLine == cpos.line) = true := by rfl) (m4 : backTo cpos (starEach [e, f] X.env) = [(false, eval e X.env), (false, eval f X.env)] := by rfl) : J X (.Call (.Attribute o "get" apos) [e, f] [] cpos) ρ ((getD kds (.inr z)).getD d0) := ⟨fun W σ H ex V Q g => by
  refine .of (pe_dget2 hu pe_w pe_w pe_w ⟨m1, m2, m3, m4⟩) (ho W σ H ex V _ fun v W1 H1 s1 r1 => ?_)
  cases r1 with
  | dct k1 k2 k3 =>
    refine ⟨_, rfl, .inl ⟨_, .inl (s1.wh _ _ k1)⟩, hke W1 σ H1 s1.wh (V.mono s1.ww) _ fun y W2 H2 s2 r2 => hf W2 σ H2 s2.wh (V.mono (s1.trans s2).ww) _ fun u W3 H3 s3 r3 => ?_⟩
    cases r2
    have hH := (s2.trans s3).hh _ _ (s1.wh _ _ k1)
    cases hg : getD kds (.inr z) with
    | none =>
      rw [hg] at g
      exact ⟨none, get_none k2 hg ▸ DGet.k (k := Sum.inr z) hH, g u W3 H3 (s1.trans (s2.trans s3)) r3⟩
    | some d =>
      rw [hg] at g
      obtain ⟨v, e1, e2⟩ := get_rep k2 k3 hg
      exact ⟨some v, e1 ▸ DGet.k (k := Sum.inr z) hH, g v W3 H3 (s1.trans (s2.trans s3)) (e2.mono (s2.trans s3).ww)⟩⟩
end
section
variable {X : Cx} {pin : List Nat} {ρ : RhoS} {Φ : Out → Prop} {e ke : Expr} {d : D} {pos p' p1 : Pos} {i : Nat} {x : Str} {kds : List (Key × D)} {z : Str}
end
end Pf

namespace Pf
open PySem L2 PySem.Spec PyProof.Rows
open Evl (Ex)
section
variable {X : Cx} {ρ : Rho} {e : Expr} {pos p : Pos}
end
section
variable {P : Program} {w : World} {K : PySem.W.Frag} {mg : Str → Option Value} {base : Heap} {x qual : Str} {st : Stmt} {f : Addr} {fd : FuncData} {N ps : List Str} {k : Nat} {G : List D → (D → Prop) → Prop}
end
end Pf

namespace Pf
open PySem L2 PySem.Spec PyProof.Rows
mutual
/-- a bound of how long the data are shown, if they are small -/
def shD : Nat → D → Option Nat
  | _, .non => some 4
  | _, .bl _ => some 5
  | _, .int i => if 0 ≤ i ∧ i < 1000000000000000 then some 20 else none
  | _, .str x => if PySem.PyData.strOk x = true then some (10 * x.length + 2) else none
  | n + 1, .lst xs => (shAllD n xs).map (· + 3)
  | n + 1, .tup xs => (shAllD n xs).map (· + 3)
  | _, _ => none
def shAllD : Nat → List D → Option Nat
  | _, [] => some 0
  | n, x :: xs => match shD n x, shAllD n xs with
    | some a, some b => some (a + (b + 2))
    | _, _ => none
end
section
variable {X : Cx} {ρ : Rho} {e : Expr} {p pos : Pos} {d : D} {b : Nat}
end
end Pf

namespace Pf
open PySem L2
open Evl (Ex)
section
variable {X : Cx} {elt tg iter : Expr} {ifs : List Expr} {scope : Scope} {own : List (Str × Nat)} {pos : Pos} {ρ : Rho} {its : List (D × Option D)} {pat : Pat}
end
section
variable {X : Cx} {pin : List Nat} {ρ : RhoS} {Φ : Out → Prop} {tg iter : Expr} {pos p' : Pos} {i : Nat} {x : Str}
end
section
variable {X : Cx} {ρ : Rho} {a b e : Expr} {es : List Expr} {pos : Pos} {P : List D → Prop} {P1 : D → Prop} {ds : List D}
end
theorem jnp_imp {X : Cx} {e : Expr} {ρ : Rho} {P P' : List D → Prop} (h : JNP X e ρ P) (hi : ∀ l, P l → P' l) : JNP X e ρ P' := ⟨fun W σ H ex hV Q g => h.run W σ H ex hV Q fun l hl => g l (hi l hl)⟩
end Pf

namespace Pf
open PySem L2
open Evl (Ex)
section
variable {X : Cx} {pin : List Nat} {e a o c : Expr} {es : List Expr} {ρ : RhoS} {d : D} {ds : List D} {C C2 : Addr} {fds fds2 : List (Str × D)} {pos p p1 p2 p3 p' apos : Pos} {f g m x : Str} {k j n i : Nat} {G : D → List D → (D → D → Prop) → Prop} {P : D → D → Prop} {Φ : Out → Prop}
theorem jm_methF {pl : Sem Bool} (M : MMeth X.prog X.w X.K X.mg X.base k C2 m n G) (cl : Cls X.K C) (cl2 : Cls X.K C2) (hna : NoAttr X.K C g) (hr : Room j X.A) (hi : ρ[i]? = some (some (.ow (.ins C fds)))) (hf : fds.lookup g = some (.ins C2 fds2)) (hmu : mutD (.ins C2 fds2) = true) (hm : fds2.lookup m = none) (ha : JA X (e :: es) (fzR ρ) ds) (hG : G (.ins C2 fds2) ds P) (hk : k ≤ j := by decide) (hn : ds.length + 1 = n := by rfl)
    (hN : X.N[i]? = some x := by rfl) (hv : L2.Vis X.env.scope x := by first | exact Or.inl rfl | exact Or.inr (Or.inl rfl)) (hd : (x == ("__debug__" : Str)) = false := by decide) (hcd : (x == ("__classdict__" : Str)) = false := by decide)
    (hst : starEach (e :: es) X.env = (false, eval e X.env) :: starEach es X.env := by rfl) (hpl : (backTo pos (starEach es X.env)).any (·.1) = false := by rfl)
    (hb2 : attributeBase (.Name x p1) g X.env (eval (.Name x p1) X.env) = eval (.Name x p1) X.env := by rfl)
    (ht : eval (.Call (.Attribute (.Attribute (.Name x p1) g p2) m apos) (e :: es) [] pos) X.env = (do
      let ov ← eval (.Attribute (.Name x p1) g p2) X.env
      standAt apos.atName
      let (f, first) ← holding [ov] (getMethod ov m pl)
      callWith pos f first (backTo pos (starEach (e :: es) X.env)) (backToKw pos (keywordEach [] X.env))) := by rfl) :
    JM X pin (.Call (.Attribute (.Attribute (.Name x p1) g p2) m apos) (e :: es) [] pos) ρ (fun r ρ' => ∃ d', P r d' ∧ ρ' = ρ.set i (some (.ow (.ins C (putD g d' fds))))) := ⟨fun E σ H hpn ⟨Hf, A, s⟩ Q gq => by
  obtain ⟨f, fd, ps, F, hme, hb⟩ := M.ex
  refine .of (pe_meth (pe_fld (pe_var hN hv hd hcd) hb2) cl2 hme (F.mono hk) hr hb .nil pass0 pa_w hst hpl ht) ?_
  obtain ⟨v, hσ, ow, ne⟩ := s.sl i _ hi
  generalize hA : A i = Ai at ow ne
  cases ow with
  | fz _ => exact absurd rfl ne
  | @ins ad _ dx fs _ B h1 h2 h3 nB =>
    obtain ⟨v1, Af, a1, a2, aw, a3, a4⟩ := own_atX h2 h3 hf
    have neAf := aw hmu
    have a2' := a2
    generalize hAf : Af = Af' at a2' neAf
    cases a2' with
    | fz _ => exact absurd rfl neAf
    | @ins ad2 _ dx2 fs2 _ B2 g1 g2 g3 nB2 =>
      refine ⟨_, hσ, ad, C, dx, fs, _, rfl, h1, cl, hna, a1, ad2, dx2, fs2, rfl, g1, lookup_none g2 hm, ?_⟩
      refine ha Hf σ H s.fh s.vis _ fun vs W' H' st r => ?_
      have s' := s.step st
      rw [List.append_nil]
      have inA : ∀ b ∈ B, b ∈ A i := fun b hb => by rw [hA]; exact List.mem_cons_of_mem _ hb
      have adA : ad ∈ A i := by rw [hA]; exact List.mem_cons_self
      have live : ∀ b ∈ A i, W' b = none ∧ H' b ≠ none := fun b hb => ⟨(s'.ap i b hb).1, (s'.ap i b hb).2.1⟩
      have same : ∀ b ∈ A i, H' b = H b := fun b hb => by
        have := (s.ap i b hb).2.1
        cases q : H b with
        | none => exact absurd q this
        | some o => exact st.hh _ _ q
      have adAf : ad ∉ Af := fun z => nB (a3 ad z)
      have owf : Own X.K W' H' (.ins C2 fds2) (.ref ad2) Af := a2.move st.ww fun b hb => same b (inA b (a3 b hb))
      refine ⟨by rw [List.length_cons, ← r.length]; exact hn, ad2, W', _, Af, vs, ds, P, rfl, s'.fh, owf, by rw [hAf]; exact neAf, fun b hb => live b (inA b (a3 b hb)), r, hG, fun r d' hp v W2 H2 A2 aft rr => ?_⟩
      have keep : ∀ b, H' b ≠ none → b ∉ Af → H2 b = H' b := fun b hb hn => by
        cases q : H' b with
        | none => exact absurd q hb
        | some o => exact aft.hh b o q hn
      obtain ⟨B', m1, m2, m3⟩ := a4 (Hf' := W2) (H' := H2) (d' := d') (Ag := A2) (st.ww.trans aft.ww) (fun b hb hn => (keep b (live b (inA b hb)).2 hn).trans (same b (inA b hb))) aft.ow (fun b hb => by
        rcases (aft.ap b hb).2.2 with z | z
        · exact .inl z
        · exact .inr fun y => (live b (inA b y)).2 z) (fun _ => aft.ne)
      have adB' : ad ∉ B' := fun z => by
        rcases m3 ad z with y | y
        · exact nB y
        · rcases (aft.ap ad y).2.2 with w | w
          · exact adAf w
          · exact (live ad adA).2 w
      have gad : H2 ad = some (.ins C dx fs) := by rw [keep ad (live ad adA).2 adAf, same ad adA]; exact h1
      refine gq r _ ⟨d', hp, rfl⟩ v H2 W2 _ (s'.after hi hσ (d' := .ins C (putD g d' fds)) (A' := ad :: B') ⟨aft.ww, aft.wh, fun b o h hb => aft.hh b o h fun z => hb (inA b (a3 b z)), aft.kp, aft.fr, .ins gad (by rw [m2]; exact h2) m1 adB', by simp, fun b hb => ?_⟩) rr
      rcases List.mem_cons.mp hb with z | z
      · have hW2 : W2 b = none := by
          rw [z]
          cases q : W2 ad with
          | none => rfl
          | some o => exact absurd (aft.fr ad (by rw [q]; simp) (live ad adA).1) (live ad adA).2
        exact ⟨hW2, by rw [z, gad]; simp, .inl (by rw [z]; exact adA)⟩
      · rcases m3 b z with y | y
        · have hW2 : W2 b = none := by
            cases q : W2 b with
            | none => rfl
            | some o => exact absurd (aft.fr b (by rw [q]; simp) (live b (inA b y)).1) (live b (inA b y)).2
          exact ⟨hW2, fun w => (live b (inA b y)).2 (aft.kp b w), .inl (inA b y)⟩
        · obtain ⟨k1, k2, k3⟩ := aft.ap b y
          exact ⟨k1, k2, k3.imp_left fun z => inA b (a3 b z)⟩⟩
/-- C(), a constructor without arguments -/
theorem jo_make0 {ρ : Rho} (M : MMake X.prog X.w X.K X.mg X.base k x C n G) (hr : Room j X.A) (hG : G (.ins C []) [] P) (hP : ∀ r d', P r d' → r = .non) (hk : k + 1 ≤ j := by decide) (hn : 1 = n := by rfl) (hg : Gl X x := by rfl) (hdb : (x == ("__debug__" : Str)) = false := by decide) :
    JO1 X (.Call (.Name x p) [] [] pos) ρ (fun d => ∃ r, P r d) := ⟨fun W σ H ex hV Q g => by
  obtain ⟨ff, fd, ps, F, hme, hm, hb⟩ := M.ex
  refine .of (pe_make0 hme F (hr.mono hk) hg hm hb .nil pass0 hdb) ?_
  intro y dx hy hdx hne
  have w1 : W y = none := Evl.fresh_back ex hy
  have hup : ∀ b o, H b = some o → upd (upd H dx (.own y)) y (.ins C dx []) b = some o := fun b o h => by
    rw [upd_ne (ne_of_none h hy), upd_ne (ne_of_none h hdx)]; exact h
  refine ⟨hn, y, W, _, [y], [], [], P, rfl, fun b o h => hup b o (ex b o h), .ins upd_same rfl .nil (by simp), by simp, fun b hb' => ?_, .nil, hG, fun r d' hp v W2 H2 A2 aft rr => ?_⟩
  · have e : b = y := by simpa using hb'
    subst e
    exact ⟨w1, by rw [upd_same]; simp⟩
  · have hr0 := hP r d' hp
    subst hr0
    cases rr
    refine ⟨rfl, g d' y W2 H2 A2 ⟨_, hp⟩ ⟨aft.ww, aft.wh, fun b o h => aft.hh b o (hup b o h) fun hb' => ?_, fun b h1 h2 => ?_⟩ aft.ow aft.ne fun b hb' => ?_⟩
    · have e : b = y := by simpa using hb'
      subst e
      rw [hy] at h; cases h
    · exact Evl.fresh_back (fun b o h => hup b o h) (aft.fr b h1 h2)
    · obtain ⟨k1, k2, k3⟩ := aft.ap b hb'
      refine ⟨k1, k2, ?_⟩
      rcases k3 with z | z
      · have e : b = y := by simpa using z
        subst e
        exact hy
      · exact Evl.fresh_back (fun b o h => hup b o h) z⟩
/-- x.f.extend(e), e a frozen list -/
theorem js_extendF {es : List D} (hi : ρ[i]? = some (some (.ow (.ins C fds)))) (hf : fds.lookup f = some (.lst ds)) (h : J X e (fzR ρ) (.lst es)) (hl : ds.length + es.length ≤ sizeLine) (cl : Cls X.K C) (hn : NoAttr X.K C f) (hk : Φ (.nx (ρ.set i (some (.ow (.ins C (putD f (.lst (ds ++ es)) fds))))))) (hM : NoM es := by (repeat (first | exact NoM.nil | exact NoM.map fun _ => rfl | exact NoM.fm fun _ => rfl | refine NoM.cons rfl ?_ | refine NoM.app ?_ ?_))) (hN : X.N[i]? = some x := by rfl) (hv : L2.Vis X.env.scope x := by first | exact Or.inl rfl | exact Or.inr (Or.inl rfl))
    (hd : (x == ("__debug__" : Str)) = false := by decide) (hcd : (x == ("__classdict__" : Str)) = false := by decide) (hb : attributeBase (.Name x p1) f X.env (eval (.Name x p1) X.env) = eval (.Name x p1) X.env := by rfl)
    (hb2 : attributeBase (.Attribute (.Name x p1) f p') "extend" X.env (eval (.Attribute (.Name x p1) f p') X.env) = eval (.Attribute (.Name x p1) f p') X.env := by rfl) (hst : starEach [e] X.env = (false, eval e X.env) :: starEach [] X.env := by rfl)
    (hfew : ((backTo p3 (starEach [e] X.env)).all (fun x => !x.1) && (backToKw p3 (keywordEach [] X.env)).all (fun x => x.1.isSome) && decide ([e].length + ([] : List Keyword).length + (if ([] : List Keyword).isEmpty then 0 else 1) < 30)) = true := by rfl)
    (hline : (p2.endLine == p3.line) = true := by rfl)
    (hs : swapsWith (.Call (.Attribute (.Attribute (.Name x p1) f p') "extend" p2) [e] [] p3) none pos.line X.env = pure false := by rfl) : JS X pin (.Expr (.Call (.Attribute (.Attribute (.Name x p1) f p') "extend" p2) [e] [] p3) pos) ρ Φ := ⟨fun E σ H D hpn ⟨Hf, A, s⟩ k => by
  refine .of (ps_expr (pe_bm PySem.F.plainAttrs_list PySem.F.slot_list_extend PySem.F.type_list_extend mt_extend (pe_fld (pe_var hN hv hd hcd) hb) (pa_cons pe_w pa_nil hst) hb2 hfew hline hst) hs) ?_
  obtain ⟨ad, dx, fs, l, vs, h1, h2, h3, h4, h5, h6, h7, _⟩ := s.lstF hi hf
  refine ⟨_, h1, ad, C, dx, fs, _, rfl, h2, cl, hn, h4, .inl ⟨rfl, _, SqL.of h6⟩, ?_⟩
  refine h Hf σ H s.fh s.vis _ fun y W' H' st r => ?_
  have s' := s.step st
  obtain ⟨ad2, dx2, fs2, l2, vs2, g1, g2, g3, g4, g5, g6, g7, g8⟩ := s'.lstF hi hf
  have e1 : some (some (V.ref ad)) = _ := h1.symm.trans g1
  cases e1
  have e2 := (st.hh _ _ h2).symm.trans g2
  cases e2
  have e3 := h4.symm.trans g4
  cases e3
  cases r with
  | @lst b zs _ hb rz =>
    refine ⟨l, b, vs2, zs, rfl, rfl, g6, st.wh _ _ hb, by rw [← g7.length, ← rz.length]; exact hl, k _ hk _ _ (g8 fun B hB => ⟨B, fun _ q => q, ?_⟩)⟩
    have ap := hB.append (OwnAll.fz rz hM) (fun a _ h => absurd h (by simp))
    rw [List.append_nil] at ap
    exact ap⟩
end
section
variable {X : Cx} {pin : List Nat} {ρ ρ' : RhoS} {Φ : Out → Prop} {e o : Expr} {d : D} {pos p' p1 p2 : Pos} {i : Nat} {x f : Str} {C : Addr} {fds : List (Str × D)} {ds : List D} {tgs : List Expr}
def gFldT (K : PySem.W.Frag) (to : TE) (f : Str) : TG := fun v σ H Q => to σ H fun x H1 => ∃ a C dx fs, x = .ref a ∧ H1 a = some (.ins C dx fs) ∧ Cls K C ∧ NoAttr K C f ∧ fs.length < 1000 ∧ Q σ (upd H1 a (.ins C dx (putF f v fs)))
theorem pg_fldT {to : TE} (ho : PE X o to)
    (ha : ∀ v, assign (.Attribute o f pos) X.env v = (do
      let ov ← holding [v] (eval o X.env)
      standAt pos.atName
      holding [v, ov] (setAttr ov f v)
      release [v, ov] []) := by intro _; rfl) : PG X (.Attribute o f pos) (gFldT X.K to f) := by
  refine ⟨fun pins s σ H v u Q I r h => ?_⟩
  rw [ha]
  refine wpAny_bind (wpAny_holding (thn (ho.run pins s σ H _ I h) fun ov s1 ⟨y, H1, I1, r1, a, C, dx, fs, ea, e1, c, n, l, q1⟩ => ?_))
  subst ea
  obtain rfl : ov = Value.ref a := r1
  refine wpAny_bind (wpAny_standAt (wpAny_bind (wpAny_holding (setattr_ok I1 e1 c n l r fun s3 I3 => ?_))))
  exact wpAny_release ⟨σ, _, I3, q1⟩
theorem StAt.fldH {K : PySem.W.Frag} {E : Ent} {σ : L2.St} {H Hf : Hp} {A : Nat → List Addr} {v y : V} (s : StAt K E ρ σ H Hf A) (hi : ρ[i]? = some (some (.ow (.ins C fds)))) (hσ : σ[i]? = some (some v)) (r : Rep K Hf d y) (hm : mutD d = false) :
    ∃ a dx fs A', v = .ref a ∧ H a = some (.ins C dx fs) ∧ fs.length = fds.length ∧ StAt K E (ρ.set i (some (.ow (.ins C (putD f d fds))))) σ (upd H a (.ins C dx (putF f y fs))) Hf A' := by
  obtain ⟨v', hσ', ow, ne⟩ := s.sl i _ hi
  rw [hσ] at hσ'
  cases hσ'
  generalize hA : A i = Ai at ow ne
  cases ow with
  | fz _ => exact absurd rfl ne
  | @ins a _ dx fs _ B h1 h2 h3 nB =>
    obtain ⟨B', k1, k2⟩ := putD_own (f := f) r hm h2 h3
    refine ⟨a, dx, fs, _, rfl, h1, by have := congrArg List.length h2; simpa using this, s.change (B := a :: B') hi hσ (by rw [hA]; exact List.mem_cons_self) (by simp) (fun b hb => by
      rw [hA]
      rcases List.mem_cons.mp hb with z | z
      · rw [z]; exact List.mem_cons_self
      · exact List.mem_cons_of_mem _ (k1 b z)) (.ins upd_same (putD_names h2) (k2.move (.refl _) fun b hb => upd_ne fun z => nB (by rw [← z]; exact k1 b hb)) fun z => nB (k1 a z))⟩
structure JTg (X : Cx) (pin : List Nat) (tgs : List Expr) (ds : List D) (ρ ρ' : RhoS) : Prop where
  run : ∃ t, PGs X tgs t ∧ ∀ (E : Ent) σ H Hf A vs, E.Pins pin → StAt X.K E ρ σ H Hf A → RepAll X.K Hf ds vs → ∀ Q : L2.St → Hp → Prop, (∀ σ' H' A', StAt X.K E ρ' σ' H' Hf A' → Q σ' H') → t vs σ H Q
theorem jtg_nil : JTg X pin [] [] ρ ρ := ⟨_, pgs_nil, fun E σ H Hf A vs hp s r Q k => by cases r; exact ⟨rfl, k _ _ _ s⟩⟩
theorem jtg_name (h : JTg X pin tgs ds (ρ.set i (some (.fz d))) ρ') (hN : X.N.Nodup) (hi : X.N[i]? = some x := by rfl) (hx : Loc X.env.scope x := by first | exact Or.inl rfl | exact Or.inr rfl) (hp : i ∉ pin := by decide) (hf : X.fn x = true ∨ X.env.scope.names.lookup x = some .local := by first | exact .inl rfl | exact .inr rfl)
    (hs : (assignEach (.Name x pos :: tgs) X.env).map (·.2) = assign (.Name x pos) X.env :: (assignEach tgs X.env).map (·.2) := by rfl) : JTg X pin (.Name x pos :: tgs) (d :: ds) ρ ρ' := by
  obtain ⟨t, pt, ht⟩ := h.run
  refine ⟨_, pgs_cons (pg_name hN hi hx hf) pt hs, fun E σ H Hf A vs hpn s r Q k => ?_⟩
  cases r with
  | cons r rr => exact ⟨_, _, rfl, ht E _ H Hf _ _ hpn (s.setFz r (hpn.none hp)) rr Q k⟩
theorem jtg_fld (h : JTg X pin tgs ds (ρ.set i (some (.ow (.ins C (putD f d fds))))) ρ') (hi : ρ[i]? = some (some (.ow (.ins C fds)))) (cl : Cls X.K C) (hn : NoAttr X.K C f) (hl : fds.length < 1000) (hmt : mutD d = false := by rfl) (hN : X.N[i]? = some x := by rfl) (hv : L2.Vis X.env.scope x := by first | exact Or.inl rfl | exact Or.inr (Or.inl rfl))
    (hd : (x == ("__debug__" : Str)) = false := by decide) (hcd : (x == ("__classdict__" : Str)) = false := by decide)
    (ha : ∀ v, assign (.Attribute (.Name x p1) f pos) X.env v = (do
      let ov ← holding [v] (eval (.Name x p1) X.env)
      standAt pos.atName
      holding [v, ov] (setAttr ov f v)
      release [v, ov] []) := by intro _; rfl)
    (hs : (assignEach (.Attribute (.Name x p1) f pos :: tgs) X.env).map (·.2) = assign (.Attribute (.Name x p1) f pos) X.env :: (assignEach tgs X.env).map (·.2) := by rfl) : JTg X pin (.Attribute (.Name x p1) f pos :: tgs) (d :: ds) ρ ρ' := by
  obtain ⟨t, pt, ht⟩ := h.run
  refine ⟨_, pgs_cons (pg_fldT (pe_var hN hv hd hcd) ha) pt hs, fun E σ H Hf A vs hpn s r Q k => ?_⟩
  cases r with
  | cons r rr =>
    obtain ⟨v, hσ, _⟩ := s.sl i _ hi
    obtain ⟨a, dx, fs, A', rfl, h1, h2, s'⟩ := s.fldH (f := f) hi hσ r hmt
    exact ⟨_, _, rfl, _, hσ, a, C, dx, fs, rfl, h1, cl, hn, by omega, ht E _ _ Hf _ _ hpn s' rr Q k⟩
theorem js_patF {kt : Nat} (h : J X e (fzR ρ) (.tup ds)) (ht : JTg X pin tgs ds ρ ρ') (hk : Φ (.nx ρ')) (hc : X.calm = true := by rfl) (hn : (assignEach tgs X.env).length = ds.length := by rfl) (hst : (assignEach tgs X.env).findIdx? (·.1) = none := by rfl)
    (hs : swapsWithSole [.Tuple tgs kt p1] e pos.line X.env = pure false := by rfl) (hw : swappedStores [.Tuple tgs kt p1] e X.env = pure none := by rfl)
    (h1 : (assignEach [.Tuple tgs kt p1] X.env).map (·.2) = [assign (.Tuple tgs kt p1) X.env] := by rfl) : JS X pin (.Assign [.Tuple tgs kt p1] e pos) ρ Φ := ⟨fun E σ H D hpn ⟨Hf, A, s⟩ k => by
  obtain ⟨t, pt, hr⟩ := ht.run
  refine .of (ps_asg pe_w (pg_tup hc pt hn hst) hs hw h1) (h Hf σ H s.fh s.vis _ fun v W' H' st r => ?_)
  cases r with
  | tup h2 rr => exact ⟨_, _, rfl, (Evl.ex_t st.wh h2), rr.length.symm, hr E σ H' W' A _ hpn (s.step st) rr _ fun σ' H2 A' s' => k _ hk σ' H2 ⟨_, _, s'⟩⟩⟩
end
end Pf

namespace Toy
open PySem PyProof.Rows L2 Pf
section
variable {P : Program} {w : World} {K : PySem.W.Frag} {mg : Str → Option Value} {base : Heap}
abbrev sRow : Stmt := top 66
theorem scRow : FnScope ["cell", "many", "row", "rest", "state", "k"] ["cell", "many"] (defScope sRow) := ⟨rfl, rfl, rfl, by decide +kernel, rfl, by decide +kernel, by decide +kernel⟩
def gRow : List D → (D → Prop) → Prop := fun ds P => ∃ (c : Int) (m : Nat), ds = [.int c, .int m] ∧ m ≤ 10000 ∧ P = fun d => ∃ ns : List Int, d = .lst (ns.map D.int) ∧ ns.length = m ∧ ∀ n ∈ ns, 0 ≤ n ∧ n < 1009
theorem mod1009 (a : Int) : 0 ≤ a % 1009 ∧ a % 1009 < 1009 := by omega
theorem ok_row {f : Addr} {fd : FuncData} (F : Fun K "_law_row" "_law_row" sRow f fd) (T : Bt mg) : FnOk P w K mg base CX0 1 f fd ["cell", "many"] (spP K 2 gRow) := by
  refine fn_pure F scRow (by rintro ds Pd ⟨c, m, rfl, _⟩; rfl) fun cdv A outer s H E ds Pd hr hG => ?_
  obtain ⟨c, m, rfl, hm, rfl⟩ := hG
  have nd := scRow.nd
  -- row = []; rest = 0
  refine jss_cons (js_setN (i := 2) (jn_lst ja_nil) ?_ nd)
  refine jss_cons (js_set (i := 3) j_int ?_ nd)
  -- if abs(cell) >= 10 ** 18: rest = abs(cell)
  refine jss_mid (fun ρ => ∃ r : Int, ρ = [some (.fz (.int c)), some (.fz (.int m)), some (.ow (.lst [])), some (.fz (.int r)), none, none]) (js_if (jt_cm (jb_abs T (ja_cons (jv 0 rfl) ja_nil)) (j_bin j_int j_int (od_powI ⟨by decide, by decide, by decide⟩)) cd_geI) (fun _ => ?_) (fun _ => ?_)) ?_
  · exact jss_cons (js_set (i := 3) (jb_abs T (ja_cons (jv 0 rfl) ja_nil)) (jss_nil ⟨_, rfl, _, rfl⟩) nd)
  · exact jss_nil ⟨_, rfl, _, rfl⟩
  rintro _ ⟨r, rfl⟩
  -- state = int(abs(cell)) % 2147483647
  refine jss_cons (js_set (i := 4) (j_bin (jb_int T (ja_cons (jb_abs T (ja_cons (jv 0 rfl) ja_nil)) ja_nil)) j_int (od_modI (by decide))) ?_ nd)
  -- for k in range(many)
  refine jss_mid (fun ρ => ∃ (r s : Int) (ns : List Int) (o : Option SV), ρ = [some (.fz (.int c)), some (.fz (.int m)), some (.ow (.lst (ns.map D.int))), some (.fz (.int r)), some (.fz (.int s)), o] ∧ ns.length = m ∧ ∀ n ∈ ns, 0 ≤ n ∧ n < 1009)
    (js_range m (i := 5) (fun k ρ => ∃ (r s : Int) (ns : List Int) (o : Option SV), ρ = [some (.fz (.int c)), some (.fz (.int m)), some (.ow (.lst (ns.map D.int))), some (.fz (.int r)), some (.fz (.int s)), o] ∧ ns.length = k ∧ ∀ n ∈ ns, 0 ≤ n ∧ n < 1009) T (jv 1 rfl) (by omega) nd ⟨_, _, [], _, rfl, rfl, by simp⟩ ?_ ?_) ?_
  · rintro k _ hk ⟨r, s, ns, o, rfl, hl, hb⟩
    refine jss_cons (js_set (i := 4) (j_bin (jb_int T (ja_cons (j_bin (j_bin (j_bin (jv 4 rfl) j_int od_addI) j_int (od_mulI cmulR)) (j_bin j_int (jv 5 rfl) (od_mulI cmulL)) od_addI) ja_nil)) j_int (od_modI (by decide))) ?_ nd)
    refine jss_cons (js_if (jt_cm (jv 3 rfl) j_int cd_gtI) (fun _ => ?_) (fun _ => ?_))
    · refine jss_cons (js_append (i := 2) (ds := ns.map D.int) rfl (j_bin (jb_int T (ja_cons (jv 3 rfl) ja_nil)) j_int (od_modI (by decide))) (by rw [List.length_map, hl]; exact Nat.lt_of_lt_of_le (Nat.lt_of_lt_of_le hk hm) (by decide)) ?_)
      refine jss_cons (js_set (i := 3) (j_bin (jv 3 rfl) j_int (od_fdivI ⟨by decide, by decide⟩)) ?_ nd)
      refine jss_nil (jss_nil ⟨_, _, ns ++ [r % 1009], _, by rw [List.map_append]; rfl, by simp [hl], ?_⟩)
      intro n hn
      rcases List.mem_append.mp hn with h | h
      · exact hb n h
      · simp at h; subst h; exact mod1009 _
    · refine jss_cons (js_append (i := 2) (ds := ns.map D.int) rfl (j_bin (jb_int T (ja_cons (j_bin (jv 4 rfl) j_int (od_fdivI ⟨by decide, by decide⟩)) ja_nil)) j_int (od_modI (by decide))) (by rw [List.length_map, hl]; exact Nat.lt_of_lt_of_le (Nat.lt_of_lt_of_le hk hm) (by decide)) ?_)
      refine jss_nil (jss_nil ⟨_, _, ns ++ [_], _, by rw [List.map_append]; rfl, by simp [hl], ?_⟩)
      intro n hn
      rcases List.mem_append.mp hn with h | h
      · exact hb n h
      · simp at h; subst h; exact mod1009 _
  · rintro _ ⟨r, s, ns, o, rfl, hl, hb⟩
    exact ⟨_, rfl, r, s, ns, o, rfl, hl, hb⟩
  rintro _ ⟨r, s, ns, o, rfl, hl, hb⟩
  -- return row
  exact jss_cons (js_ret (jv 2 rfl) ⟨ns, rfl, hl, hb⟩)
end
end Toy

namespace Toy
open PySem PyProof.Rows L2 Pf
section
variable {P : Program} {w : World} {K : PySem.W.Frag} {mg : Str → Option Value} {base : Heap}
abbrev sNumbers : Stmt := top 67
theorem scNumbers : FnScope ["script", "many", "cells", "each", "numbers", "cell", "number"] ["script", "many"] (defScope sNumbers) := ⟨rfl, rfl, rfl, by decide +kernel, rfl, by decide +kernel, by decide +kernel⟩
/-- so many numbers below 1009 -/
def isNums (m : Nat) (d : D) : Prop := ∃ ns : List Int, d = .lst (ns.map D.int) ∧ ns.length = m ∧ ∀ n ∈ ns, 0 ≤ n ∧ n < 1009
def gNumbers : List D → (D → Prop) → Prop := fun ds P => ∃ (ns : List Int) (m : Nat), ds = [.scr ns, .int m] ∧ ns.length ≤ 63 ∧ m ≤ 1000 ∧ P = isNums m
def lenAt (i m : Nat) (ρ : RhoS) : Nat := match ρ[i]? with
  | some (some (.ow (.lst ds))) => m - ds.length
  | _ => 0
theorem cut_len_le {α : Type} (xs : List α) (a b : Option Int) : (cut xs a b).length ≤ xs.length := by
  unfold cut
  rw [List.length_take, List.length_drop]
  omega
theorem cut_to {α : Type} (xs : List α) (m : Nat) (h : m ≤ xs.length) : (cut xs none (some (m : Int))).length = m ∧ ∀ x ∈ cut xs none (some (m : Int)), x ∈ xs := by
  unfold cut
  rw [HT.sIx_none, HT.sIx_nat]
  constructor
  · rw [List.length_take, List.length_drop]; omega
  · intro x hx
    exact List.mem_of_mem_drop (List.mem_of_mem_take hx)
theorem map_cut (ns : List Int) (a b : Option Int) : cut (ns.map D.int) a b = (cut ns a b).map D.int := by
  unfold cut
  rw [List.length_map, ← List.map_drop, ← List.map_take]
theorem ok_numbers {f : Addr} {fd : FuncData} (F : Fun K "_law_numbers" "_law_numbers" sNumbers f fd) (T : Bt mg) (cR : PFn P w K mg base 1 "_law_row" 2 gRow) : FnOk P w K mg base CX0 2 f fd ["script", "many"] (spP K 2 gNumbers) := by
  refine fn_pure F scNumbers (by rintro ds Pd ⟨c, m, rfl, _⟩; rfl) fun cdv A outer s H E ds Pd hr hG => ?_
  obtain ⟨sc, m, rfl, hsc, hm, rfl⟩ := hG
  have nd := scNumbers.nd
  -- cells = script[:63]
  refine jss_cons (js_set (i := 2) (j_sl (jv 0 rfl) jo_none (jo_some j_int) sld_X) ?_ nd)
  have hcl : (cut sc none (some 63)).length ≤ 63 := Nat.le_trans (cut_len_le _ _ _) hsc
  generalize cut sc none (some 63) = cells at hcl
  -- each = 1 + many // max(1, len(cells))
  refine jss_cons (js_set (i := 3) (j_bin j_int (j_bin (jv 1 rfl) (jb_max2 T (ja_cons j_int (ja_cons (jb_len T (ja_cons (jv 2 rfl) ja_nil) rfl) ja_nil))) (od_fdivI ⟨?_, ?_⟩)) od_addI) ?_ nd)
  · split <;> omega
  · rw [List.length_map]; split <;> omega
  obtain ⟨e, he, he2⟩ : ∃ e : Nat, (1 + (m : Int) / (if ((cells.map D.int).length : Int) > 1 then ((cells.map D.int).length : Int) else 1)) = (e : Int) ∧ e ≤ 1 + m := by
    have h1 : (0 : Int) ≤ (m : Int) / (if ((cells.map D.int).length : Int) > 1 then ((cells.map D.int).length : Int) else 1) := Int.ediv_nonneg (by omega) (by split <;> omega)
    have h2 : (m : Int) / (if ((cells.map D.int).length : Int) > 1 then ((cells.map D.int).length : Int) else 1) ≤ m := Int.ediv_le_self _ (by omega)
    exact ⟨(1 + (m : Int) / (if ((cells.map D.int).length : Int) > 1 then ((cells.map D.int).length : Int) else 1)).toNat, by omega, by omega⟩
  rw [he]
  -- numbers = []
  refine jss_cons (js_setN (i := 4) (jn_lst ja_nil) ?_ nd)
  -- for cell in cells
  refine jss_mid (fun ρ => ∃ (xs : List Int) (o1 o2 : Option SV), ρ = [some (.fz (.scr sc)), some (.fz (.int m)), some (.fz (.lst (cells.map D.int))), some (.fz (.int e)), some (.ow (.lst (xs.map D.int))), o1, o2] ∧ xs.length ≤ 63 * 1001 ∧ ∀ n ∈ xs, 0 ≤ n ∧ n < 1009)
    (js_each (i := 5) cells D.int (fun k ρ => ∃ (xs : List Int) (o1 o2 : Option SV), ρ = [some (.fz (.scr sc)), some (.fz (.int m)), some (.fz (.lst (cells.map D.int))), some (.fz (.int e)), some (.ow (.lst (xs.map D.int))), o1, o2] ∧ xs.length ≤ k * 1001 ∧ ∀ n ∈ xs, 0 ≤ n ∧ n < 1009) (ji_list (jv 2 rfl)) nd ⟨[], _, _, rfl, by simp, by simp⟩ ?_ ?_) ?_
  · rintro k c _ hk ⟨xs, o1, o2, rfl, hl, hb⟩
    have hk' : k < cells.length := (List.getElem?_eq_some_iff.mp hk).1
    refine jss_cons (js_forP (pat := .nm 6) (Pd := fun ds => ∃ ys : List Int, ds = ys.map D.int ∧ ys.length = e ∧ ∀ n ∈ ys, 0 ≤ n ∧ n < 1009)
      (fun ds j ρ => ∃ (zs : List Int) (o2 : Option SV), ρ = [some (.fz (.scr sc)), some (.fz (.int m)), some (.fz (.lst (cells.map D.int))), some (.fz (.int e)), some (.ow (.lst (zs.map D.int))), some (.fz (.int c)), o2] ∧ zs.length = xs.length + j ∧ ∀ n ∈ zs, 0 ≤ n ∧ n < 1009)
      (jip_call (jp_call cR hr (ja_cons (jv 5 rfl) (ja_cons (jv 3 rfl) ja_nil)) ⟨c, e, rfl, by omega, rfl⟩) (by rintro d ⟨ns, rfl, h1, h2⟩; exact ⟨_, rfl, ns, rfl, h1, h2⟩)) (pg_name nd rfl (Or.inl rfl)) ?_ ?_ ?_ PassesOwn.never)
    · rintro ds ⟨ys, rfl, hy, hy2⟩
      exact ⟨xs, _, rfl, by simp, hb⟩
    · rintro ds ⟨ys, rfl, hy, hy2⟩ j d ρ hd ⟨zs, o2', rfl, hz, hz2⟩
      obtain ⟨y, hy3, rfl⟩ := map_get hd
      have hj : j < ys.length := (List.getElem?_eq_some_iff.mp hy3).1
      refine ⟨_, rfl, ?_⟩
      refine jss_cons (js_append (i := 4) (ds := zs.map D.int) rfl (jv 6 rfl) (by rw [List.length_map, hz]; exact Nat.lt_of_lt_of_le (by omega : _ < 100000) (by decide)) ?_)
      refine jss_nil ⟨zs ++ [y], _, by rw [List.map_append]; rfl, by simp [hz]; omega, ?_⟩
      intro n hn
      rcases List.mem_append.mp hn with h | h
      · exact hz2 n h
      · simp at h; subst h; exact hy2 _ (List.mem_of_getElem? hy3)
    · rintro ds ⟨ys, rfl, hy, hy2⟩ ρ ⟨zs, o2', rfl, hz, hz2⟩
      rw [List.length_map] at hz
      exact jss_nil ⟨zs, _, _, rfl, by omega, hz2⟩
  · rintro _ ⟨xs, o1, o2, rfl, hl, hb⟩
    exact ⟨_, rfl, xs, o1, o2, rfl, by omega, hb⟩
  rintro _ ⟨xs, o1, o2, rfl, hl, hb⟩
  -- while len(numbers) < many
  refine jss_mid (fun ρ => ∃ (xs : List Int), ρ = [some (.fz (.scr sc)), some (.fz (.int m)), some (.fz (.lst (cells.map D.int))), some (.fz (.int e)), some (.ow (.lst (xs.map D.int))), o1, o2] ∧ m ≤ xs.length ∧ ∀ n ∈ xs, 0 ≤ n ∧ n < 1009)
    (js_while (fun ρ => ∃ (xs : List Int), ρ = [some (.fz (.scr sc)), some (.fz (.int m)), some (.fz (.lst (cells.map D.int))), some (.fz (.int e)), some (.ow (.lst (xs.map D.int))), o1, o2] ∧ xs.length ≤ 63 * 1001 + m ∧ ∀ n ∈ xs, 0 ≤ n ∧ n < 1009) (lenAt 4 m) ⟨xs, rfl, by omega, hb⟩ ?_ PassesOwn.never) ?_
  · rintro _ ⟨xs, rfl, hl, hb⟩
    refine ⟨_, jt_cm (jb_len T (ja_cons (jv 4 rfl) ja_nil) rfl) (jv 1 rfl) cd_ltI, fun ht => ?_, fun ht => ?_⟩
    · have ht' : xs.length < m := by simpa using ht
      refine jss_cons (js_append (i := 4) (ds := xs.map D.int) rfl j_int (by rw [List.length_map]; exact Nat.lt_of_lt_of_le (by omega : _ < 100000) (by decide)) ?_)
      refine jss_nil ⟨⟨xs ++ [0], by rw [List.map_append]; rfl, by simp; omega, ?_⟩, ?_⟩
      · intro n hn
        rcases List.mem_append.mp hn with h | h
        · exact hb n h
        · simp at h; subst h; omega
      · show lenAt 4 m [_, _, _, _, some (.ow (.lst (xs.map D.int ++ [D.int 0]))), _, _] < lenAt 4 m [_, _, _, _, some (.ow (.lst (xs.map D.int))), _, _]
        simp [lenAt]; omega
    · have ht' : m ≤ xs.length := by simpa using ht
      exact ⟨_, rfl, xs, rfl, ht', hb⟩
  rintro _ ⟨xs, rfl, hl, hb⟩
  -- return numbers[:many]
  refine jss_cons (js_ret (j_sl (jv 4 rfl) jo_none (jo_some (jv 1 rfl)) sld_L) ⟨cut xs none (some (m : Int)), ?_, (cut_to xs m hl).1, fun n hn => hb n ((cut_to xs m hl).2 n hn)⟩)
  rw [map_cut]
end
end Toy

namespace Toy
open PySem PyProof.Rows L2 Pf
section
variable {P : Program} {w : World} {K : PySem.W.Frag} {mg : Str → Option Value} {base : Heap}
structure Gb (mg : Str → Option Value) : Prop where
  nm : ∃ t, mg "NAME_SIGNS" = some (.str "abcdefghijklmnopqrstuvwxyz0123456789" t)
  ky : ∃ t, mg "KEY_SIGNS" = some (.str "abcdefghijklmnopqrstuvwxyz0123456789-" t)
  gm : ∃ t, mg "GREATEST_MOMENT" = some (.int 1000000000 t)
  gc : ∃ t, mg "GREATEST_COST" = some (.int 1000 t)
def prt : D → Bool
  | .str z => decide (z.length ≤ 2000)
  | .int _ => true
  | .non => true
  | _ => false
theorem part_cases {d : D} (h : prt d = true) : (∃ z : Str, d = .str z ∧ z.length ≤ 2000) ∨ (∃ i, d = .int i) ∨ d = .non := by
  cases d with
  | str z => exact .inl ⟨z, rfl, by simpa [prt] using h⟩
  | int i => exact .inr (.inl ⟨i, rfl⟩)
  | non => exact .inr (.inr rfl)
  | _ => cases h
theorem prt_of {d : D} (h : part d = true) : prt d = true := by
  cases d <;> first | exact h | rfl
def OkP (es : List D) : Prop := es.all prt = true ∧ es.length ≤ 1100 ∧ ((∃ w r, es = .str w :: r) ∨ es.length < 3)
theorem okP_of {es : List D} (h : OkE es) : OkP es := ⟨List.all_eq_true.mpr fun d hd => prt_of (List.all_eq_true.mp h.1 d hd), by have := h.2.1; omega, .inl h.2.2⟩
abbrev sName : Stmt := top 9
theorem scName : FnScope ["text", "sign"] ["text"] (defScope sName) := ⟨rfl, rfl, rfl, by decide +kernel, rfl, by decide +kernel, by decide +kernel⟩
def gName : List D → (D → Prop) → Prop := fun ds P => ∃ d, ds = [d] ∧ prt d = true ∧ P = fun r => r = .bl (nmD d)
theorem ok_name {f : Addr} {fd : FuncData} (F : Fun K "is_name" "is_name" sName f fd) (T : Bt mg) (G : Gb mg) : FnOk P w K mg base CX0 1 f fd ["text"] (spP K 1 gName) := by
  refine fn_pure F scName (by rintro ds Pd ⟨_, rfl, _⟩; rfl) fun cdv A outer s H E ds Pd hr hG => ?_
  obtain ⟨d, rfl, hp, rfl⟩ := hG
  have nd := scName.nd
  rcases part_cases hp with ⟨z, rfl, hz⟩ | ⟨i, rfl⟩ | rfl
  · refine jss_cons (js_ret (J.to (j_and (jb_isi (b := true) T (ja_cons (jv 0 rfl) (ja_cons (j_ty (T := "str") T.str (by decide +kernel)) ja_nil)) rfl (by rfl)) (fun _ => j_and (J.to (j_ch j_int (jb_len T (ja_cons (jv 0 rfl) ja_nil) (lenS (le_size (by omega)))) j_int cd_leI cd_leI) (d' := .bl (decide (1 ≤ z.length) && decide (z.length ≤ 12))) ?_) (fun _ => j_one (J.to (jb_all T (bs := z.cps.toList.map nmSign) (ja_cons (J.to (j_lcM (own := [("sign", 1)]) (i := 1) z.cps.toList (fun c : Nat => D.str ⟨#[c]⟩) (fun c => D.bl (nmSign c)) (ji_str (jv 0 rfl)) (blkOk_by (N := ["text", "sign"]) (sc := defScope sName) (by decide +kernel)) (fun _ _ _ _ _ => pg_name nd rfl (Or.inl rfl)) (by rw [len_of]; exact lt_size (by omega)) (fun c hc s H C cl fp => J.to (j_cm (jv 1 rfl) (j_gS G.nm) cd_inSign) (congrArg D.bl (nm_mem c))) nd) (by rw [List.map_map]; rfl)) ja_nil)) (d' := .bl (z.cps.toList.all nmSign)) (by rw [List.all_map]; rfl))))) rfl) rfl)
    exact congrArg D.bl (by congr 1 <;> exact decide_eq_decide.mpr (by omega))
  · exact jss_cons (js_ret (j_andFa (jb_isi T (ja_cons (jv 0 rfl) (ja_cons (j_ty (T := "str") T.str (by decide +kernel)) ja_nil)) rfl (by rfl))) rfl)
  · exact jss_cons (js_ret (j_andFa (jb_isi T (ja_cons (jv 0 rfl) (ja_cons (j_ty (T := "str") T.str (by decide +kernel)) ja_nil)) rfl (by rfl))) rfl)
abbrev sKey : Stmt := top 10
theorem scKey : FnScope ["text", "sign"] ["text"] (defScope sKey) := ⟨rfl, rfl, rfl, by decide +kernel, rfl, by decide +kernel, by decide +kernel⟩
def gKey : List D → (D → Prop) → Prop := fun ds P => ∃ d, ds = [d] ∧ prt d = true ∧ P = fun r => r = .bl (kyD d)
theorem ok_key {f : Addr} {fd : FuncData} (F : Fun K "is_key" "is_key" sKey f fd) (T : Bt mg) (G : Gb mg) : FnOk P w K mg base CX0 1 f fd ["text"] (spP K 1 gKey) := by
  refine fn_pure F scKey (by rintro ds Pd ⟨_, rfl, _⟩; rfl) fun cdv A outer s H E ds Pd hr hG => ?_
  obtain ⟨d, rfl, hp, rfl⟩ := hG
  have nd := scKey.nd
  rcases part_cases hp with ⟨z, rfl, hz⟩ | ⟨i, rfl⟩ | rfl
  · refine jss_cons (js_ret (J.to (j_and (jb_isi (b := true) T (ja_cons (jv 0 rfl) (ja_cons (j_ty (T := "str") T.str (by decide +kernel)) ja_nil)) rfl (by rfl)) (fun _ => j_and (J.to (j_ch j_int (jb_len T (ja_cons (jv 0 rfl) ja_nil) (lenS (le_size (by omega)))) j_int cd_leI cd_leI) (d' := .bl (decide (1 ≤ z.length) && decide (z.length ≤ 20))) ?_) (fun _ => j_one (J.to (jb_all T (bs := z.cps.toList.map kySign) (ja_cons (J.to (j_lcM (own := [("sign", 1)]) (i := 1) z.cps.toList (fun c : Nat => D.str ⟨#[c]⟩) (fun c => D.bl (kySign c)) (ji_str (jv 0 rfl)) (blkOk_by (N := ["text", "sign"]) (sc := defScope sKey) (by decide +kernel)) (fun _ _ _ _ _ => pg_name nd rfl (Or.inl rfl)) (by rw [len_of]; exact lt_size (by omega)) (fun c hc s H C cl fp => J.to (j_cm (jv 1 rfl) (j_gS G.ky) cd_inSign) (congrArg D.bl (ky_mem c))) nd) (by rw [List.map_map]; rfl)) ja_nil)) (d' := .bl (z.cps.toList.all kySign)) (by rw [List.all_map]; rfl))))) rfl) rfl)
    exact congrArg D.bl (by congr 1 <;> exact decide_eq_decide.mpr (by omega))
  · exact jss_cons (js_ret (j_andFa (jb_isi T (ja_cons (jv 0 rfl) (ja_cons (j_ty (T := "str") T.str (by decide +kernel)) ja_nil)) rfl (by rfl))) rfl)
  · exact jss_cons (js_ret (j_andFa (jb_isi T (ja_cons (jv 0 rfl) (ja_cons (j_ty (T := "str") T.str (by decide +kernel)) ja_nil)) rfl (by rfl))) rfl)
abbrev sIn : Stmt := top 11
theorem scIn : FnScope ["number", "least", "greatest"] ["number", "least", "greatest"] (defScope sIn) := ⟨rfl, rfl, rfl, by decide +kernel, rfl, by decide +kernel, by decide +kernel⟩
def gIn : List D → (D → Prop) → Prop := fun ds P => ∃ d lo hi, ds = [d, .int lo, .int hi] ∧ prt d = true ∧ P = fun r => r = .bl (inD lo hi d)
theorem ok_in {f : Addr} {fd : FuncData} (F : Fun K "is_within" "is_within" sIn f fd) (T : Bt mg) : FnOk P w K mg base CX0 1 f fd ["number", "least", "greatest"] (spP K 3 gIn) := by
  refine fn_pure F scIn (by rintro ds Pd ⟨_, _, _, rfl, _⟩; rfl) fun cdv A outer s H E ds Pd hr hG => ?_
  obtain ⟨d, lo, hi, rfl, hp, rfl⟩ := hG
  rcases part_cases hp with ⟨z, rfl, hz⟩ | ⟨i, rfl⟩ | rfl
  · exact jss_cons (js_ret (j_andFa (jb_isi T (ja_cons (jv 0 rfl) (ja_cons (j_ty (T := "int") T.int (by decide +kernel)) ja_nil)) rfl (by rfl))) rfl)
  · exact jss_cons (js_ret (J.to (j_and (jb_isi (b := true) T (ja_cons (jv 0 rfl) (ja_cons (j_ty (T := "int") T.int (by decide +kernel)) ja_nil)) rfl (by rfl)) (fun _ => j_one (j_ch (jv 1 rfl) (jv 0 rfl) (jv 2 rfl) cd_leI cd_leI))) rfl) rfl)
  · exact jss_cons (js_ret (j_andFa (jb_isi T (ja_cons (jv 0 rfl) (ja_cons (j_ty (T := "int") T.int (by decide +kernel)) ja_nil)) rfl (by rfl))) rfl)
abbrev sMo : Stmt := top 12
theorem scMo : FnScope ["moment"] ["moment"] (defScope sMo) := ⟨rfl, rfl, rfl, by decide +kernel, rfl, by decide +kernel, by decide +kernel⟩
def gMo : List D → (D → Prop) → Prop := fun ds P => ∃ d, ds = [d] ∧ prt d = true ∧ P = fun r => r = .bl (inD 0 1000000000 d)
theorem ok_mo {f : Addr} {fd : FuncData} (F : Fun K "is_moment" "is_moment" sMo f fd) (G : Gb mg) (cI : PFn P w K mg base 1 "is_within" 3 gIn) : FnOk P w K mg base CX0 2 f fd ["moment"] (spP K 1 gMo) := by
  refine fn_pure F scMo (by rintro ds Pd ⟨_, rfl, _⟩; rfl) fun cdv A outer s H E ds Pd hr hG => ?_
  obtain ⟨d, rfl, hp, rfl⟩ := hG
  exact jss_cons (js_ret (j_call cI hr (ja_cons (jv 0 rfl) (ja_cons j_int (ja_cons (j_gI G.gm) ja_nil))) ⟨d, 0, 1000000000, rfl, hp, rfl⟩ (fun _ h => h)) rfl)
abbrev sRq : Stmt := top 13
theorem scRq : FnScope ["key", "group", "cost"] ["key", "group", "cost"] (defScope sRq) := ⟨rfl, rfl, rfl, by decide +kernel, rfl, by decide +kernel, by decide +kernel⟩
def gRq : List D → (D → Prop) → Prop := fun ds P => ∃ a b c, ds = [a, b, c] ∧ prt a = true ∧ prt b = true ∧ prt c = true ∧ P = fun r => r = .bl (kyD a && (nmD b && inD 1 1000 c))
theorem ok_rq {f : Addr} {fd : FuncData} (F : Fun K "is_request" "is_request" sRq f fd) (G : Gb mg) (cN : PFn P w K mg base 1 "is_name" 1 gName) (cK : PFn P w K mg base 1 "is_key" 1 gKey) (cI : PFn P w K mg base 1 "is_within" 3 gIn) : FnOk P w K mg base CX0 2 f fd ["key", "group", "cost"] (spP K 3 gRq) := by
  refine fn_pure F scRq (by rintro ds Pd ⟨_, _, _, rfl, _⟩; rfl) fun cdv A outer s H E ds Pd hr hG => ?_
  obtain ⟨a, b, c, rfl, ha, hb, hc, rfl⟩ := hG
  exact jss_cons (js_ret (j_and (j_call cK hr (ja_cons (jv 0 rfl) ja_nil) ⟨a, rfl, ha, rfl⟩ (fun _ h => h)) (fun _ => j_and (j_call cN hr (ja_cons (jv 1 rfl) ja_nil) ⟨b, rfl, hb, rfl⟩ (fun _ h => h)) (fun _ => j_one (j_call cI hr (ja_cons (jv 2 rfl) (ja_cons j_int (ja_cons (j_gI G.gc) ja_nil))) ⟨c, 1, 1000, rfl, hc, rfl⟩ (fun _ h => h))))) rfl)
abbrev sEnt : Stmt := top 14
theorem scEnt : FnScope ["entry"] ["entry"] (defScope sEnt) := ⟨rfl, rfl, rfl, by decide +kernel, rfl, by decide +kernel, by decide +kernel⟩
def gEnt : List D → (D → Prop) → Prop := fun ds P => ∃ es, ds = [.tup es] ∧ OkP es ∧ P = fun r => r = .bl (entD es)
theorem entD_no {es : List D} (h5 : es.length ≠ 5) (h3 : es.length ≠ 3) : entD es = false := by
  unfold entD
  split
  · exact absurd rfl h5
  · exact absurd rfl h3
  · rfl
theorem ok_ent {f : Addr} {fd : FuncData} (F : Fun K "is_entry" "is_entry" sEnt f fd) (T : Bt mg) (cK : PFn P w K mg base 1 "is_key" 1 gKey) (cM : PFn P w K mg base 2 "is_moment" 1 gMo) (cR : PFn P w K mg base 2 "is_request" 3 gRq) : FnOk P w K mg base CX0 3 f fd ["entry"] (spP K 1 gEnt) := by
  refine fn_pure F scEnt (by rintro ds Pd ⟨_, rfl, _⟩; rfl) fun cdv A outer s H E ds Pd hr hG => ?_
  obtain ⟨es, rfl, ⟨hp, hl, hfst⟩, rfl⟩ := hG
  by_cases h5 : es.length = 5
  · obtain ⟨z, r, rfl⟩ : ∃ w r, es = .str w :: r := by
      rcases hfst with h | h
      · exact h
      · omega
    match r, h5 with
    | [a, b, c, d], _ =>
      simp only [List.all_cons, Bool.and_eq_true] at hp
      refine jss_cons (js_if (jt_w (jw_and (jt_cm (jb_len T (ja_cons (jv 0 rfl) ja_nil) rfl) j_int cd_eqI) (fun _ => jw_and1 (jt_cm (j_ix (jv 0 rfl) j_int (ixd_T rfl)) j_str cd_eqS)))) (fun h => ?_) (fun h => jss_nil ?_))
      · have hz : z = "ask" := by simpa using h
        exact jss_cons (js_ret (J.to (j_and (j_call cR hr (ja_cons (j_ix (jv 0 rfl) j_int (ixd_T rfl)) (ja_cons (j_ix (jv 0 rfl) j_int (ixd_T rfl)) (ja_cons (j_ix (jv 0 rfl) j_int (ixd_T rfl)) ja_nil))) ⟨a, b, c, rfl, hp.2.1, hp.2.2.1, hp.2.2.2.1, rfl⟩ (fun _ h => h)) (fun _ => j_one (j_call cM hr (ja_cons (j_ix (jv 0 rfl) j_int (ixd_T rfl)) ja_nil) ⟨d, rfl, hp.2.2.2.2.1, rfl⟩ (fun _ h => h)))) (by simp [entD, hz])) rfl)
      · have hz : z ≠ "ask" := by simpa using h
        exact jss_cons (js_ret (J.to (j_andFa (J.to (j_cm (jb_len T (ja_cons (jv 0 rfl) ja_nil) rfl) j_int cd_eqI) (d' := .bl false) rfl)) (by simp [entD, hz])) rfl)
  · by_cases h3 : es.length = 3
    · obtain ⟨z, r, rfl⟩ : ∃ w r, es = .str w :: r := by
        rcases hfst with h | h
        · exact h
        · omega
      match r, h3 with
      | [a, b], _ =>
        simp only [List.all_cons, Bool.and_eq_true] at hp
        refine jss_cons (js_ifF (JT.to (jt_w (jw_and (t := false) (u := false) (JT.to (jt_cm (jb_len T (ja_cons (jv 0 rfl) ja_nil) rfl) j_int cd_eqI) rfl) (fun h => absurd h (by decide)))) rfl) (jss_nil ?_))
        refine jss_cons (js_ret (j_and (J.to (j_cm (jb_len T (ja_cons (jv 0 rfl) ja_nil) rfl) j_int cd_eqI) (d' := .bl true) rfl) (fun _ => j_and (j_cm (j_ix (jv 0 rfl) j_int (ixd_T rfl)) j_str cd_eqS) (fun _ => j_and (j_call cK hr (ja_cons (j_ix (jv 0 rfl) j_int (ixd_T rfl)) ja_nil) ⟨a, rfl, hp.2.1, rfl⟩ (fun _ h => h)) (fun _ => j_one (j_call cM hr (ja_cons (j_ix (jv 0 rfl) j_int (ixd_T rfl)) ja_nil) ⟨b, rfl, hp.2.2.1, rfl⟩ (fun _ h => h)))))) rfl)
    · have hn5 : decide ((es.length : Int) = 5) = false := decide_eq_false (by omega)
      have hn3 : decide ((es.length : Int) = 3) = false := decide_eq_false (by omega)
      refine jss_cons (js_ifF (JT.to (jt_w (jw_and (t := false) (u := false) (JT.to (jt_cm (jb_len T (ja_cons (jv 0 rfl) ja_nil) rfl) j_int cd_eqI) hn5) (fun h => absurd h (by decide)))) rfl) (jss_nil ?_))
      exact jss_cons (js_ret (J.to (j_andFa (J.to (j_cm (jb_len T (ja_cons (jv 0 rfl) ja_nil) rfl) j_int cd_eqI) (congrArg D.bl hn3))) (by rw [entD_no h5 h3])) rfl)
end
end Toy

namespace Toy
open PySem PyProof.Rows L2 Pf
section
variable {P : Program} {w : World} {K : PySem.W.Frag} {mg : Str → Option Value} {base : Heap}
theorem kyD_str {d : D} (h : kyD d = true) : ∃ z, d = .str z ∧ isKy z = true := by
  cases d with
  | str z => exact ⟨z, rfl, h⟩
  | _ => cases h
theorem nmD_str {d : D} (h : nmD d = true) : ∃ z, d = .str z ∧ isNm z = true := by
  cases d with
  | str z => exact ⟨z, rfl, h⟩
  | _ => cases h
theorem inD_int {lo hi : Int} {d : D} (h : inD lo hi d = true) : ∃ i, d = .int i ∧ lo ≤ i ∧ i ≤ hi := by
  cases d with
  | int i => exact ⟨i, rfl, by simpa [inD] using h⟩
  | _ => cases h
theorem ent_shape {es : List D} (h : entD es = true) : (∃ k g c m, es = [.str "ask", .str k, .str g, .int c, .int m] ∧ isKy k = true ∧ isNm g = true ∧ 1 ≤ c ∧ c ≤ 1000 ∧ 0 ≤ m ∧ m ≤ 1000000000) ∨ ∃ k m, es = [.str "release", .str k, .int m] ∧ isKy k = true ∧ 0 ≤ m ∧ m ≤ 1000000000 := by
  unfold entD at h
  split at h
  · simp only [Bool.and_eq_true, decide_eq_true_eq] at h
    obtain ⟨rfl, ⟨h1, h2, h3⟩, h4⟩ := h
    obtain ⟨k, rfl, hk⟩ := kyD_str h1
    obtain ⟨g, rfl, hg⟩ := nmD_str h2
    obtain ⟨c, rfl, hc⟩ := inD_int h3
    obtain ⟨m, rfl, hm⟩ := inD_int h4
    exact .inl ⟨k, g, c, m, rfl, hk, hg, hc.1, hc.2, hm.1, hm.2⟩
  · simp only [Bool.and_eq_true, decide_eq_true_eq] at h
    obtain ⟨rfl, h1, h4⟩ := h
    obtain ⟨k, rfl, hk⟩ := kyD_str h1
    obtain ⟨m, rfl, hm⟩ := inD_int h4
    exact .inr ⟨k, m, rfl, hk, hm.1, hm.2⟩
  · cases h
end
end Toy

namespace Toy
open PySem PyProof.Rows L2 Pf
section
variable {P : Program} {w : World} {K : PySem.W.Frag} {mg : Str → Option Value} {base : Heap}
theorem getD_in {ns : List Int} (hb : ∀ n ∈ ns, 0 ≤ n ∧ n < 1009) (i : Nat) : 0 ≤ ns.getD i 0 ∧ ns.getD i 0 < 1009 := by
  rw [List.getD_eq_getElem?_getD]
  cases e : ns[i]? with
  | none => exact ⟨by decide, by decide⟩
  | some n => exact hb n (List.mem_of_getElem? e)
theorem ky_len {z : Str} (h : isKy z = true) : z.length ≤ 20 := by
  unfold isKy at h
  simp only [Bool.and_eq_true, decide_eq_true_eq] at h
  exact h.1.2
theorem nm_len {z : Str} (h : isNm z = true) : z.length ≤ 12 := by
  unfold isNm at h
  simp only [Bool.and_eq_true, decide_eq_true_eq] at h
  exact h.1.2
theorem ok_askE {k g : Str} {c m : Int} (hk : isKy k = true) (hg : isNm g = true) : OkE [.str "ask", .str k, .str g, .int c, .int m] := by
  refine ⟨?_, by show 5 ≤ 100; decide, _, _, rfl⟩
  have h1 := ky_len hk
  have h2 := nm_len hg
  simp [part, show ("ask" : Str).length ≤ 2000 from by decide +kernel, show k.length ≤ 2000 by omega, show g.length ≤ 2000 by omega]
theorem ok_relE {k : Str} {m : Int} (hk : isKy k = true) : OkE [.str "release", .str k, .int m] := by
  refine ⟨?_, by show 3 ≤ 100; decide, _, _, rfl⟩
  have h1 := ky_len hk
  simp [part, show ("release" : Str).length ≤ 2000 from by decide +kernel, show k.length ≤ 2000 by omega]
end
end Toy

namespace Toy
open PySem PyProof.Rows L2 Pf
open PySem.NumText (AllDigits digitsVal)
section
variable {P : Program} {w : World} {K : PySem.W.Frag} {mg : Str → Option Value} {base : Heap}
def ptS : D → Str
  | .str z => z
  | .int i => ((toString i : String) : Str)
  | _ => ""
def wds (es : List D) : List Str := es.map ptS
def lnE (es : List D) : Str := Txt.join " " (wds es)
theorem kySign_dig {c : Nat} (h : isDg c = true) : kySign c = true := by
  unfold isDg at h
  unfold kySign nmSign
  simp only [Bool.and_eq_true, Bool.or_eq_true, decide_eq_true_eq] at h ⊢
  omega
theorem num_word {i : Int} (h0 : 0 ≤ i) (h1 : i ≤ 1000000000) : (ptS (.int i)).length ≤ 20 ∧ (ptS (.int i)).cps.toList.all kySign = true ∧ i.natAbs.log2 < 1920 ∧ pNum (ptS (.int i)).cps.toList 10 = some i.toNat := by
  obtain ⟨n, rfl⟩ : ∃ n : Nat, i = (n : Int) := ⟨i.toNat, by omega⟩
  have hn : n < 10 ^ 10 := by omega
  have hl := numS_le (n := n) (k := 10) (by decide) hn
  refine ⟨by rw [TL.len_tl]; exact Nat.le_trans hl (by decide), ?_, ?_, ?_⟩
  · refine List.all_eq_true.mpr fun c hc => kySign_dig ?_
    have := numS_dig n c hc
    unfold isDg
    rw [Bool.and_eq_true, decide_eq_true_iff, decide_eq_true_iff]
    exact this
  · rw [Int.natAbs_natCast]
    rcases Nat.eq_zero_or_pos n with h | h
    · rw [h]; decide
    · exact (Nat.log2_lt (by omega)).mpr (Nat.lt_of_lt_of_le (by omega : n < 2 ^ 34) (Nat.pow_le_pow_right (by decide) (by decide)))
  · rw [Int.toNat_natCast]
    exact pNum_num (by decide) hn
theorem num7 {i : Int} (h0 : 0 ≤ i) (h1 : i ≤ 1000) : pNum (ptS (.int i)).cps.toList 7 = some i.toNat := by
  obtain ⟨n, rfl⟩ : ∃ n : Nat, i = (n : Int) := ⟨i.toNat, by omega⟩
  rw [Int.toNat_natCast]
  exact pNum_num (by decide) (Nat.lt_of_le_of_lt (by omega : n ≤ 1000) (by decide))
theorem ky_word {z : Str} (h : isKy z = true) : z.length ≤ 20 ∧ z.cps.toList.all kySign = true := ⟨ky_len h, by unfold isKy at h; exact (Bool.and_eq_true_iff.mp h).2⟩
theorem nm_word {z : Str} (h : isNm z = true) : z.length ≤ 20 ∧ z.cps.toList.all kySign = true := ⟨by have := nm_len h; omega, by
  unfold isNm at h
  have q := (Bool.and_eq_true_iff.mp h).2
  rw [List.all_eq_true] at q ⊢
  intro c hc
  unfold kySign
  rw [q c hc]; rfl⟩
def OkW (d : D) : Prop := ((∃ z : Str, d = .str z) ∨ ∃ i : Int, d = .int i ∧ i.natAbs.log2 < 1920) ∧ (ptS d).length ≤ 20 ∧ (ptS d).cps.toList.all kySign = true
theorem okW_str {z : Str} (h : z.length ≤ 20 ∧ z.cps.toList.all kySign = true) : OkW (.str z) := ⟨.inl ⟨z, rfl⟩, h⟩
theorem okW_int {i : Int} (h0 : 0 ≤ i) (h1 : i ≤ 1000000000) : OkW (.int i) := by
  obtain ⟨a, b, c, _⟩ := num_word h0 h1
  exact ⟨.inr ⟨i, rfl, c⟩, a, b⟩
theorem ent_words {es : List D} (h : entD es = true) : (∀ d ∈ es, OkW d) ∧ 3 ≤ es.length ∧ es.length ≤ 5 := by
  have ask : OkW (.str "ask") ∧ OkW (.str "release") := ⟨okW_str (by decide +kernel), okW_str (by decide +kernel)⟩
  rcases ent_shape h with ⟨k, g, c, m, rfl, h1, h2, h3, h4, h5, h6⟩ | ⟨k, m, rfl, h1, h5, h6⟩
  · refine ⟨fun d hd => ?_, by simp, by simp⟩
    simp only [List.mem_cons, List.not_mem_nil, or_false] at hd
    rcases hd with rfl | rfl | rfl | rfl | rfl
    · exact ask.1
    · exact okW_str (ky_word h1)
    · exact okW_str (nm_word h2)
    · exact okW_int (by omega) (by omega)
    · exact okW_int h5 h6
  · refine ⟨fun d hd => ?_, by simp, by simp⟩
    simp only [List.mem_cons, List.not_mem_nil, or_false] at hd
    rcases hd with rfl | rfl | rfl
    · exact ask.2
    · exact okW_str (ky_word h1)
    · exact okW_int h5 h6
theorem ky_ne {z : Str} {n : Nat} (h : z.cps.toList.all kySign = true) (hn : kySign n = false) : n ∉ z.cps.toList := fun hm => by
  rw [List.all_eq_true.mp h n hm] at hn; cases hn
theorem ln_split {es : List D} (h : entD es = true) : Txt.split (lnE es) " " = wds es := by
  obtain ⟨h1, h2, h3⟩ := ent_words h
  refine TL.split_join (s := 32) (S := []) (by decide +kernel) (by decide +kernel) (fun e => ?_) fun p hp => ?_
  · have l0 : es.length = 0 := by rw [← show (wds es).length = es.length from List.length_map .., e]; rfl
    omega
  · obtain ⟨d, hd, rfl⟩ := List.mem_map.mp hp
    exact ky_ne (h1 d hd).2.2 (by decide)
def parW (ws : List Str) : List D := if ws.length = 5 then [.str (ws.getD 0 ""), .str (ws.getD 1 ""), .str (ws.getD 2 ""), optN (pNum (ws.getD 3 "").cps.toList 7), optN (pNum (ws.getLastD "").cps.toList 10)] else ws.dropLast.map D.str ++ [optN (pNum (ws.getLastD "").cps.toList 10)]
def parE (z : Str) : List D := parW (Txt.split z " ")
theorem par_good {es : List D} (h : entD es = true) : parE (lnE es) = es := by
  unfold parE
  rw [ln_split h]
  have oi : ∀ {i : Int}, 0 ≤ i → optN (some i.toNat) = .int i := fun {i} h => by show D.int (i.toNat : Int) = _; rw [Int.toNat_of_nonneg h]
  rcases ent_shape h with ⟨k, g, c, m, rfl, h1, h2, h3, h4, h5, h6⟩ | ⟨k, m, rfl, h1, h5, h6⟩
  · show [D.str "ask", .str k, .str g, optN (pNum (ptS (.int c)).cps.toList 7), optN (pNum (ptS (.int m)).cps.toList 10)] = _
    rw [num7 (by omega) h4, (num_word h5 h6).2.2.2, oi (by omega), oi h5]
  · show [D.str "release", .str k, optN (pNum (ptS (.int m)).cps.toList 10)] = _
    rw [(num_word h5 h6).2.2.2, oi h5]
theorem optN_prt (o : Option Nat) : prt (optN o) = true := by cases o <;> rfl
theorem parW_ok {ws : List Str} (h : ∀ z ∈ ws, z.length ≤ 2000) (hl : ws.length ≤ 1050) (hne : ws ≠ []) : OkP (parW ws) := by
  have gl : ∀ k, (ws.getD k "").length ≤ 2000 := fun k => by
    rw [List.getD_eq_getElem?_getD]
    cases e : ws[k]? with
    | none => decide +kernel
    | some z => exact h z (List.mem_of_getElem? e)
  unfold parW
  split
  · have g : ∀ k, prt (.str (ws.getD k "")) = true := fun k => decide_eq_true (gl k)
    exact ⟨by simp only [List.all_cons, List.all_nil, g, optN_prt, Bool.and_self, Bool.and_true], by simp, .inl ⟨_, _, rfl⟩⟩
  · refine ⟨?_, by rw [List.length_append, List.length_map, List.length_dropLast]; simp; omega, ?_⟩
    · rw [List.all_append, List.all_map, Bool.and_eq_true]
      refine ⟨List.all_eq_true.mpr fun z hz => ?_, by simp [optN_prt]⟩
      show decide (z.length ≤ 2000) = true
      exact decide_eq_true (h z ((List.dropLast_sublist ws).subset hz))
    · rcases ws with _ | ⟨a, _ | ⟨b, r⟩⟩
      · exact absurd rfl hne
      · exact .inr (by simp)
      · exact .inl ⟨a, _, rfl⟩
end
end Toy

namespace Toy
open PySem PyProof.Rows L2 Pf
open PySem.NumText (AllDigits digitsVal)
section
variable {P : Program} {w : World} {K : PySem.W.Frag} {mg : Str → Option Value} {base : Heap}
structure Gd (mg : Str → Option Value) : Prop where
  digs : ∃ t, mg "DIGITS" = some (.str "0123456789" t)
  n7 : ∃ t, mg "NUMBER_DIGITS_notation" = some (.int 7 t)
  n10 : ∃ t, mg "MOMENT_DIGITS" = some (.int 10 t)
abbrev sNum : Stmt := top 22
theorem scNum : FnScope ["word", "digits", "sign"] ["word", "digits"] (defScope sNum) := ⟨rfl, rfl, rfl, by decide +kernel, rfl, by decide +kernel, by decide +kernel⟩
def gNum : List D → (D → Prop) → Prop := fun ds P => ∃ (z : Str) (k : Nat), ds = [.str z, .int k] ∧ z.length ≤ 2000 ∧ k ≤ 600 ∧ P = fun d => d = optN (pNum z.cps.toList k)
theorem ok_num {f : Addr} {fd : FuncData} (F : Fun K "parse_number" "parse_number" sNum f fd) (T : Bt mg) (G : Gd mg) : FnOk P w K mg base CX0 1 f fd ["word", "digits"] (spP K 2 gNum) := by
  refine fn_pure F scNum (by rintro ds Pd ⟨_, _, rfl, _⟩; rfl) fun cdv A outer s H E ds Pd hr hG => ?_
  obtain ⟨z, k, rfl, hl, hk, rfl⟩ := hG
  obtain ⟨cs, rfl⟩ : ∃ cs, z = tx cs := ⟨_, (tx_of z).symm⟩
  rw [tx_len] at hl
  rw [tx_cps]
  have nd := scNum.nd
  have e1 : (decide ((1 : Int) ≤ ((tx cs).length : Int)) && decide (((tx cs).length : Int) ≤ (k : Int))) = (decide (1 ≤ cs.length) && decide (cs.length ≤ k)) := by
    rw [tx_len]
    congr 1 <;> exact decide_eq_decide.mpr (by omega)
  have hz : (tx cs).length ≤ sizeLine := by rw [tx_len]; exact le_size (by omega)
  refine jss_cons (js_if (t := !okNum cs k) (JT.to (jt_w (jw_or (jt_not (jt_ch j_int (jb_len T (ja_cons (jv 0 rfl) ja_nil) (lenS hz)) (jv 1 rfl) cd_leI cd_leI)) (fun _ => jw_or1 (jt_not (jt_val (jb_all T (bs := cs.map isDg) (ja_cons (J.to (j_lcM (own := [("sign", 2)]) (i := 2) cs (fun c : Nat => D.str ⟨#[c]⟩) (fun c => D.bl (isDg c)) (ji_tx (jv 0 rfl)) (blkOk_by (N := ["word", "digits", "sign"]) (sc := defScope sNum) (by decide +kernel)) (fun _ _ _ _ _ => pg_name nd rfl (Or.inl rfl)) (lt_size (by omega)) (fun c hc s H C cl fp => J.to (j_cm (jv 2 rfl) (j_gS G.digs) cd_inSign) (congrArg D.bl (dg_mem c))) nd) (by rw [List.map_map]; rfl)) ja_nil))))))) ?_) (fun h => ?_) (fun h => jss_nil ?_))
  · rw [e1, List.all_map]
    show (!(decide (1 ≤ cs.length) && decide (cs.length ≤ k)) || !cs.all isDg) = !((decide (1 ≤ cs.length) && decide (cs.length ≤ k)) && cs.all isDg)
    cases (decide (1 ≤ cs.length) && decide (cs.length ≤ k)) <;> cases cs.all isDg <;> rfl
  · refine jss_cons (js_ret j_non ?_)
    show D.non = optN (pNum cs k)
    unfold pNum
    rw [if_neg (by rw [Bool.not_eq_true'] at h; rw [h]; decide)]
    rfl
  have hok : okNum cs k = true := by rw [Bool.not_eq_false'] at h; exact h
  have hparts := hok
  unfold okNum at hparts
  rw [Bool.and_eq_true, Bool.and_eq_true, decide_eq_true_iff, decide_eq_true_iff] at hparts
  obtain ⟨⟨hl1, hl2⟩, hd⟩ := hparts
  have hAll : AllDigits cs := by
    intro c hc
    have := List.all_eq_true.mp hd c hc
    unfold isDg at this
    rw [Bool.and_eq_true, decide_eq_true_iff, decide_eq_true_iff] at this
    exact this
  have hread : PySem.intText? (tx cs) = some ((digitsVal cs : Nat) : Int) := intText_digits (x := tx cs) hAll (by intro q; rw [tx_cps] at q; rw [q] at hl1; simp at hl1) (by rw [tx_len]; omega)
  refine jss_cons (js_if (t := zeroed cs) (JT.to (jt_w (jw_and (jt_cm (j_ixS (n := cs.getD 0 0) (jv 0 rfl) j_int hz (atI_N 0 0 rfl (by rw [tx_cps]; omega))) j_str cd_eqS) (fun _ => jw_and1 (jt_cm (jv 0 rfl) j_str cd_neS)))) ?_) (fun h => ?_) (fun h => jss_nil ?_))
  · rw [show ("0" : Str) = tx [48] from by decide +kernel]
    unfold zeroed
    congr 1
    · exact decide_eq_decide.mpr ⟨fun q => by have := tx_inj (a := [cs.getD 0 0]) (b := [48]) q; simpa using this, fun q => by rw [q]; rfl⟩
    · congr 1
      exact decide_eq_decide.mpr ⟨fun q => tx_inj q, fun q => by rw [q]⟩
  · refine jss_cons (js_ret j_non ?_)
    show D.non = optN (pNum cs k)
    unfold pNum
    rw [if_pos hok, if_pos h]
    rfl
  · refine jss_cons (js_ret (jb_intS T (ja_cons (jv 0 rfl) ja_nil) hread (by rw [tx_len]; omega)) ?_)
    show _ = optN (pNum cs k)
    unfold pNum
    rw [if_pos hok, if_neg (by rw [h]; decide)]
    rfl
abbrev sPe : Stmt := top 23
abbrev nPe : List Str := ["line", "words", "moment", "entry"]
theorem scPe : FnScope nPe ["line"] (defScope sPe) := ⟨rfl, rfl, rfl, by decide +kernel, rfl, by decide +kernel, by decide +kernel⟩
def entO (es : List D) : D := if entD es = true then .tup es else .non
def gPe : List D → (D → Prop) → Prop := fun ds P => ∃ z : Str, ds = [.str z] ∧ z.length ≤ 1000 ∧ P = fun d => d = entO (parE z)
theorem spc : ((" " : Str).length == 0) = false ∧ (("\n" : Str).length == 0) = false ∧ Txt.split "" " " ≠ [] ∧ Txt.split "" "\n" ≠ [] := by decide +kernel
theorem strs_at {hs : List Str} {i : Int} (h0 : 0 ≤ i) (h1 : i < hs.length) : atI (hs.map D.str) i = some (.str (hs.getD i.toNat "")) := by
  have hk : i.toNat < hs.length := by omega
  rw [atI_getD D.non h0 (by rw [List.length_map]; exact h1), List.getD_eq_getElem?_getD, List.getElem?_map, List.getD_eq_getElem?_getD, List.getElem?_eq_getElem hk]
  rfl
theorem strs_last {hs : List Str} (h : hs ≠ []) : atI (hs.map D.str) (-1) = some (.str (hs.getLastD "")) := by
  have hp := List.length_pos_iff.mpr h
  unfold atI ixN
  rw [if_neg (by decide), if_pos (by rw [List.length_map]; omega)]
  show (hs.map D.str)[(-1 + ((hs.map D.str).length : Int)).toNat]? = _
  rw [List.getElem?_map, List.length_map, show (-1 + (hs.length : Int)).toNat = hs.length - 1 by omega, ← List.getLast?_eq_getElem?, List.getLastD_eq_getLast?]
  cases q : hs.getLast? with
  | none => exact absurd (List.getLast?_eq_none_iff.mp q) h
  | some z => rfl
theorem last_mem {ws : List Str} (h : ws ≠ []) : ws.getLastD "" ∈ ws := by
  rw [List.getLastD_eq_getLast?]
  cases q : ws.getLast? with
  | none => exact absurd (List.getLast?_eq_none_iff.mp q) h
  | some z => exact List.mem_of_getLast? q
theorem ok_pe {f : Addr} {fd : FuncData} (F : Fun K "parse_entry" "parse_entry" sPe f fd) (T : Bt mg) (G : Gd mg) (cN : PFn P w K mg base 1 "parse_number" 2 gNum) (cE : PFn P w K mg base 3 "is_entry" 1 gEnt) : FnOk P w K mg base CX0 4 f fd ["line"] (spP K 1 gPe) := by
  refine fn_pure F scPe (by rintro ds Pd ⟨_, rfl, _⟩; rfl) fun cdv A outer s H E ds Pd hr hG => ?_
  obtain ⟨z, rfl, hz, rfl⟩ := hG
  have nd := scPe.nd
  refine jss_cons (js_set (i := 1) (j_split (jv 0 rfl) (ja_cons j_str ja_nil) spc.1 (le_size (by omega))) ?_ nd)
  have hne : Txt.split z " " ≠ [] := split_ne spc.2.2.1
  have hw : ∀ x ∈ Txt.split z " ", x.length ≤ 2000 := fun x hx => by have := split_in hx; omega
  have hn : (Txt.split z " ").length ≤ 1050 := by have := PyProof.Rows.split_le z " "; omega
  show JSs _ [] _ [some (.fz (.str z)), some (.fz (.lst ((Txt.split z " ").map D.str))), none, none] _
  unfold parE
  generalize Txt.split z " " = ws at hne hw hn
  have gl : ∀ k, (ws.getD k "").length ≤ 2000 := fun k => by
    rw [List.getD_eq_getElem?_getD]
    cases e : ws[k]? with
    | none => decide +kernel
    | some z => exact hw z (List.mem_of_getElem? e)
  have lenW : lenD (.lst (ws.map D.str)) = some ws.length := by show some _ = _; rw [List.length_map]
  refine jss_cons (js_set (i := 2) (j_call cN hr (ja_cons (j_ix (jv 1 rfl) (j_neg j_int) (ixd_L (strs_last hne))) (ja_cons (j_gI G.n10) ja_nil)) ⟨_, 10, rfl, hw _ (last_mem hne), by decide, rfl⟩ (fun _ h => h)) ?_ nd)
  refine jss_mid (fun ρ => ρ = [some (.fz (.str z)), some (.fz (.lst (ws.map D.str))), some (.fz (optN (pNum (ws.getLastD "").cps.toList 10))), some (.fz (.tup (parW ws)))]) (js_if (jt_cm (jb_len T (ja_cons (jv 1 rfl) ja_nil) lenW) j_int cd_eqI) (fun h => ?_) (fun h => ?_)) ?_
  · have h5 : ws.length = 5 := by have := of_decide_eq_true h; omega
    refine jss_cons (js_set (i := 3) (j_tup (ja_cons (j_ix (jv 1 rfl) j_int (ixd_L (strs_at (by decide) (by omega)))) (ja_cons (j_ix (jv 1 rfl) j_int (ixd_L (strs_at (by decide) (by omega)))) (ja_cons (j_ix (jv 1 rfl) j_int (ixd_L (strs_at (by decide) (by omega)))) (ja_cons (j_call cN hr (ja_cons (j_ix (jv 1 rfl) j_int (ixd_L (strs_at (by decide) (by omega)))) (ja_cons (j_gI G.n7) ja_nil)) ⟨_, 7, rfl, gl _, by decide, rfl⟩ (fun _ h => h)) (ja_cons (jv 2 rfl) ja_nil)))))) (jss_nil ⟨_, rfl, ?_⟩) nd)
    unfold parW
    rw [if_pos h5]
    rfl
  · have h5 : ¬ ws.length = 5 := by have := of_decide_eq_false h; omega
    refine jss_cons (js_set (i := 3) (jb_tupleL T (ja_cons (j_bin (J.to (j_sl (jv 1 rfl) jo_none (jo_some (j_neg j_int)) sld_L) (show _ = D.lst (ws.dropLast.map D.str) from ?_)) (j_lst (ja_cons (jv 2 rfl) ja_nil)) (od_addL (by rw [List.length_map, List.length_dropLast]; exact le_size (by simp; omega)))) ja_nil)) (jss_nil ⟨_, rfl, ?_⟩) nd)
    · rw [cut_map]
      exact congrArg (fun l : List Str => D.lst (l.map D.str)) (cut_init ws)
    · unfold parW
      rw [if_neg h5]
      rfl
  rintro _ rfl
  have hok := parW_ok hw hn hne
  refine jss_cons (js_ret (J.to (j_ifExp (t := entD (parW ws)) (d1 := .tup (parW ws)) (d2 := .non) (jt_val (j_call cE hr (ja_cons (jv 3 rfl) ja_nil) ⟨_, rfl, hok, rfl⟩ (fun _ h => h))) (fun _ => jv 3 rfl) (fun _ => j_non)) rfl) ?_)
  rfl
end
end Toy

namespace Toy
open PySem PyProof.Rows L2 Pf
def numT (n : Nat) : Str := ((toString (n : Int) : String) : Str)
def wordF (o : Option Nat) (z : Str) : Str := match o with
  | none => z
  | some n => numT n
theorem numT_len {n : Nat} (h : n < 10 ^ 14) : (numT n).length ≤ 20 := by
  have e : (numT n).length = (numS (n : Int)).length := by unfold numS numT; rw [Array.length_toList]; rfl
  rw [e]
  exact Nat.le_trans (numS_le (k := 14) (by decide) h) (by decide)
theorem numT_log {n : Nat} (h : n < 10 ^ 14) : ((n : Nat) : Int).natAbs.log2 < 1920 := by
  rcases Nat.eq_zero_or_pos n with h0 | h0
  · subst h0; decide
  · exact (Nat.log2_lt (by omega)).mpr (Nat.lt_of_lt_of_le (by omega : _ < 2 ^ 47) (Nat.pow_le_pow_right (by decide) (by decide)))
theorem wordF_len {o : Option Nat} {z : Str} (h : ∀ n, o = some n → n < 10 ^ 14) (hz : z.length ≤ 20) : (wordF o z).length ≤ 20 := by
  cases o with
  | none => exact hz
  | some n => exact numT_len (h n rfl)
/-- the module's constants -/
structure Gn (mg : Str → Option Value) : Prop where
  none' : ∃ t, mg "NONE" = some (.str "none" t)
  never : ∃ t, mg "NEVER" = some (.str "never" t)
  gct : ∃ t, mg "GREATEST_COUNT" = some (.int 999999 t)
  n6 : ∃ t, mg "COUNT_DIGITS" = some (.int 6 t)
  n4 : ∃ t, mg "COST_DIGITS" = some (.int 4 t)
  n12 : ∃ t, mg "EARLIEST_DIGITS" = some (.int 12 t)
  n8 : ∃ t, mg "MOST_NAMES" = some (.int 8 t)
section
variable {X : Cx} {ρ : Rho} {e : Expr} {ds : List D} {p pos : Pos}
theorem jb_listT (T : Bt X.mg) (ha : JA X [e] ρ [.tup ds]) (hg : Gl X "list" := by rfl) (he : starEach [e] X.env = (false, eval e X.env) :: starEach [] X.env := by rfl) (hpl : (backTo pos (starEach [] X.env)).any (·.1) = false := by rfl) : J X (.Call (.Name "list" p) [e] [] pos) ρ (.lst ds) := j_ct call_list_of T.list (by decide +kernel) ha rc_listT hg (by decide) (by decide) he hpl
end
theorem join_words {ws : List Str} {m k : Nat} (h : ∀ x ∈ ws, x.length ≤ m) (hk : ws.length ≤ k) (hm : k * m ≤ 1000000) (hk2 : k ≤ 1000000) (y : Str) (hy : y.length = 1) : (ws.map (·.length)).sum + ws.length * y.length ≤ 16777216 := by
  have h1 := sum_le h
  have h2 := Nat.mul_le_mul_right m hk
  rw [hy]
  omega
abbrev View : Type := Nat × Option Nat × List Str
def viewD (v : View) : D := .tup [.int (v.1 : Int), optN v.2.1, .tup (v.2.2.map D.str)]
def vwords (v : View) : List Str := numT v.1 :: wordF v.2.1 "none" :: v.2.2
structure OkV (v : View) : Prop where
  num : v.1 < 1000000
  due : ∀ n, v.2.1 = some n → n < 1000000
  nms : ∀ z ∈ v.2.2, z.length ≤ 12
  few : v.2.2.length ≤ 20
theorem OkV.words {v : View} (h : OkV v) : (∀ x ∈ vwords v, x.length ≤ 20) ∧ (vwords v).length ≤ 22 := by
  refine ⟨fun x hx => ?_, by have := h.few; unfold vwords; simp only [List.length_cons]; omega⟩
  unfold vwords at hx
  rcases List.mem_cons.mp hx with rfl | hx
  · exact numT_len (Nat.lt_trans h.num (by decide))
  · rcases List.mem_cons.mp hx with rfl | hx
    · exact wordF_len (fun n e => Nat.lt_trans (h.due n e) (by decide)) (by decide +kernel)
    · exact Nat.le_trans (h.nms x hx) (by decide)
section
variable {P : Program} {w : World} {K : PySem.W.Frag} {mg : Str → Option Value} {base : Heap}
def gVw : List D → (D → Prop) → Prop := fun ds P => ∃ v : View, ds = [viewD v] ∧ OkV v ∧ P = fun d => d = .lst ((vwords v).map D.str)
def vbody (v : View) : Str := Txt.join " " ("view" :: vwords v)
abbrev sCt : Stmt := top 32
theorem scCt : FnScope ["number"] ["number"] (defScope sCt) := ⟨rfl, rfl, rfl, by decide +kernel, rfl, by decide +kernel, by decide +kernel⟩
def gCt : List D → (D → Prop) → Prop := fun ds P => ∃ d, ds = [d] ∧ prt d = true ∧ P = fun r => r = .bl (inD 0 999999 d)
theorem ok_ct {f : Addr} {fd : FuncData} (F : Fun K "is_count" "is_count" sCt f fd) (N : Gn mg) (cI : PFn P w K mg base 1 "is_within" 3 gIn) : FnOk P w K mg base CX0 2 f fd ["number"] (spP K 1 gCt) := by
  refine fn_pure F scCt (by rintro ds Pd ⟨_, rfl, _⟩; rfl) fun cdv A outer s H E ds Pd hr hG => ?_
  obtain ⟨d, rfl, hp, rfl⟩ := hG
  exact jss_cons (js_ret (j_call cI hr (ja_cons (jv 0 rfl) (ja_cons j_int (ja_cons (j_gI N.gct) ja_nil))) ⟨d, 0, 999999, rfl, hp, rfl⟩ (fun _ h => h)) rfl)
abbrev nIv : List Str := ["view", "number", "due", "houses", "house"]
abbrev sIv : Stmt := top 33
theorem scIv : FnScope nIv ["view"] (defScope sIv) := ⟨rfl, rfl, rfl, by decide +kernel, rfl, by decide +kernel, by decide +kernel⟩
def viewB (a b : Option Nat) (hs : List Str) : Bool := (inD 0 999999 (optN a) && (isNon (optN b) || inD 0 999999 (optN b))) && (((decide (1 ≤ hs.length) && decide (hs.length ≤ 8)) && (hs.map isNm).all id) && decide ((ddL hs).length = hs.length))
def gIv : List D → (D → Prop) → Prop := fun ds P => ∃ (a b : Option Nat) (hs : List Str), ds = [.tup [optN a, optN b, .tup (hs.map D.str)]] ∧ (∀ z ∈ hs, z.length ≤ 2000) ∧ hs.length ≤ 2000 ∧ P = fun r => r = .bl (viewB a b hs)
theorem ok_iv {f : Addr} {fd : FuncData} (F : Fun K "is_view" "is_view" sIv f fd) (T : Bt mg) (N : Gn mg) (cC : PFn P w K mg base 2 "is_count" 1 gCt) (cN : PFn P w K mg base 1 "is_name" 1 gName) : FnOk P w K mg base CX0 3 f fd ["view"] (spP K 1 gIv) := by
  refine fn_pure F scIv (by rintro ds Pd ⟨_, _, _, rfl, _⟩; rfl) fun cdv A outer s H E ds Pd hr hG => ?_
  obtain ⟨a, b, hs, rfl, hz, hl, rfl⟩ := hG
  have nd := scIv.nd
  have lenH : lenD (.tup (hs.map D.str)) = some hs.length := by show some _ = _; rw [List.length_map]
  refine jss_cons (js_pat (pat := .tp [1, 2, 3]) (jv 0 rfl) rfl ?_ (pg_tup rfl (pgs_cons (pg_name nd rfl (Or.inl rfl)) (pgs_cons (pg_name nd rfl (Or.inl rfl)) (pgs_cons (pg_name nd rfl (Or.inl rfl)) pgs_nil)))))
  refine jss_cons (js_if (t := !(inD 0 999999 (optN a) && (isNon (optN b) || inD 0 999999 (optN b)))) (JT.to (jt_w (jw_or (jt_not (jt_val (j_call cC hr (ja_cons (jv 1 rfl) ja_nil) ⟨_, rfl, optN_prt a, rfl⟩ (fun _ h => h)))) (fun _ => jw_or1 (jt_not (jt_w (jw_or (jt_cm (jv 2 rfl) j_non cd_isN) (fun _ => jw_or1 (jt_val (j_call cC hr (ja_cons (jv 2 rfl) ja_nil) ⟨_, rfl, optN_prt b, rfl⟩ (fun _ h => h)))))))))) (by rw [Bool.not_and]; rfl)) (fun h => ?_) (fun h => jss_nil ?_))
  · rw [Bool.not_eq_true'] at h
    exact jss_cons (js_ret j_bl (show D.bl false = D.bl (viewB a b hs) by unfold viewB; rw [h]; rfl))
  rw [Bool.not_eq_false'] at h
  refine jss_cons (js_if (t := !((decide (1 ≤ hs.length) && decide (hs.length ≤ 8)) && (hs.map isNm).all id)) (JT.to (jt_w (jw_or (jt_not (jt_ch j_int (jb_len T (ja_cons (jv 3 rfl) ja_nil) lenH) (j_gI N.n8) cd_leI cd_leI)) (fun _ => jw_or1 (jt_not (jt_val (jb_all T (bs := hs.map isNm) (ja_cons (J.to (j_lcM (own := [("house", 4)]) (i := 4) hs D.str (fun z => D.bl (isNm z)) (ji_tup (jv 3 rfl)) (blkOk_by (N := nIv) (sc := defScope sIv) (by decide +kernel)) (fun _ _ _ _ _ => pg_name nd rfl (Or.inl rfl)) (lt_size (by omega)) (fun z hm s H C cl fp => j_call cN hr (ja_cons (jv 4 rfl) ja_nil) ⟨.str z, rfl, decide_eq_true (hz z hm), rfl⟩ (fun _ h => h)) nd) (by rw [List.map_map]; rfl)) ja_nil))))))) ?_) (fun h2 => ?_) (fun h2 => jss_nil ?_))
  · rw [show decide ((1 : Int) ≤ ((hs.length : Nat) : Int)) = decide (1 ≤ hs.length) from decide_eq_decide.mpr (by omega), show decide (((hs.length : Nat) : Int) ≤ 8) = decide (hs.length ≤ 8) from decide_eq_decide.mpr (by omega)]
    exact (Bool.not_and _ _).symm
  · rw [Bool.not_eq_true'] at h2
    exact jss_cons (js_ret j_bl (show D.bl false = D.bl (viewB a b hs) by unfold viewB; rw [h2, Bool.false_and, Bool.and_false]))
  rw [Bool.not_eq_false'] at h2
  refine jss_cons (js_ret (J.to (j_cm (jb_lenSetT T (jv 3 rfl) (Nat.lt_of_le_of_lt (Nat.succ_le_succ hl) (by decide))) (jb_len T (ja_cons (jv 3 rfl) ja_nil) lenH) cd_eqI) (d' := .bl (decide ((ddL hs).length = hs.length))) (congrArg D.bl (decide_eq_decide.mpr ⟨fun q => by omega, fun q => by omega⟩))) (show D.bl _ = D.bl (viewB a b hs) by unfold viewB; rw [h, h2]; rfl))
end
end Toy

namespace Toy
open PySem PyProof.Rows L2 Pf
def numW (z : Str) (k : Nat) : Option Nat := pNum z.cps.toList k
def vwD (a b : Option Nat) (hs : List Str) : D := .tup [optN a, optN b, .tup (hs.map D.str)]
def viewO (ws : List Str) : D :=
  if ws.length < 3 then .non else
  if ((numW (ws.getD 1 "") 6).isNone && !decide (ws.getD 1 "" = "none")) = true then .non else
  if viewB (numW (ws.getD 0 "") 6) (numW (ws.getD 1 "") 6) (ws.drop 2) = true then vwD (numW (ws.getD 0 "") 6) (numW (ws.getD 1 "") 6) (ws.drop 2) else .non
def headBad (a b m : Option Nat) (z : Str) : Bool := a.isNone || (b.isNone || !(inD 0 1000000000 (optN m) || decide (z = "none")))
def headO (ws : List Str) : D :=
  if ws.length < 3 then .non else
  if headBad (numW (ws.getD 0 "") 6) (numW (ws.getD 1 "") 6) (numW (ws.getD 2 "") 10) (ws.getD 2 "") = true then .non else
  if (isNon (viewO (ws.drop 3)) && decide (3 < ws.length)) = true then .non else .tup [optN (numW (ws.getD 0 "") 6), optN (numW (ws.getD 1 "") 6), optN (numW (ws.getD 2 "") 10), viewO (ws.drop 3)]
structure OkWs (ws : List Str) : Prop where
  len : ∀ z ∈ ws, z.length ≤ 1000
  ok : ∀ z ∈ ws, PySem.PyData.strOk z = true
  few : ws.length ≤ 1100
theorem OkWs.drop {ws : List Str} (h : OkWs ws) (k : Nat) : OkWs (ws.drop k) where
  len := fun z q => h.len z (List.mem_of_mem_drop q)
  ok := fun z q => h.ok z (List.mem_of_mem_drop q)
  few := by rw [List.length_drop]; have := h.few; omega
theorem OkWs.at {ws : List Str} (h : OkWs ws) (k : Nat) : (ws.getD k "").length ≤ 1000 := by
  rw [List.getD_eq_getElem?_getD]
  cases e : ws[k]? with
  | none => decide +kernel
  | some z => exact h.len z (List.mem_of_getElem? e)
theorem strs_drop {ws : List Str} (k : Nat) (h : k ≤ ws.length) : cut (ws.map D.str) (some (k : Int)) none = (ws.drop k).map D.str := by rw [cut_map, cut_drop _ _ h]
theorem isN_o (o : Option Nat) : isNon (optN o) = o.isNone := by cases o <;> rfl
section
variable {P : Program} {w : World} {K : PySem.W.Frag} {mg : Str → Option Value} {base : Heap}
abbrev sRv : Stmt := top 34
theorem scRv : FnScope ["words", "number", "due", "view"] ["words"] (defScope sRv) := ⟨rfl, rfl, rfl, by decide +kernel, rfl, by decide +kernel, by decide +kernel⟩
def gRv : List D → (D → Prop) → Prop := fun ds P => ∃ ws : List Str, ds = [.lst (ws.map D.str)] ∧ OkWs ws ∧ P = fun d => d = viewO ws
theorem ok_rv {f : Addr} {fd : FuncData} (F : Fun K "read_view" "read_view" sRv f fd) (T : Bt mg) (N : Gn mg) (cN : PFn P w K mg base 1 "parse_number" 2 gNum) (cV : PFn P w K mg base 3 "is_view" 1 gIv) : FnOk P w K mg base CX0 4 f fd ["words"] (spP K 1 gRv) := by
  refine fn_pure F scRv (by rintro ds Pd ⟨_, rfl, _⟩; rfl) fun cdv A outer s H E ds Pd hr hG => ?_
  obtain ⟨ws, rfl, hw, rfl⟩ := hG
  have nd := scRv.nd
  have lenW : lenD (.lst (ws.map D.str)) = some ws.length := by show some _ = _; rw [List.length_map]
  refine jss_cons (js_if (t := decide (ws.length < 3)) (JT.to (jt_cm (jb_len T (ja_cons (jv 0 rfl) ja_nil) lenW) j_int cd_ltI) (decide_eq_decide.mpr ⟨fun q => by omega, fun q => by omega⟩)) (fun h => ?_) (fun h => jss_nil ?_))
  · have h := of_decide_eq_true h
    exact jss_cons (js_ret j_non (show D.non = viewO ws by unfold viewO; rw [if_pos h]))
  have h := of_decide_eq_false h
  refine jss_cons (js_set (i := 1) (J.to (j_call cN hr (ja_cons (j_ix (jv 0 rfl) j_int (ixd_L (strs_at (by decide) (by omega)))) (ja_cons (j_gI N.n6) ja_nil)) ⟨_, 6, rfl, Nat.le_trans (hw.at _) (by decide), by decide, rfl⟩ (fun _ h => h)) (d' := optN (numW (ws.getD 0 "") 6)) rfl) ?_ nd)
  refine jss_cons (js_set (i := 2) (J.to (j_call cN hr (ja_cons (j_ix (jv 0 rfl) j_int (ixd_L (strs_at (by decide) (by omega)))) (ja_cons (j_gI N.n6) ja_nil)) ⟨_, 6, rfl, Nat.le_trans (hw.at _) (by decide), by decide, rfl⟩ (fun _ h => h)) (d' := optN (numW (ws.getD 1 "") 6)) rfl) ?_ nd)
  refine jss_cons (js_if (t := (numW (ws.getD 1 "") 6).isNone && !decide (ws.getD 1 "" = "none")) (JT.to (jt_w (jw_and (jt_cm (jv 2 rfl) j_non cd_isN) (fun _ => jw_and1 (jt_cm (j_ix (jv 0 rfl) j_int (ixd_L (strs_at (by decide) (by omega)))) (j_gS N.none') cd_neS)))) (by rw [show isNon (SV.fz (optN (numW (ws.getD 1 "") 6))).d = _ from isN_o _]; rfl)) (fun h2 => ?_) (fun h2 => jss_nil ?_))
  · exact jss_cons (js_ret j_non (show D.non = viewO ws by unfold viewO; rw [if_neg h, if_pos h2]))
  refine jss_cons (js_set (i := 3) (J.to (j_tup (ja_cons (jv 1 rfl) (ja_cons (jv 2 rfl) (ja_cons (jb_tupleL T (ja_cons (J.to (j_sl (jv 0 rfl) (jo_some j_int) jo_none sld_L) (congrArg D.lst (strs_drop 2 (by omega)))) ja_nil)) ja_nil)))) (d' := vwD (numW (ws.getD 0 "") 6) (numW (ws.getD 1 "") 6) (ws.drop 2)) rfl) ?_ nd)
  refine jss_cons (js_ret (J.to (j_ifExp (t := viewB (numW (ws.getD 0 "") 6) (numW (ws.getD 1 "") 6) (ws.drop 2)) (jt_val (j_call cV hr (ja_cons (jv 3 rfl) ja_nil) ⟨_, _, _, rfl, fun z q => Nat.le_trans ((hw.drop 2).len z q) (by decide), Nat.le_trans (hw.drop 2).few (by decide), rfl⟩ (fun _ h => h))) (fun _ => jv 3 rfl) (fun _ => j_non)) (d' := viewO ws) ?_) rfl)
  have e : viewO ws = if viewB (numW (ws.getD 0 "") 6) (numW (ws.getD 1 "") 6) (ws.drop 2) = true then vwD (numW (ws.getD 0 "") 6) (numW (ws.getD 1 "") 6) (ws.drop 2) else .non := by
    unfold viewO
    rw [if_neg h, if_neg (by rw [h2]; decide)]
  exact e.symm
abbrev sRh : Stmt := top 35
theorem scRh : FnScope ["words", "many", "entries", "moment", "view"] ["words"] (defScope sRh) := ⟨rfl, rfl, rfl, by decide +kernel, rfl, by decide +kernel, by decide +kernel⟩
def gRh : List D → (D → Prop) → Prop := fun ds P => ∃ ws : List Str, ds = [.lst (ws.map D.str)] ∧ OkWs ws ∧ P = fun d => d = headO ws
theorem ok_rh {f : Addr} {fd : FuncData} (F : Fun K "read_head" "read_head" sRh f fd) (T : Bt mg) (N : Gn mg) (G : Gd mg) (cN : PFn P w K mg base 1 "parse_number" 2 gNum) (cM : PFn P w K mg base 2 "is_moment" 1 gMo) (cV : PFn P w K mg base 4 "read_view" 1 gRv) : FnOk P w K mg base CX0 5 f fd ["words"] (spP K 1 gRh) := by
  refine fn_pure F scRh (by rintro ds Pd ⟨_, rfl, _⟩; rfl) fun cdv A outer s H E ds Pd hr hG => ?_
  obtain ⟨ws, rfl, hw, rfl⟩ := hG
  have nd := scRh.nd
  have lenW : lenD (.lst (ws.map D.str)) = some ws.length := by show some _ = _; rw [List.length_map]
  refine jss_cons (js_if (t := decide (ws.length < 3)) (JT.to (jt_cm (jb_len T (ja_cons (jv 0 rfl) ja_nil) lenW) j_int cd_ltI) (decide_eq_decide.mpr ⟨fun q => by omega, fun q => by omega⟩)) (fun h => ?_) (fun h => jss_nil ?_))
  · have h := of_decide_eq_true h
    exact jss_cons (js_ret j_non (show D.non = headO ws by unfold headO; rw [if_pos h]))
  have h := of_decide_eq_false h
  refine jss_cons (js_set (i := 1) (J.to (j_call cN hr (ja_cons (j_ix (jv 0 rfl) j_int (ixd_L (strs_at (by decide) (by omega)))) (ja_cons (j_gI N.n6) ja_nil)) ⟨_, 6, rfl, Nat.le_trans (hw.at _) (by decide), by decide, rfl⟩ (fun _ h => h)) (d' := optN (numW (ws.getD 0 "") 6)) rfl) ?_ nd)
  refine jss_cons (js_set (i := 2) (J.to (j_call cN hr (ja_cons (j_ix (jv 0 rfl) j_int (ixd_L (strs_at (by decide) (by omega)))) (ja_cons (j_gI N.n6) ja_nil)) ⟨_, 6, rfl, Nat.le_trans (hw.at _) (by decide), by decide, rfl⟩ (fun _ h => h)) (d' := optN (numW (ws.getD 1 "") 6)) rfl) ?_ nd)
  refine jss_cons (js_set (i := 3) (J.to (j_call cN hr (ja_cons (j_ix (jv 0 rfl) j_int (ixd_L (strs_at (by decide) (by omega)))) (ja_cons (j_gI G.n10) ja_nil)) ⟨_, 10, rfl, Nat.le_trans (hw.at _) (by decide), by decide, rfl⟩ (fun _ h => h)) (d' := optN (numW (ws.getD 2 "") 10)) rfl) ?_ nd)
  refine jss_cons (js_if (t := headBad (numW (ws.getD 0 "") 6) (numW (ws.getD 1 "") 6) (numW (ws.getD 2 "") 10) (ws.getD 2 "")) (JT.to (jt_w (jw_or (jt_cm (jv 1 rfl) j_non cd_isN) (fun _ => jw_or (jt_cm (jv 2 rfl) j_non cd_isN) (fun _ => jw_or1 (jt_not (jt_w (jw_or (jt_val (j_call cM hr (ja_cons (jv 3 rfl) ja_nil) ⟨_, rfl, optN_prt _, rfl⟩ (fun _ h => h))) (fun _ => jw_or1 (jt_cm (j_ix (jv 0 rfl) j_int (ixd_L (strs_at (by decide) (by omega)))) (j_gS N.none') cd_eqS))))))))) (by rw [show isNon (SV.fz (optN (numW (ws.getD 0 "") 6))).d = _ from isN_o _, show isNon (SV.fz (optN (numW (ws.getD 1 "") 6))).d = _ from isN_o _]; rfl)) (fun h2 => ?_) (fun h2 => jss_nil ?_))
  · exact jss_cons (js_ret j_non (show D.non = headO ws by unfold headO; rw [if_neg h, if_pos h2]))
  refine jss_cons (js_set (i := 4) (j_call cV hr (ja_cons (J.to (j_sl (jv 0 rfl) (jo_some j_int) jo_none sld_L) (congrArg D.lst (strs_drop 3 (by omega)))) ja_nil) ⟨_, rfl, hw.drop 3, rfl⟩ (fun _ h => h)) ?_ nd)
  refine jss_cons (js_if (t := isNon (viewO (ws.drop 3)) && decide (3 < ws.length)) (JT.to (jt_w (jw_and (jt_cm (jv 4 rfl) j_non cd_isN) (fun _ => jw_and1 (jt_cm (jb_len T (ja_cons (jv 0 rfl) ja_nil) lenW) j_int cd_gtI)))) (congrArg (fun b => isNon (viewO (ws.drop 3)) && b) (decide_eq_decide.mpr ⟨fun q => by omega, fun q => by omega⟩))) (fun h3 => ?_) (fun h3 => jss_nil ?_))
  · exact jss_cons (js_ret j_non (show D.non = headO ws by unfold headO; rw [if_neg h, if_neg (by rw [h2]; decide), if_pos h3]))
  exact jss_cons (js_ret (j_tup (ja_cons (jv 1 rfl) (ja_cons (jv 2 rfl) (ja_cons (jv 3 rfl) (ja_cons (jv 4 rfl) ja_nil))))) (show _ = headO ws by unfold headO; rw [if_neg h, if_neg (by rw [h2]; decide), if_neg (by rw [h3]; decide)]; rfl))
end
end Toy

namespace Toy
open PySem PyProof.Rows L2 Pf
section
variable {P : Program} {w : World} {K : PySem.W.Frag} {mg : Str → Option Value} {base : Heap}
def ascB (zs : List Str) : Bool := (zs.zip (zs.drop 1)).all fun p => decide (p.1.cps.toList < p.2.cps.toList)
theorem fst_map {α β : Type} (xs : List α) (f : α → D) (g : α → β) : (xs.map fun x => (f x, g x)).map (·.1) = xs.map f := by rw [List.map_map]; rfl
theorem cut_one {α : Type} (xs : List α) : cut xs (some 1) none = xs.drop 1 := by
  by_cases h : 1 ≤ xs.length
  · exact cut_drop xs 1 h
  · have : xs = [] := List.length_eq_zero_iff.mp (by omega)
    subst this; rfl
abbrev sAs : Stmt := top 16
theorem scAs : FnScope ["names", "first", "second"] ["names"] (defScope sAs) := ⟨rfl, rfl, rfl, by decide +kernel, rfl, by decide +kernel, by decide +kernel⟩
def gAsL : List D → (D → Prop) → Prop := fun ds P => ∃ zs : List Str, ds = [.lst (zs.map D.str)] ∧ zs.length ≤ 100 ∧ P = fun r => r = .bl (ascB zs)
theorem ok_asL {f : Addr} {fd : FuncData} (F : Fun K "is_ascending" "is_ascending" sAs f fd) (T : Bt mg) : FnOk P w K mg base CX0 1 f fd ["names"] (spP K 1 gAsL) := by
  refine fn_pure F scAs (by rintro ds Pd ⟨_, rfl, _⟩; rfl) fun cdv A outer s H E ds Pd hr hG => ?_
  obtain ⟨zs, rfl, hl, rfl⟩ := hG
  have nd := scAs.nd
  refine jss_cons (js_ret (jb_all T (bs := (zs.zip (zs.drop 1)).map fun p => decide (p.1.cps.toList < p.2.cps.toList)) (ja_cons (J.to (j_lc (own := [("first", 1), ("second", 2)]) (pat := .tp [1, 2]) (its := (zs.zip (zs.drop 1)).map fun p => (D.tup [.str p.1, .str p.2], some (D.bl (decide (p.1.cps.toList < p.2.cps.toList))))) ?_ (blkOk_by (N := ["names", "first", "second"]) (sc := defScope sAs) (by decide +kernel)) (fun _ _ _ _ _ => pg_tup rfl (pgs_cons (pg_name nd rfl (Or.inl rfl)) (pgs_cons (pg_name nd rfl (Or.inl rfl)) pgs_nil))) (by decide) (by rw [List.length_map, List.length_zip]; exact lt_size (by omega)) (fun q hq => ?_) nd) ?_) ja_nil)) ?_)
  · rw [fst_map]
    have e : (((zs.map D.str).zip ((zs.drop 1).map D.str)).map fun p => D.tup [p.1, p.2]) = (zs.zip (zs.drop 1)).map fun p => D.tup [.str p.1, .str p.2] := by
      rw [List.zip_map, List.map_map]; rfl
    rw [← e]
    exact ji_zipL T.zip (jv 0 rfl) (J.to (j_sl (jv 0 rfl) (jo_some j_int) jo_none sld_L) (by rw [cut_map, cut_one]))
  · obtain ⟨x, hx, rfl⟩ := List.mem_map.mp hq
    exact ⟨_, rfl, fun _ _ _ _ _ => ⟨jts_nil, j_cm (jv 1 rfl) (jv 2 rfl) cd_ltS⟩⟩
  · rw [List.filterMap_map, List.map_map]
    exact congrArg D.lst (List.filterMap_eq_map.symm ▸ rfl)
  · show D.bl _ = D.bl (ascB zs)
    unfold ascB
    rw [List.all_map]; rfl

def splC (z : Str) : List Str := Txt.split z ","
def dBad (e : Option Nat) (z : Str) (m : Nat) : Bool := !decide (z = "never") && (match e with
  | none => true
  | some n => decide (n ≤ m))
def namesBad (zs : List Str) : Bool := decide (8 < zs.length) || (!(zs.map isNm).all id || !ascB zs)
def decO (ws : List Str) (m : Nat) : Option (List D) :=
  if ws = [("let" : Str)] ∨ ws = [("back" : Str)] then some [.tup [], .int (m : Nat), .bl (decide (ws = [("back" : Str)]))] else
  if ¬ ws.length = 3 ∨ ¬ ws.getD 0 "" = "refused" then none else
  if dBad (numW (ws.getD 1 "") 12) (ws.getD 1 "") m = true then none else
  if namesBad (splC (ws.getD 2 "")) = true then none else some [.tup ((splC (ws.getD 2 "")).map D.str), optN (numW (ws.getD 1 "") 12), .bl false]
def optT (o : Option (List D)) : D := match o with
  | none => .non
  | some ds => .tup ds
theorem fit_strs : ∀ {n : Nat} {zs : List Str}, (∀ z ∈ zs, PySem.PyData.strOk z = true) → fitAllD n (zs.map D.str) = true
  | n, [], _ => by cases n <;> rfl
  | n, z :: zs, h => by
    have h1 := h z List.mem_cons_self
    have ih := fit_strs (n := n) (zs := zs) fun z q => h z (List.mem_cons_of_mem _ q)
    rw [List.map_cons]
    show (fitD n (.str z) && fitAllD n (zs.map D.str)) = true
    rw [ih, Bool.and_true]
    cases n <;> exact h1
theorem eqv_strs : ∀ xs ys : List Str, eqvAllD (xs.map D.str) (ys.map D.str) = decide (xs = ys)
  | [], [] => rfl
  | [], y :: ys => by rw [decide_eq_false (by simp)]; rfl
  | x :: xs, [] => by rw [decide_eq_false (by simp)]; rfl
  | x :: xs, y :: ys => by
    rw [List.map_cons, List.map_cons]
    show ((x == y) && eqvAllD (xs.map D.str) (ys.map D.str)) = _
    rw [eqv_strs xs ys, Bool.eq_iff_iff, Bool.and_eq_true, decide_eq_true_iff, decide_eq_true_iff, beq_iff_eq, List.cons.injEq]
theorem cd_words {X : Cx} {ws : List Str} {z : Str} (hu : X.A.units + 64 < cLine) (h : OkWs ws) (hz : PySem.PyData.strOk z = true) : CmD X .Eq (.lst (ws.map D.str)) (.lst [.str z]) (decide (ws = [z])) := by
  have := cd_eqF (X := X) (d := .lst (ws.map D.str)) (e := .lst ([z].map D.str)) 2 hu (fit_strs h.ok) (fit_strs (by intro y q; rw [List.mem_singleton.mp q]; exact hz))
  rw [show eqvD (.lst (ws.map D.str)) (.lst ([z].map D.str)) = eqvAllD (ws.map D.str) ([z].map D.str) from rfl, eqv_strs] at this
  exact this
abbrev nRd : List Str := ["words", "moment", "earliest", "names", "name"]
abbrev sRd : Stmt := top 36
theorem scRd : FnScope nRd ["words", "moment"] (defScope sRd) := ⟨rfl, rfl, rfl, by decide +kernel, rfl, by decide +kernel, by decide +kernel⟩
def gRd : List D → (D → Prop) → Prop := fun ds P => ∃ (ws : List Str) (m : Nat), ds = [.lst (ws.map D.str), .int (m : Nat)] ∧ OkWs ws ∧ P = fun d => d = optT (decO ws m)
theorem ok_rd {f : Addr} {fd : FuncData} (F : Fun K "read_decision" "read_decision" sRd f fd) (T : Bt mg) (N : Gn mg) (cN : PFn P w K mg base 1 "parse_number" 2 gNum) (cI : PFn P w K mg base 1 "is_name" 1 gName) (cA : PFn P w K mg base 1 "is_ascending" 1 gAsL) : FnOk P w K mg base CX0 2 f fd ["words", "moment"] (spP K 2 gRd) := by
  refine fn_pure F scRd (by rintro ds Pd ⟨_, _, rfl, _⟩; rfl) fun cdv A outer s H E ds Pd hr hG => ?_
  obtain ⟨ws, m, rfl, hw, rfl⟩ := hG
  have nd := scRd.nd
  have hu : _ + 64 < cLine := hr.units
  have lenW : lenD (.lst (ws.map D.str)) = some ws.length := by show some _ = _; rw [List.length_map]
  have jL : ∀ {z : Str}, True := fun {_} => trivial
  refine jss_cons (js_if (t := decide (ws = [("let" : Str)]) || decide (ws = [("back" : Str)])) (jt_w (jw_or (jt_cm (jv 0 rfl) (j_lst (ja_cons j_str ja_nil)) (cd_words (z := "let") hr.units hw (by decide +kernel))) (fun _ => jw_or1 (jt_cm (jv 0 rfl) (j_lst (ja_cons j_str ja_nil)) (cd_words (z := "back") hr.units hw (by decide +kernel)))))) (fun h => ?_) (fun h => jss_nil ?_))
  · have h' : ws = [("let" : Str)] ∨ ws = [("back" : Str)] := by rw [Bool.or_eq_true, decide_eq_true_iff, decide_eq_true_iff] at h; exact h
    exact jss_cons (js_ret (j_tup (ja_cons (j_tup ja_nil) (ja_cons (jv 1 rfl) (ja_cons (j_cm (jv 0 rfl) (j_lst (ja_cons j_str ja_nil)) (cd_words (z := "back") hr.units hw (by decide +kernel))) ja_nil)))) (show _ = optT (decO ws m) by unfold decO; rw [if_pos h']; rfl))
  have h' : ¬ (ws = [("let" : Str)] ∨ ws = [("back" : Str)]) := by rw [Bool.or_eq_false_iff, decide_eq_false_iff_not, decide_eq_false_iff_not] at h; rintro (q | q); exact h.1 q; exact h.2 q
  refine jss_cons (js_if (t := !decide (ws.length = 3) || !decide (ws.getD 0 "" = "refused")) (JT.to (jt_w (jw_or (jt_cm (jb_len T (ja_cons (jv 0 rfl) ja_nil) lenW) j_int cd_neI) (fun q => jw_or1 (jt_cm (j_ix (jv 0 rfl) j_int (ixd_L (strs_at (by decide) ?_))) j_str cd_neS)))) ?_) (fun h2 => ?_) (fun h2 => jss_nil ?_))
  · rw [Bool.not_eq_false', decide_eq_true_iff] at q
    omega
  · refine congrArg (fun b => !b || !decide (ws.getD 0 "" = "refused")) (decide_eq_decide.mpr ⟨fun q => by omega, fun q => by omega⟩)
  · have h2' : ¬ ws.length = 3 ∨ ¬ ws.getD 0 "" = "refused" := by rw [Bool.or_eq_true, Bool.not_eq_true', Bool.not_eq_true', decide_eq_false_iff_not, decide_eq_false_iff_not] at h2; exact h2
    exact jss_cons (js_ret j_non (show D.non = optT (decO ws m) by unfold decO; rw [if_neg h', if_pos h2']; rfl))
  have h2' : ¬ (¬ ws.length = 3 ∨ ¬ ws.getD 0 "" = "refused") := by
    rw [Bool.or_eq_false_iff, Bool.not_eq_false', Bool.not_eq_false', decide_eq_true_iff, decide_eq_true_iff] at h2
    rintro (q | q)
    · exact q h2.1
    · exact q h2.2
  have h3 : ws.length = 3 := by
    rw [Bool.or_eq_false_iff, Bool.not_eq_false', decide_eq_true_iff] at h2
    exact h2.1
  refine jss_cons (js_set (i := 2) (J.to (j_call cN hr (ja_cons (j_ix (jv 0 rfl) j_int (ixd_L (strs_at (by decide) (by omega)))) (ja_cons (j_gI N.n12) ja_nil)) ⟨_, 12, rfl, Nat.le_trans (hw.at _) (by decide), by decide, rfl⟩ (fun _ h => h)) (d' := optN (numW (ws.getD 1 "") 12)) rfl) ?_ nd)
  generalize he : numW (ws.getD 1 "") 12 = e
  refine jss_cons (js_if (t := dBad e (ws.getD 1 "") m) (jt_w (jw_and (jt_cm (j_ix (jv 0 rfl) j_int (ixd_L (strs_at (by decide) (by omega)))) (j_gS N.never) cd_neS) (fun _ => jw_and1 ?_))) (fun h4 => ?_) (fun h4 => jss_nil ?_))
  · cases e with
    | none => exact jt_w (jw_orT (JT.to (jt_cm (jv 2 rfl) j_non cd_isN) rfl))
    | some n => exact JT.to (jt_w (jw_or (t := false) (JT.to (jt_cm (jv 2 rfl) j_non cd_isN) rfl) (fun _ => jw_or1 (jt_cm (jv 2 rfl) (jv 1 rfl) cd_leI)))) (decide_eq_decide.mpr ⟨fun q => by omega, fun q => by omega⟩)
  · exact jss_cons (js_ret j_non (show D.non = optT (decO ws m) by unfold decO; rw [if_neg h', if_neg h2', he, if_pos h4]; rfl))
  have hz := hw.at 2
  have hsl : (splC (ws.getD 2 "")).length ≤ 1002 := by have := PyProof.Rows.split_le (ws.getD 2 "") ","; unfold splC; omega
  have hsi : ∀ z ∈ splC (ws.getD 2 ""), z.length ≤ 1000 := fun z q => Nat.le_trans (split_in q) hz
  refine jss_cons (js_set (i := 3) (J.to (j_split (j_ix (jv 0 rfl) j_int (ixd_L (strs_at (by decide) (by omega)))) (ja_cons j_str ja_nil) (by decide +kernel) (le_size (by have := hw.at (2 : Int).toNat; omega))) (d' := .lst ((splC (ws.getD 2 "")).map D.str)) rfl) ?_ nd)
  have ed : decO ws m = if namesBad (splC (ws.getD 2 "")) = true then none else some [.tup ((splC (ws.getD 2 "")).map D.str), optN e, .bl false] := by
    unfold decO
    rw [if_neg h', if_neg h2', he, if_neg (by rw [h4]; decide)]
  rw [ed]
  generalize splC (ws.getD 2 "") = zs at hsl hsi
  have lenZ : lenD (.lst (zs.map D.str)) = some zs.length := by show some _ = _; rw [List.length_map]
  refine jss_cons (js_if (t := namesBad zs) (JT.to (jt_w (jw_or (jt_cm (jb_len T (ja_cons (jv 3 rfl) ja_nil) lenZ) (j_gI N.n8) cd_gtI) (fun q => jw_or (jt_not (jt_val (jb_all T (bs := zs.map isNm) (ja_cons (J.to (j_lcM (own := [("name", 4)]) (i := 4) zs D.str (fun z => D.bl (isNm z)) (ji_list (jv 3 rfl)) (blkOk_by (N := nRd) (sc := defScope sRd) (by decide +kernel)) (fun _ _ _ _ _ => pg_name nd rfl (Or.inl rfl)) (lt_size (by omega)) (fun z hm s H C cl fp => j_call cI hr (ja_cons (jv 4 rfl) ja_nil) ⟨.str z, rfl, decide_eq_true (Nat.le_trans (hsi z hm) (by decide)), rfl⟩ (fun _ h => h)) nd) (by rw [List.map_map]; rfl)) ja_nil)))) (fun _ => jw_or1 (jt_not (jt_val (j_call cA hr (ja_cons (jv 3 rfl) ja_nil) ⟨zs, rfl, ?_, rfl⟩ (fun _ h => h)))))))) ?_) (fun h5 => ?_) (fun h5 => jss_nil ?_))
  · have := of_decide_eq_false q
    omega
  · unfold namesBad
    refine congrArg (fun b => b || (!(zs.map isNm).all id || !ascB zs)) (decide_eq_decide.mpr ⟨fun q => by omega, fun q => by omega⟩)
  · exact jss_cons (js_ret j_non (show D.non = optT _ by rw [if_pos h5]; rfl))
  exact jss_cons (js_ret (j_tup (ja_cons (jb_tupleL T (ja_cons (jv 3 rfl) ja_nil)) (ja_cons (jv 2 rfl) (ja_cons j_bl ja_nil)))) (show _ = optT _ by rw [if_neg (by rw [h5]; decide)]; rfl))
end
end Toy

namespace Toy
open PySem PyProof.Rows L2 Pf
def rowOk (k g c t : Str) : Bool := (isKy k && (isNm g && inD 1 1000 (optN (numW c 4)))) && inD 0 1000000000 (optN (numW t 10))
def rowO : List Str → Option (List D)
  | k :: g :: c :: t :: d :: r => if rowOk k g c t = true then (match decO (d :: r) ((numW t 10).getD 0) with
    | none => none
    | some ds => some ([.str k, .str g, optN (numW c 4), optN (numW t 10)] ++ ds)) else none
  | _ => none
theorem rowO_short : ∀ {ws : List Str}, ws.length < 5 → rowO ws = none
  | [], _ => rfl
  | [_], _ => rfl
  | [_, _], _ => rfl
  | [_, _, _], _ => rfl
  | [_, _, _, _], _ => rfl
  | _ :: _ :: _ :: _ :: _ :: r, h => by simp only [List.length_cons] at h; omega
theorem five_of : ∀ {ws : List Str}, ¬ ws.length < 5 → ∃ k g c t d r, ws = k :: g :: c :: t :: d :: r
  | [], h => absurd (by decide) h
  | [_], h => absurd (by simp) h
  | [_, _], h => absurd (by simp) h
  | [_, _, _], h => absurd (by simp) h
  | [_, _, _, _], h => absurd (by simp) h
  | k :: g :: c :: t :: d :: r, _ => ⟨k, g, c, t, d, r, rfl⟩
theorem decO_len {ws : List Str} {m : Nat} {ds : List D} (h : decO ws m = some ds) : ds.length = 3 := by
  unfold decO at h
  split at h
  · cases h; rfl
  · split at h
    · cases h
    · split at h
      · cases h
      · split at h
        · cases h
        · cases h; rfl
theorem strOk_iff (z : Str) : PySem.PyData.strOk z = true ↔ ∀ c ∈ z.cps.toList, c < 0x110000 := by
  unfold PySem.PyData.strOk
  rw [← Array.all_toList, List.all_eq_true]
  exact ⟨fun h c hc => of_decide_eq_true (h c hc), fun h c hc => decide_eq_true (h c hc)⟩
theorem mem_join_of {c : Nat} {y p : Str} : ∀ {xs : List Str}, p ∈ xs → c ∈ p.cps.toList → c ∈ (Txt.join y xs).cps.toList
  | [], h, _ => by cases h
  | [a], h, hc => by
    rw [List.mem_singleton] at h; subst h
    rw [TL.join_eq]; exact hc
  | a :: b :: r, h, hc => by
    have e : Txt.join y (a :: b :: r) = a ++ y ++ Txt.join y (b :: r) := by rw [TL.join_eq, TL.join_eq]; rfl
    have ap : ∀ u v : Str, (u ++ v).cps.toList = u.cps.toList ++ v.cps.toList := fun u v => TL.tl_append u v
    rw [e, ap, ap]
    rcases List.mem_cons.mp h with rfl | h
    · exact List.mem_append_left _ (List.mem_append_left _ hc)
    · exact List.mem_append_right _ (mem_join_of h hc)
theorem part_sign {x y p : Str} {c : Nat} (hp : p ∈ Txt.split x y) (hc : c ∈ p.cps.toList) : c ∈ x.cps.toList := by
  have q := mem_join_of (y := y) hp hc
  rw [TL.join_eq, PySem.StrLaws.join_split] at q
  exact q
theorem ws_of {z : Str} (hz : z.length ≤ 900) (ho : PySem.PyData.strOk z = true) : OkWs (Txt.split z " ") where
  len := fun w h => Nat.le_trans (split_in h) (by omega)
  ok := fun w h => (strOk_iff w).mpr fun c hc => (strOk_iff z).mp ho c (part_sign h hc)
  few := by have := PyProof.Rows.split_le z " "; omega
def toldO (w : Str) (r : List Str) (z : Str) : D := if w = "view" then viewO r else if w = "keep" then headO r else if w = "key" then optT (rowO r) else entO (parE z)
def kindO (w : Str) : Str := if w = "view" then w else if w = "keep" then w else if w = "key" then w else "entry"
def bodyO (z : Str) : D := match Txt.split z " " with
  | [] => .non
  | w :: r => if isNon (toldO w r z) = true then .non else .tup [.str (kindO w), toldO w r z]
section
variable {P : Program} {w : World} {K : PySem.W.Frag} {mg : Str → Option Value} {base : Heap}
abbrev sRr : Stmt := top 37
theorem scRr : FnScope ["words", "key", "group", "cost", "moment", "decision"] ["words"] (defScope sRr) := ⟨rfl, rfl, rfl, by decide +kernel, rfl, by decide +kernel, by decide +kernel⟩
def gRr : List D → (D → Prop) → Prop := fun ds P => ∃ ws : List Str, ds = [.lst (ws.map D.str)] ∧ OkWs ws ∧ P = fun d => d = optT (rowO ws)
theorem ok_rr {f : Addr} {fd : FuncData} (F : Fun K "read_row" "read_row" sRr f fd) (T : Bt mg) (N : Gn mg) (G : Gd mg) (cN : PFn P w K mg base 1 "parse_number" 2 gNum) (cQ : PFn P w K mg base 2 "is_request" 3 gRq) (cM : PFn P w K mg base 2 "is_moment" 1 gMo) (cD : PFn P w K mg base 2 "read_decision" 2 gRd) : FnOk P w K mg base CX0 3 f fd ["words"] (spP K 1 gRr) := by
  refine fn_pure F scRr (by rintro ds Pd ⟨_, rfl, _⟩; rfl) fun cdv A outer s H E ds Pd hr hG => ?_
  obtain ⟨ws, rfl, hw, rfl⟩ := hG
  have nd := scRr.nd
  have lenW : lenD (.lst (ws.map D.str)) = some ws.length := by show some _ = _; rw [List.length_map]
  refine jss_cons (js_if (t := decide (ws.length < 5)) (JT.to (jt_cm (jb_len T (ja_cons (jv 0 rfl) ja_nil) lenW) j_int cd_ltI) (decide_eq_decide.mpr ⟨fun q => by omega, fun q => by omega⟩)) (fun h => ?_) (fun h => jss_nil ?_))
  · have h := of_decide_eq_true h
    exact jss_cons (js_ret j_non (show D.non = optT (rowO ws) by rw [rowO_short h]; rfl))
  have h := of_decide_eq_false h
  obtain ⟨k, g, c, t, d, r, rfl⟩ := five_of h
  have hl : 5 ≤ (k :: g :: c :: t :: d :: r).length := by omega
  have hk : prt (.str k) = true := decide_eq_true (Nat.le_trans (hw.len k (by simp)) (by decide))
  have hg : prt (.str g) = true := decide_eq_true (Nat.le_trans (hw.len g (by simp)) (by decide))
  refine jss_cons (js_patL (is := [1, 2]) (ds := [.str k, .str g]) (J.to (j_sl (jv 0 rfl) jo_none (jo_some j_int) sld_L) (congrArg D.lst ?_)) rfl ?_ (pg_lst rfl (pgs_cons (pg_name nd rfl (Or.inl rfl)) (pgs_cons (pg_name nd rfl (Or.inl rfl)) pgs_nil))))
  · rw [show (2 : Int) = ((2 : Nat) : Int) from rfl, cut_map, cut_take _ 2 (by omega)]
    rfl
  refine jss_cons (js_set (i := 3) (J.to (j_call cN hr (ja_cons (j_ix (jv 0 rfl) j_int (ixd_L (strs_at (by decide) (by omega)))) (ja_cons (j_gI N.n4) ja_nil)) ⟨_, 4, rfl, Nat.le_trans (hw.at _) (by decide), by decide, rfl⟩ (fun _ h => h)) (d' := optN (numW c 4)) rfl) ?_ nd)
  refine jss_cons (js_set (i := 4) (J.to (j_call cN hr (ja_cons (j_ix (jv 0 rfl) j_int (ixd_L (strs_at (by decide) (by omega)))) (ja_cons (j_gI G.n10) ja_nil)) ⟨_, 10, rfl, Nat.le_trans (hw.at _) (by decide), by decide, rfl⟩ (fun _ h => h)) (d' := optN (numW t 10)) rfl) ?_ nd)
  refine jss_cons (js_if (t := !rowOk k g c t) (JT.to (jt_w (jw_or (jt_not (jt_val (j_call cQ hr (ja_cons (jv 1 rfl) (ja_cons (jv 2 rfl) (ja_cons (jv 3 rfl) ja_nil))) ⟨.str k, .str g, _, rfl, hk, hg, optN_prt _, rfl⟩ (fun _ h => h)))) (fun _ => jw_or1 (jt_not (jt_val (j_call cM hr (ja_cons (jv 4 rfl) ja_nil) ⟨_, rfl, optN_prt _, rfl⟩ (fun _ h => h))))))) (Bool.not_and _ _).symm) (fun h2 => ?_) (fun h2 => jss_nil ?_))
  · rw [Bool.not_eq_true'] at h2
    exact jss_cons (js_ret j_non (show D.non = optT (rowO (k :: g :: c :: t :: d :: r)) by rw [rowO, if_neg (by rw [h2]; decide)]; rfl))
  rw [Bool.not_eq_false'] at h2
  have hm : inD 0 1000000000 (optN (numW t 10)) = true := by unfold rowOk at h2; rw [Bool.and_eq_true] at h2; exact h2.2
  have er : rowO (k :: g :: c :: t :: d :: r) = (match decO (d :: r) ((numW t 10).getD 0) with
    | none => none
    | some ds => some ([.str k, .str g, optN (numW c 4), optN (numW t 10)] ++ ds)) := by rw [rowO, if_pos h2]
  rw [er]
  obtain ⟨n, hn⟩ : ∃ n, numW t 10 = some n := by
    cases q : numW t 10 with
    | none => rw [q] at hm; cases hm
    | some n => exact ⟨n, rfl⟩
  rw [hn]
  refine jss_cons (js_set (i := 5) (j_call cD hr (ja_cons (J.to (j_sl (jv 0 rfl) (jo_some j_int) jo_none sld_L) (congrArg D.lst (strs_drop 4 (by omega)))) (ja_cons (J.to (jv 4 rfl) (d' := .int (n : Nat)) rfl) ja_nil)) ⟨d :: r, n, rfl, hw.drop 4, rfl⟩ (fun _ h => h)) ?_ nd)
  show JSs _ [] _ _ (fin fun x => x = optT (match decO (d :: r) n with
    | none => none
    | some ds => some ([.str k, .str g, optN (numW c 4), optN (some n)] ++ ds)))
  cases q : decO (d :: r) n with
  | none => exact jss_cons (js_ret (j_ifT (JT.to (jt_cm (jv 5 rfl) j_non cd_isN) rfl) j_non) rfl)
  | some ds =>
    have h3 := decO_len q
    exact jss_cons (js_ret (j_ifF (JT.to (jt_cm (jv 5 rfl) j_non cd_isN) rfl) (j_bin (j_tup (ja_cons (jv 1 rfl) (ja_cons (jv 2 rfl) (ja_cons (jv 3 rfl) (ja_cons (jv 4 rfl) ja_nil))))) (J.to (jv 5 rfl) (d' := .tup ds) rfl) (od_addT (by rw [h3]; exact le_size (by simp only [List.length_cons, List.length_nil]; omega))))) rfl)
abbrev sRb : Stmt := top 38
theorem scRb : FnScope ["body", "words", "word", "told"] ["body"] (defScope sRb) := ⟨rfl, rfl, rfl, by decide +kernel, rfl, by decide +kernel, by decide +kernel⟩
def gRb : List D → (D → Prop) → Prop := fun ds P => ∃ z : Str, ds = [.str z] ∧ z.length ≤ 900 ∧ PySem.PyData.strOk z = true ∧ P = fun d => d = bodyO z
theorem ok_rb {f : Addr} {fd : FuncData} (F : Fun K "read_body" "read_body" sRb f fd) (cV : PFn P w K mg base 4 "read_view" 1 gRv) (cH : PFn P w K mg base 5 "read_head" 1 gRh) (cR : PFn P w K mg base 3 "read_row" 1 gRr) (cE : PFn P w K mg base 4 "parse_entry" 1 gPe) : FnOk P w K mg base CX0 6 f fd ["body"] (spP K 1 gRb) := by
  refine fn_pure F scRb (by rintro ds Pd ⟨_, rfl, _⟩; rfl) fun cdv A outer s H E ds Pd hr hG => ?_
  obtain ⟨z, rfl, hz, ho, rfl⟩ := hG
  have nd := scRb.nd
  refine jss_cons (js_set (i := 1) (j_split (jv 0 rfl) (ja_cons j_str ja_nil) spc.1 (le_size (by omega))) ?_ nd)
  have hw := ws_of hz ho
  have hne : Txt.split z " " ≠ [] := split_ne spc.2.2.1
  unfold bodyO
  show JSs _ [] _ [some (.fz (.str z)), some (.fz (.lst ((Txt.split z " ").map D.str))), none, none] _
  generalize Txt.split z " " = ws at hne hw
  cases ws with
  | nil => exact absurd rfl hne
  | cons x r =>
    have e1 : cut ((x :: r).map D.str) (some (1 : Int)) none = r.map D.str := strs_drop (ws := x :: r) 1 (by simp)
    have hd : OkWs r := hw.drop 1
    refine jss_cons (js_set (i := 2) (J.to (j_ix (jv 1 rfl) j_int (ixd_L (strs_at (by decide) (by simp)))) (d' := .str x) rfl) ?_ nd)
    refine jss_mid (fun ρ => ρ = [some (.fz (.str z)), some (.fz (.lst ((x :: r).map D.str))), some (.fz (.str (kindO x))), some (.fz (toldO x r z))]) (js_if (t := decide (x = "view")) (jt_cm (jv 2 rfl) j_str cd_eqS) (fun h => ?_) (fun h => jss_cons (js_if (t := decide (x = "keep")) (jt_cm (jv 2 rfl) j_str cd_eqS) (fun h2 => ?_) (fun h2 => jss_cons (js_if (t := decide (x = "key")) (jt_cm (jv 2 rfl) j_str cd_eqS) (fun h3 => ?_) (fun h3 => ?_)))))) ?_
    · have h := of_decide_eq_true h
      refine jss_cons (js_set (i := 3) (j_call cV hr (ja_cons (J.to (j_sl (jv 1 rfl) (jo_some j_int) jo_none sld_L) (congrArg D.lst e1)) ja_nil) ⟨r, rfl, hd, rfl⟩ (fun _ h => h)) ?_ nd)
      exact jss_nil ⟨_, rfl, by unfold toldO kindO; rw [if_pos h, if_pos h]; rfl⟩
    · have h := of_decide_eq_false h
      have h2 := of_decide_eq_true h2
      refine jss_cons (js_set (i := 3) (j_call cH hr (ja_cons (J.to (j_sl (jv 1 rfl) (jo_some j_int) jo_none sld_L) (congrArg D.lst e1)) ja_nil) ⟨r, rfl, hd, rfl⟩ (fun _ h => h)) ?_ nd)
      exact jss_nil (jss_nil ⟨_, rfl, by unfold toldO kindO; rw [if_neg h, if_pos h2, if_neg h, if_pos h2]; rfl⟩)
    · have h := of_decide_eq_false h
      have h2 := of_decide_eq_false h2
      have h3 := of_decide_eq_true h3
      refine jss_cons (js_set (i := 3) (j_call cR hr (ja_cons (J.to (j_sl (jv 1 rfl) (jo_some j_int) jo_none sld_L) (congrArg D.lst e1)) ja_nil) ⟨r, rfl, hd, rfl⟩ (fun _ h => h)) ?_ nd)
      exact jss_nil (jss_nil (jss_nil ⟨_, rfl, by unfold toldO kindO; rw [if_neg h, if_neg h2, if_pos h3, if_neg h, if_neg h2, if_pos h3]; rfl⟩))
    · have h := of_decide_eq_false h
      have h2 := of_decide_eq_false h2
      have h3 := of_decide_eq_false h3
      refine jss_cons (js_par (i := 2) (j := 3) (ja_cons j_str (ja_cons (j_call cE hr (ja_cons (jv 0 rfl) ja_nil) ⟨z, rfl, by omega, rfl⟩ (fun _ h => h)) ja_nil)) ?_ nd (by rfl))
      exact jss_nil (jss_nil (jss_nil ⟨_, rfl, by unfold toldO kindO; rw [if_neg h, if_neg h2, if_neg h3, if_neg h, if_neg h2, if_neg h3]; rfl⟩))
    rintro _ rfl
    exact jss_cons (js_ret (j_ifExp (t := isNon (toldO x r z)) (JT.to (jt_cm (jv 3 rfl) j_non cd_isN) rfl) (fun _ => j_non) (fun _ => j_tup (ja_cons (jv 2 rfl) (ja_cons (jv 3 rfl) ja_nil)))) rfl)
end
end Toy

namespace Toy
open PySem PyProof.Rows L2 Pf
structure Row where
  key : Str
  grp : Str
  cost : Nat
  mom : Nat
  lack : List Str
  ear : Option Nat
  rel : Bool
def rowD (r : Row) : D := .tup [.str r.key, .str r.grp, .int (r.cost : Int), .int (r.mom : Int), .tup (r.lack.map D.str), optN r.ear, .bl r.rel]
def tailR (r : Row) : List Str := if r.lack.isEmpty = true then [if r.rel = true then ("back" : Str) else "let"] else [("refused" : Str), wordF r.ear "never", Txt.join "," r.lack]
def rwords (r : Row) : List Str := [("key" : Str), r.key, r.grp, numT r.cost, numT r.mom] ++ tailR r
def rbody (r : Row) : Str := Txt.join " " (rwords r)
structure OkRow (r : Row) : Prop where
  key : isKy r.key = true
  grp : isNm r.grp = true
  cost : 1 ≤ r.cost ∧ r.cost ≤ 1000
  mom : r.mom ≤ 1000000000
  nms : ∀ z ∈ r.lack, isNm z = true
  few : r.lack.length ≤ 8
  ear : ∀ n, r.ear = some n → n < 1000000000000
theorem OkRow.lackL {r : Row} (h : OkRow r) : (r.lack.map (·.length)).sum + r.lack.length * ("," : Str).length ≤ 104 := by
  have h1 := sum_le (xs := r.lack) (m := 12) fun z q => nm_len (h.nms z q)
  have h2 := h.few
  rw [show ("," : Str).length = 1 from by decide +kernel]
  omega
theorem join_le {y : Str} {xs : List Str} {m : Nat} (h : (xs.map (·.length)).sum + xs.length * y.length ≤ m) : (Txt.join y xs).length ≤ m := Nat.le_trans (join_len y xs) h
theorem OkRow.words {r : Row} (h : OkRow r) : (∀ x ∈ rwords r, x.length ≤ 104) ∧ (rwords r).length ≤ 8 := by
  have hl := join_le h.lackL
  have h1 := ky_len h.key
  have h2 := nm_len h.grp
  have h3 := numT_len (n := r.cost) (by have := h.cost.2; omega)
  have h4 := numT_len (n := r.mom) (by have := h.mom; omega)
  have h5 := wordF_len (o := r.ear) (z := "never") (fun n e => Nat.lt_trans (h.ear n e) (by decide)) (by decide +kernel)
  unfold rwords tailR
  split
  · refine ⟨fun x hx => ?_, by simp⟩
    simp only [List.mem_append, List.mem_cons, List.not_mem_nil, or_false] at hx
    rcases hx with (hx | hx | hx | hx | hx) | hx <;> rw [hx]
    · decide +kernel
    · omega
    · omega
    · omega
    · omega
    · split <;> decide +kernel
  · refine ⟨fun x hx => ?_, by simp⟩
    simp only [List.mem_append, List.mem_cons, List.not_mem_nil, or_false] at hx
    rcases hx with (hx | hx | hx | hx | hx) | hx | hx | hx <;> rw [hx]
    · decide +kernel
    · omega
    · omega
    · omega
    · omega
    · decide +kernel
    · omega
    · exact hl
def hwords (a b : Nat) (m : Option Nat) (v : Option View) : List Str := [("keep" : Str), numT a, numT b, wordF m "none"] ++ (match v with
  | none => []
  | some v => vwords v)
def hbody (a b : Nat) (m : Option Nat) (v : Option View) : Str := Txt.join " " (hwords a b m v)
def viewN (v : Option View) : D := match v with
  | none => .non
  | some v => viewD v
structure OkH (a b : Nat) (m : Option Nat) (v : Option View) : Prop where
  a : a < 1000000
  b : b < 1000000
  m : ∀ n, m = some n → n ≤ 1000000000
  v : ∀ x, v = some x → OkV x
theorem OkH.words {a b : Nat} {m : Option Nat} {v : Option View} (h : OkH a b m v) : (∀ x ∈ hwords a b m v, x.length ≤ 20) ∧ (hwords a b m v).length ≤ 26 := by
  have h3 := numT_len (n := a) (by have := h.a; omega)
  have h4 := numT_len (n := b) (by have := h.b; omega)
  have h5 := wordF_len (o := m) (z := "none") (fun n e => by have := h.m n e; omega) (by decide +kernel)
  have hk : ∀ x ∈ ([("keep" : Str), numT a, numT b, wordF m "none"] : List Str), x.length ≤ 20 := by
    intro x hx
    simp only [List.mem_cons, List.not_mem_nil, or_false] at hx
    rcases hx with hx | hx | hx | hx <;> rw [hx]
    · decide +kernel
    · exact h3
    · exact h4
    · exact h5
  unfold hwords
  cases v with
  | none => exact ⟨fun x hx => by rw [List.append_nil] at hx; exact hk x hx, by simp⟩
  | some v =>
    obtain ⟨k1, k2⟩ := (h.v v rfl).words
    refine ⟨fun x hx => ?_, by simp; omega⟩
    rcases List.mem_append.mp hx with hx | hx
    · exact hk x hx
    · exact k1 x hx
section
variable {P : Program} {w : World} {K : PySem.W.Frag} {mg : Str → Option Value} {base : Heap}
def gRo : List D → (D → Prop) → Prop := fun ds P => ∃ r : Row, ds = [rowD r] ∧ OkRow r ∧ P = fun d => d = .str (rbody r)
end
end Toy

namespace Toy
open PySem PyProof.Rows L2 Pf
structure GNms (zs : List Str) : Prop where
  nm : ∀ z ∈ zs, isNm z = true
  nd : zs.Nodup
section
variable {P : Program} {w : World} {K : PySem.W.Frag} {mg : Str → Option Value} {base : Heap}
end
end Toy

namespace Toy
open PySem PyProof.Rows L2 Pf
structure GdV (v : View) : Prop where
  ok : OkV v
  nms : GNms v.2.2
  pos : 1 ≤ v.2.2.length
  few : v.2.2.length ≤ 8
structure GdR (r : Row) : Prop where
  ok : OkRow r
  none' : r.lack = [] → r.ear = some r.mom
  some' : r.lack ≠ [] → r.rel = false ∧ r.lack.Pairwise ltT ∧ ∀ n, r.ear = some n → r.mom < n
section
variable {P : Program} {w : World} {K : PySem.W.Frag} {mg : Str → Option Value} {base : Heap}
end
end Toy

namespace Toy
open PySem PyProof.Rows L2 Pf
section
variable {P : Program} {w : World} {K : PySem.W.Frag} {mg : Str → Option Value} {base : Heap}
abbrev sLw : Stmt := top 87
theorem scLw : FnScope ["view"] ["view"] (defScope sLw) := ⟨rfl, rfl, rfl, by decide +kernel, rfl, by decide +kernel, by decide +kernel⟩
theorem j_word {X : Cx} {ρ : Rho} {a b e : Expr} {z : Str} {o : Option Nat} {p q r pos p1 : Pos} {m : Nat} (T : Bt X.mg) (h : J X a ρ (optN o)) (h' : J X b ρ (optN o)) (hz : J X e ρ (.str z)) (ho : ∀ n, o = some n → n < 10 ^ 14) (hg : Gl X "str" := by rfl) (he : starEach [b] X.env = (false, eval b X.env) :: starEach [] X.env := by rfl) (hpl : (backTo r (starEach [] X.env)).any (·.1) = false := by rfl) (hm : behindInMarks CmpOp.Is (.Constant .none m p) = false := by rfl) :
    J X (.IfExp (.Compare a [.Is] [.Constant .none m p] q) e (.Call (.Name "str" p1) [b] [] r) pos) ρ (.str (wordF o z)) := by
  cases o with
  | none => exact j_ifT (JT.to (jt_cm h j_non cd_isN) rfl) hz
  | some n => exact j_ifF (JT.to (jt_cm h j_non cd_isN) rfl) (jb_str T (ja_cons h' ja_nil he) (numT_log (ho n rfl)) hg he hpl)
theorem ok_lw {f : Addr} {fd : FuncData} (F : Fun K "_law_view_words" "_law_view_words" sLw f fd) (T : Bt mg) : FnOk P w K mg base CX0 1 f fd ["view"] (spP K 1 gVw) := by
  refine fn_pure F scLw (by rintro ds Pd ⟨_, rfl, _⟩; rfl) fun cdv A outer s H E ds Pd hr hG => ?_
  obtain ⟨v, rfl, hv, rfl⟩ := hG
  have nd := scLw.nd
  have j0 : ∀ {X : Cx}, True := fun {_} => trivial
  exact jss_cons (js_ret (j_bin (j_lst (ja_cons (jb_str T (ja_cons (j_ix (jv 0 rfl) j_int (ixd_T (ds := [.int (v.1 : Int), optN v.2.1, .tup (v.2.2.map D.str)]) (i := 0) (d := .int (v.1 : Int)) rfl)) ja_nil) (numT_log (Nat.lt_trans hv.num (by decide)))) (ja_cons (j_word T (j_ix (jv 0 rfl) j_int (ixd_T (ds := [.int (v.1 : Int), optN v.2.1, .tup (v.2.2.map D.str)]) (i := 1) (d := optN v.2.1) rfl)) (j_ix (jv 0 rfl) j_int (ixd_T (ds := [.int (v.1 : Int), optN v.2.1, .tup (v.2.2.map D.str)]) (i := 1) (d := optN v.2.1) rfl)) j_str (fun n e => Nat.lt_trans (hv.due n e) (by decide))) ja_nil))) (jb_listT T (ja_cons (j_ix (jv 0 rfl) j_int (ixd_T (ds := [.int (v.1 : Int), optN v.2.1, .tup (v.2.2.map D.str)]) (i := 2) (d := .tup (v.2.2.map D.str)) rfl)) ja_nil)) (od_addL (by rw [List.length_map]; exact le_size (by have := hv.few; simp only [List.length_cons, List.length_nil]; omega)))) rfl)
abbrev sLr : Stmt := top 85
theorem scLr : FnScope ["row", "words"] ["row"] (defScope sLr) := ⟨rfl, rfl, rfl, by decide +kernel, rfl, by decide +kernel, by decide +kernel⟩
theorem ok_lr {f : Addr} {fd : FuncData} (F : Fun K "_law_row_body" "_law_row_body" sLr f fd) (T : Bt mg) : FnOk P w K mg base CX0 1 f fd ["row"] (spP K 1 gRo) := by
  refine fn_pure F scLr (by rintro ds Pd ⟨_, rfl, _⟩; rfl) fun cdv A outer s H E ds Pd hr hG => ?_
  obtain ⟨r, rfl, hk, rfl⟩ := hG
  have nd := scLr.nd
  obtain ⟨w1, w2⟩ := hk.words
  have lc := numT_log (n := r.cost) (by have := hk.cost.2; omega)
  have lm := numT_log (n := r.mom) (by have := hk.mom; omega)
  generalize hR : [D.str r.key, D.str r.grp, D.int (r.cost : Int), D.int (r.mom : Int), D.tup (r.lack.map D.str), optN r.ear, D.bl r.rel] = R
  have hRD : rowD r = .tup R := by rw [← hR]; rfl
  have a0 : atI R 0 = some (.str r.key) := by rw [← hR]; rfl
  have a1 : atI R 1 = some (.str r.grp) := by rw [← hR]; rfl
  have a2 : atI R 2 = some (.int (r.cost : Int)) := by rw [← hR]; rfl
  have a3 : atI R 3 = some (.int (r.mom : Int)) := by rw [← hR]; rfl
  have a4 : atI R 4 = some (.tup (r.lack.map D.str)) := by rw [← hR]; rfl
  have a5 : atI R 5 = some (optN r.ear) := by rw [← hR]; rfl
  have a6 : atI R 6 = some (.bl r.rel) := by rw [← hR]; rfl
  rw [hRD]
  refine jss_cons (js_setN (i := 1) (jn_lst (ja_cons j_str (ja_cons (j_ix (jv 0 rfl) j_int (ixd_T a0)) (ja_cons (j_ix (jv 0 rfl) j_int (ixd_T a1)) (ja_cons (jb_str T (ja_cons (j_ix (jv 0 rfl) j_int (ixd_T a2)) ja_nil) lc) (ja_cons (jb_str T (ja_cons (j_ix (jv 0 rfl) j_int (ixd_T a3)) ja_nil) lm) ja_nil)))))) ?_ nd)
  refine jss_mid (fun ρ => ∃ sv : SV, ρ = [some (.fz (.tup R)), some sv] ∧ sv.d = .lst ((rwords r).map D.str)) (js_if (t := !r.lack.isEmpty) (JT.to (jt_cm (jb_len T (ja_cons (j_ix (jv 0 rfl) j_int (ixd_T a4)) ja_nil) (show lenD (.tup (r.lack.map D.str)) = some r.lack.length by show some _ = _; rw [List.length_map])) j_int cd_gtI) (by cases r.lack with | nil => rfl | cons z zs => exact decide_eq_true (by simp only [List.length_cons]; omega))) (fun h => ?_) (fun h => ?_)) ?_
  · rw [Bool.not_eq_true'] at h
    refine jss_freeze 1 rfl ?_
    refine jss_cons (js_set (i := 1) (j_bin (J.to (jv 1 rfl) (d' := .lst [.str "key", .str r.key, .str r.grp, .str (numT r.cost), .str (numT r.mom)]) rfl) (j_lst (ja_cons j_str (ja_cons (j_word T (j_ix (jv 0 rfl) j_int (ixd_T a5)) (j_ix (jv 0 rfl) j_int (ixd_T a5)) j_str (fun n e => Nat.lt_trans (hk.ear n e) (by decide))) (ja_cons (j_joinT (ys := r.lack) j_str (j_ix (jv 0 rfl) j_int (ixd_T a4)) (Nat.le_trans hk.lackL (by decide)) rfl) ja_nil)))) (od_addL (by simp only [List.length_cons, List.length_nil]; decide))) ?_ nd)
    exact jss_nil ⟨_, rfl, _, rfl, by unfold rwords tailR; rw [if_neg (by rw [h]; decide)]; rfl⟩
  · rw [Bool.not_eq_false'] at h
    refine jss_cons (js_append (i := 1) (ds := [.str "key", .str r.key, .str r.grp, .str (numT r.cost), .str (numT r.mom)]) rfl (J.to (j_ix (j_tup (ja_cons j_str (ja_cons j_str ja_nil))) (jb_intB T (ja_cons (j_ix (jv 0 rfl) j_int (ixd_T a6)) ja_nil)) (ixd_T (ds := [.str "let", .str "back"]) (d := .str (if r.rel = true then "back" else "let")) (by cases r.rel <;> rfl))) rfl) (by simp only [List.length_cons, List.length_nil]; decide) ?_)
    exact jss_nil ⟨_, rfl, _, rfl, by unfold rwords tailR; rw [if_pos h]; rfl⟩
  rintro _ ⟨sv, rfl, hsv⟩
  exact jss_cons (js_ret (j_join (ys := rwords r) j_str (J.to (jv 1 rfl) hsv) (join_words w1 w2 (by decide) (by decide) _ (by decide +kernel)) rfl) rfl)
abbrev sLh : Stmt := top 86
theorem scLh : FnScope ["rows", "entries", "moment", "view", "words"] ["rows", "entries", "moment", "view"] (defScope sLh) := ⟨rfl, rfl, rfl, by decide +kernel, rfl, by decide +kernel, by decide +kernel⟩
end
end Toy

namespace Toy
open PySem PyProof.Rows L2 Pf
open PySem.NumText (AllDigits digitsVal)
def wdOk (z : Str) : Bool := z.cps.toList.all fun c => !decide (c = 32) && decide (c < 128)
theorem wd_iff {z : Str} : wdOk z = true ↔ ∀ c ∈ z.cps.toList, c ≠ 32 ∧ c < 128 := by
  unfold wdOk
  rw [List.all_eq_true]
  exact ⟨fun h c hc => by have := h c hc; rw [Bool.and_eq_true, Bool.not_eq_true', decide_eq_false_iff_not, decide_eq_true_iff] at this; exact this, fun h c hc => by rw [Bool.and_eq_true, Bool.not_eq_true', decide_eq_false_iff_not, decide_eq_true_iff]; exact h c hc⟩
theorem ky_range {c : Nat} (h : kySign c = true) : (97 ≤ c ∧ c ≤ 122) ∨ (48 ≤ c ∧ c ≤ 57) ∨ c = 45 := by
  unfold kySign nmSign at h
  simp only [Bool.or_eq_true, Bool.and_eq_true, decide_eq_true_iff] at h
  rcases h with (h | h) | h
  · exact .inl h
  · exact .inr (.inl h)
  · exact .inr (.inr h)
theorem nm_range {c : Nat} (h : nmSign c = true) : (97 ≤ c ∧ c ≤ 122) ∨ (48 ≤ c ∧ c ≤ 57) := by
  unfold nmSign at h
  simp only [Bool.or_eq_true, Bool.and_eq_true, decide_eq_true_iff] at h
  exact h
theorem nm_all {z : Str} (h : isNm z = true) : ∀ c ∈ z.cps.toList, nmSign c = true := by
  unfold isNm at h
  rw [Bool.and_eq_true] at h
  exact fun c hc => List.all_eq_true.mp h.2 c hc
theorem ky_all {z : Str} (h : isKy z = true) : ∀ c ∈ z.cps.toList, kySign c = true := by
  unfold isKy at h
  rw [Bool.and_eq_true] at h
  exact fun c hc => List.all_eq_true.mp h.2 c hc
theorem wd_nm {z : Str} (h : isNm z = true) : wdOk z = true := wd_iff.mpr fun c hc => by have := nm_range (nm_all h c hc); omega
theorem wd_ky {z : Str} (h : isKy z = true) : wdOk z = true := wd_iff.mpr fun c hc => by have := ky_range (ky_all h c hc); omega
theorem wd_num (n : Nat) : wdOk (numT n) = true := wd_iff.mpr fun c hc => by have := numS_dig n c hc; omega
theorem wd_word {o : Option Nat} {z : Str} (h : wdOk z = true) : wdOk (wordF o z) = true := by
  cases o with
  | none => exact h
  | some n => exact wd_num n
theorem wd_join {y : Str} {xs : List Str} (hy : wdOk y = true) (h : ∀ x ∈ xs, wdOk x = true) : wdOk (Txt.join y xs) = true := wd_iff.mpr fun c hc => by
  rcases mem_join hc with q | ⟨x, hx, q⟩
  · exact wd_iff.mp hy c q
  · exact wd_iff.mp (h x hx) c q
theorem body_split {ws : List Str} (hne : ws ≠ []) (h : ∀ x ∈ ws, wdOk x = true) : Txt.split (Txt.join " " ws) " " = ws :=
  TL.split_join (s := 32) (S := []) (by decide +kernel) (by decide +kernel) hne fun p hp hm => (wd_iff.mp (h p hp) 32 hm).1 rfl
theorem numW_num {n k : Nat} (hk : 1 ≤ k) (h : n < 10 ^ k) : numW (numT n) k = some n := pNum_num hk h
theorem numW_word {o : Option Nat} {z : Str} {k : Nat} (hk : 1 ≤ k) (h : ∀ n, o = some n → n < 10 ^ k) (hz : numW z k = none) : numW (wordF o z) k = o := by
  cases o with
  | none => exact hz
  | some n => exact numW_num hk (h n rfl)
theorem vwords_wd {v : View} (h : GdV v) : ∀ x ∈ vwords v, wdOk x = true := by
  intro x hx
  unfold vwords at hx
  rcases List.mem_cons.mp hx with rfl | hx
  · exact wd_num _
  · rcases List.mem_cons.mp hx with rfl | hx
    · exact wd_word (by decide +kernel)
    · exact wd_nm (h.nms.nm x hx)
theorem viewO_back {v : View} (h : GdV v) : viewO (vwords v) = viewD v := by
  have hp := h.pos
  have hf := h.few
  have e0 : numW ((vwords v).getD 0 "") 6 = some v.1 := numW_num (by decide) h.ok.num
  have e1 : numW ((vwords v).getD 1 "") 6 = v.2.1 := numW_word (by decide) h.ok.due (by decide +kernel)
  have e2 : (vwords v).drop 2 = v.2.2 := rfl
  have hb : viewB (some v.1) v.2.1 v.2.2 = true := by
    unfold viewB
    have k1 : inD 0 999999 (optN (some v.1)) = true := by
      show (decide ((0 : Int) ≤ (v.1 : Int)) && decide ((v.1 : Int) ≤ 999999)) = true
      have := h.ok.num
      rw [decide_eq_true (by omega), decide_eq_true (by omega)]
      rfl
    have k2 : (isNon (optN v.2.1) || inD 0 999999 (optN v.2.1)) = true := by
      cases q : v.2.1 with
      | none => rfl
      | some n =>
        have := h.ok.due n q
        show (false || (decide ((0 : Int) ≤ (n : Int)) && decide ((n : Int) ≤ 999999))) = true
        rw [decide_eq_true (by omega), decide_eq_true (by omega)]
        rfl
    have k3 : (v.2.2.map isNm).all id = true := by
      rw [List.all_map, List.all_eq_true]
      exact fun z hz => h.nms.nm z hz
    rw [k1, k2, decide_eq_true hp, decide_eq_true hf, k3, decide_eq_true (ddL_all.mpr h.nms.nd)]
    rfl
  unfold viewO
  rw [if_neg (by unfold vwords; simp only [List.length_cons]; omega), e0, e1, e2, if_neg, if_pos hb]
  · rfl
  · intro z
    rw [Bool.and_eq_true, Bool.not_eq_true', decide_eq_false_iff_not] at z
    apply z.2
    show wordF v.2.1 "none" = "none"
    cases q : v.2.1 with
    | none => rfl
    | some n => rw [q] at z; cases z.1
def vall (v : View) : List Str := "view" :: vwords v
theorem vall_wd {v : View} (h : GdV v) : ∀ x ∈ vall v, wdOk x = true := by
  intro x hx
  rcases List.mem_cons.mp hx with rfl | hx
  · decide +kernel
  · exact vwords_wd h x hx
theorem body_view {v : View} (h : GdV v) : bodyO (vbody v) = .tup [.str "view", viewD v] := by
  unfold bodyO vbody
  rw [body_split (ws := "view" :: vwords v) (by simp) (vall_wd h)]
  dsimp only
  have e : toldO "view" (vwords v) (Txt.join " " ("view" :: vwords v)) = viewD v := by
    unfold toldO
    rw [if_pos rfl]
    exact viewO_back h
  rw [e]
  rfl
theorem tail_wd {r : Row} (h : OkRow r) : ∀ x ∈ tailR r, wdOk x = true := by
  intro x hx
  unfold tailR at hx
  split at hx
  · rw [List.mem_singleton.mp hx]
    split <;> decide +kernel
  · simp only [List.mem_cons, List.not_mem_nil, or_false] at hx
    rcases hx with hx | hx | hx <;> rw [hx]
    · decide +kernel
    · exact wd_word (by decide +kernel)
    · exact wd_join (by decide +kernel) fun z q => wd_nm (h.nms z q)
theorem rwords_wd {r : Row} (h : OkRow r) : ∀ x ∈ rwords r, wdOk x = true := by
  intro x hx
  unfold rwords at hx
  rcases List.mem_append.mp hx with hx | hx
  · simp only [List.mem_cons, List.not_mem_nil, or_false] at hx
    rcases hx with hx | hx | hx | hx | hx <;> rw [hx]
    · decide +kernel
    · exact wd_ky h.key
    · exact wd_nm h.grp
    · exact wd_num _
    · exact wd_num _
  · exact tail_wd h x hx
theorem asc_pair : ∀ {zs : List Str}, zs.Pairwise ltT → ascB zs = true
  | [], _ => rfl
  | [_], _ => rfl
  | a :: b :: r, h => by
    have h2 := asc_pair (zs := b :: r) (List.pairwise_cons.mp h).2
    unfold ascB at h2 ⊢
    show (decide (a.cps.toList < b.cps.toList) && _) = true
    have k : a.cps.toList < b.cps.toList := (List.pairwise_cons.mp h).1 b List.mem_cons_self
    rw [decide_eq_true k, Bool.true_and]
    exact h2
theorem splC_back {zs : List Str} (hne : zs ≠ []) (h : ∀ z ∈ zs, isNm z = true) : splC (Txt.join "," zs) = zs :=
  TL.split_join (s := 44) (S := []) (by decide +kernel) (by decide +kernel) hne fun p hp hm => by have := nm_range (nm_all (h p hp) 44 hm); omega
theorem names_good {zs : List Str} (h : ∀ z ∈ zs, isNm z = true) (hl : zs.length ≤ 8) (ha : zs.Pairwise ltT) : namesBad zs = false := by
  unfold namesBad
  rw [decide_eq_false (by omega), asc_pair ha, show (zs.map isNm).all id = true from by rw [List.all_map, List.all_eq_true]; exact fun z hz => h z hz]
  rfl
theorem decO_back {r : Row} (h : GdR r) : decO (tailR r) r.mom = some [.tup (r.lack.map D.str), optN r.ear, .bl r.rel] := by
  unfold tailR
  by_cases q : r.lack = []
  · rw [if_pos (by rw [q]; rfl), h.none' q, q]
    cases e : r.rel
    · rfl
    · rfl
  · have hq : ¬ r.lack.isEmpty = true := fun z => q (List.isEmpty_iff.mp z)
    obtain ⟨k1, k2, k3⟩ := h.some' q
    have ee : numW (wordF r.ear "never") 12 = r.ear := numW_word (by decide) h.ok.ear (by decide +kernel)
    rw [if_neg hq]
    unfold decO
    rw [if_neg (by rintro (z | z) <;> simp at z), if_neg (by rintro (z | z); exact z rfl; exact z rfl)]
    show (if dBad (numW (wordF r.ear "never") 12) (wordF r.ear "never") r.mom = true then none else if namesBad (splC (Txt.join "," r.lack)) = true then none else some [.tup ((splC (Txt.join "," r.lack)).map D.str), optN (numW (wordF r.ear "never") 12), .bl false]) = _
    rw [ee, splC_back q h.ok.nms, if_neg, if_neg (by rw [names_good h.ok.nms h.ok.few k2]; decide), k1]
    intro z
    unfold dBad at z
    cases e : r.ear with
    | none => rw [e] at z; cases z
    | some n =>
      rw [e, Bool.and_eq_true] at z
      have := of_decide_eq_true z.2
      have := k3 n e
      omega
theorem tail_ne (r : Row) : ∃ d t, tailR r = d :: t := by
  unfold tailR
  split
  · exact ⟨_, _, rfl⟩
  · exact ⟨_, _, rfl⟩
theorem in_int {lo hi : Int} {n : Nat} (h1 : lo ≤ n) (h2 : (n : Int) ≤ hi) : inD lo hi (.int (n : Int)) = true := by
  show (decide (lo ≤ (n : Int)) && decide ((n : Int) ≤ hi)) = true
  rw [decide_eq_true h1, decide_eq_true h2]
  rfl
theorem rowOk_back {r : Row} (h : OkRow r) : rowOk r.key r.grp (numT r.cost) (numT r.mom) = true := by
  unfold rowOk
  have hc := h.cost
  have hm := h.mom
  rw [numW_num (n := r.cost) (k := 4) (by decide) (by omega), numW_num (n := r.mom) (k := 10) (by decide) (by omega), h.key, h.grp]
  show ((true && (true && inD 1 1000 (.int (r.cost : Int)))) && inD 0 1000000000 (.int (r.mom : Int))) = true
  rw [in_int (by omega) (by omega), in_int (by omega) (by omega)]
  rfl
theorem rowO_back {r : Row} (h : GdR r) : rowO ([r.key, r.grp, numT r.cost, numT r.mom] ++ tailR r) = some [.str r.key, .str r.grp, .int (r.cost : Int), .int (r.mom : Int), .tup (r.lack.map D.str), optN r.ear, .bl r.rel] := by
  obtain ⟨d, t, e⟩ := tail_ne r
  have hb := decO_back h
  rw [e] at hb ⊢
  have hc := h.ok.cost
  have hm := h.ok.mom
  show rowO (r.key :: r.grp :: numT r.cost :: numT r.mom :: d :: t) = _
  rw [rowO, if_pos (rowOk_back h.ok), numW_num (n := r.mom) (k := 10) (by decide) (by omega), numW_num (n := r.cost) (k := 4) (by decide) (by omega)]
  rw [show (some r.mom).getD 0 = r.mom from rfl, hb]
  rfl
theorem body_row {r : Row} (h : GdR r) : bodyO (rbody r) = .tup [.str "key", rowD r] := by
  have hw := rwords_wd h.ok
  unfold bodyO rbody
  rw [body_split (ws := rwords r) (by unfold rwords; simp) hw]
  show (if isNon (toldO "key" ([r.key, r.grp, numT r.cost, numT r.mom] ++ tailR r) (Txt.join " " (rwords r))) = true then D.non else .tup [.str (kindO "key"), toldO "key" ([r.key, r.grp, numT r.cost, numT r.mom] ++ tailR r) (Txt.join " " (rwords r))]) = _
  have e : toldO "key" ([r.key, r.grp, numT r.cost, numT r.mom] ++ tailR r) (Txt.join " " (rwords r)) = rowD r := by
    unfold toldO
    rw [if_neg (by decide +kernel), if_neg (by decide +kernel), if_pos rfl, rowO_back h]
    rfl
  rw [e, show kindO "key" = "key" from by decide +kernel]
  rfl
end Toy

namespace Toy
open PySem PyProof.Rows L2 Pf
def vtail (v : Option View) : List Str := match v with
  | none => []
  | some v => vwords v
theorem hwords_eq (a b : Nat) (m : Option Nat) (v : Option View) : hwords a b m v = ("keep" : Str) :: numT a :: numT b :: wordF m "none" :: vtail v := by cases v <;> rfl
structure GdH (a b : Nat) (m : Option Nat) (v : Option View) : Prop where
  ok : OkH a b m v
  vw : ∀ x, v = some x → GdV x
theorem headO_back {a b : Nat} {m : Option Nat} {v : Option View} (h : GdH a b m v) : headO (numT a :: numT b :: wordF m "none" :: vtail v) = .tup [.int (a : Int), .int (b : Int), optN m, viewN v] := by
  have ha := h.ok.a
  have hb := h.ok.b
  have e0 : numW ((numT a :: numT b :: wordF m "none" :: vtail v).getD 0 "") 6 = some a := numW_num (by decide) (by omega)
  have e1 : numW ((numT a :: numT b :: wordF m "none" :: vtail v).getD 1 "") 6 = some b := numW_num (by decide) (by omega)
  have e2 : numW ((numT a :: numT b :: wordF m "none" :: vtail v).getD 2 "") 10 = m := numW_word (by decide) (fun n e => by have := h.ok.m n e; omega) (by decide +kernel)
  have e3 : viewO ((numT a :: numT b :: wordF m "none" :: vtail v).drop 3) = viewN v := by
    cases v with
    | none => rfl
    | some v => exact viewO_back (h.vw v rfl)
  unfold headO
  rw [if_neg (by simp only [List.length_cons]; omega), e0, e1, e2, e3, if_neg, if_neg]
  · rfl
  · intro z
    rw [Bool.and_eq_true, decide_eq_true_iff] at z
    cases v with
    | none => exact absurd z.2 (by show ¬ 3 < 3; omega)
    | some v => cases z.1
  · intro z
    unfold headBad at z
    have k : (inD 0 1000000000 (optN m) || decide ((numT a :: numT b :: wordF m "none" :: vtail v).getD 2 "" = "none")) = true := by
      cases m with
      | none => exact Bool.or_eq_true_iff.mpr (.inr (decide_eq_true rfl))
      | some n =>
        have := h.ok.m n rfl
        exact Bool.or_eq_true_iff.mpr (.inl (in_int (by omega) (by omega)))
    rw [k] at z
    cases z
theorem hwords_wd {a b : Nat} {m : Option Nat} {v : Option View} (h : GdH a b m v) : ∀ x ∈ hwords a b m v, wdOk x = true := by
  intro x hx
  rw [hwords_eq] at hx
  simp only [List.mem_cons] at hx
  rcases hx with hx | hx | hx | hx | hx
  · rw [hx]; decide +kernel
  · rw [hx]; exact wd_num _
  · rw [hx]; exact wd_num _
  · rw [hx]; exact wd_word (by decide +kernel)
  · cases v with
    | none => cases hx
    | some v => exact vwords_wd (h.vw v rfl) x hx
theorem body_head {a b : Nat} {m : Option Nat} {v : Option View} (h : GdH a b m v) : bodyO (hbody a b m v) = .tup [.str "keep", .tup [.int (a : Int), .int (b : Int), optN m, viewN v]] := by
  unfold bodyO hbody
  rw [body_split (by rw [hwords_eq]; simp) (hwords_wd h), hwords_eq]
  dsimp only
  have e : toldO "keep" (numT a :: numT b :: wordF m "none" :: vtail v) (Txt.join " " (("keep" : Str) :: numT a :: numT b :: wordF m "none" :: vtail v)) = .tup [.int (a : Int), .int (b : Int), optN m, viewN v] := by
    unfold toldO
    rw [if_neg (by decide +kernel), if_pos rfl, headO_back h]
  rw [e, show kindO "keep" = "keep" from by decide +kernel]
  rfl
theorem body_entry {es : List D} (h : entD es = true) : bodyO (lnE es) = .tup [.str "entry", .tup es] := by
  unfold bodyO
  rw [ln_split h]
  have hp := par_good h
  have key : ∀ (w : Str) (r : List Str), wds es = w :: r → ¬ w = "view" → ¬ w = "keep" → ¬ w = "key" → (match wds es with
    | [] => D.non
    | w :: r => if isNon (toldO w r (lnE es)) = true then .non else .tup [.str (kindO w), toldO w r (lnE es)]) = .tup [.str "entry", .tup es] := by
    intro w r e h1 h2 h3
    rw [e]
    dsimp only
    have e1 : toldO w r (lnE es) = .tup es := by
      unfold toldO entO
      rw [if_neg h1, if_neg h2, if_neg h3, hp, if_pos h]
    rw [e1, show kindO w = "entry" from by unfold kindO; rw [if_neg h1, if_neg h2, if_neg h3]]
    rfl
  rcases ent_shape h with ⟨k, g, c, m, rfl, _⟩ | ⟨k, m, rfl, _⟩
  · exact key "ask" _ rfl (by decide +kernel) (by decide +kernel) (by decide +kernel)
  · exact key "release" _ rfl (by decide +kernel) (by decide +kernel) (by decide +kernel)
end Toy

namespace Toy
open PySem PyProof.Rows L2 Pf
theorem strOk_wd {z : Str} (h : wdOk z = true) : PySem.PyData.strOk z = true := (strOk_iff z).mpr fun c hc => by have := (wd_iff.mp h c hc).2; omega
end Toy

namespace Toy
open PySem PyProof.Rows L2 Pf
section
variable {P : Program} {w : World} {K : PySem.W.Frag} {mg : Str → Option Value} {base : Heap}
theorem ent_at {es : List D} (h : entD es = true) : atI es (-1) = some (.int (lastOf es)) ∧ atI es 1 = some (.str (kyOf es)) := by
  rcases ent_shape h with ⟨k, g, c, m, rfl, _⟩ | ⟨k, m, rfl, _⟩ <;> exact ⟨rfl, rfl⟩
abbrev sGo : Stmt := top 15
theorem scGo : FnScope ["entry", "moment", "asked"] ["entry", "moment", "asked"] (defScope sGo) := ⟨rfl, rfl, rfl, by decide +kernel, rfl, by decide +kernel, by decide +kernel⟩
def gGo : List D → (D → Prop) → Prop := fun ds P => ∃ es m kds, ds = [.tup es, .int m, .dct kds] ∧ OkE es ∧ P = fun r => r = .bl (entD es && (!decide (lastOf es < m) && (hasD kds (.inr (kyOf es)) == isRel es)))
theorem bq (a b : Bool) : decide (a = b) = (a == b) := by cases a <;> cases b <;> rfl
theorem ok_go {f : Addr} {fd : FuncData} (F : Fun K "goes_on" "goes_on" sGo f fd) (T : Bt mg) (cE : PFn P w K mg base 3 "is_entry" 1 gEnt) : FnOk P w K mg base CX0 4 f fd ["entry", "moment", "asked"] (spP K 3 gGo) := by
  refine fn_pure F scGo (by rintro ds Pd ⟨_, _, _, rfl, _⟩; rfl) fun cdv A outer s H E ds Pd hr hG => ?_
  obtain ⟨es, m, kds, rfl, hok, rfl⟩ := hG
  have hu := Nat.lt_of_le_of_lt (Nat.add_le_add_left (by decide : 1 ≤ 64) _) hr.units
  cases he : entD es with
  | false =>
    refine jss_cons (js_ifT (JT.to (jt_w (jw_or (t := true) (u := true) (JT.to (jt_not (jt_val (j_call cE hr (ja_cons (jv 0 rfl) ja_nil) ⟨es, rfl, okP_of hok, rfl⟩ (fun _ h => h)))) (by rw [he]; rfl)) (fun h => by cases h))) rfl) (jss_cons (js_ret j_bl ?_)))
    rfl
  | true =>
    obtain ⟨e1, e2⟩ := ent_at he
    refine jss_cons (js_if (JT.to (jt_w (jw_or (t := false) (JT.to (jt_not (jt_val (j_call cE hr (ja_cons (jv 0 rfl) ja_nil) ⟨es, rfl, okP_of hok, rfl⟩ (fun _ h => h)))) (by rw [he]; rfl)) (fun _ => jw_or1 (jt_cm (j_ix (jv 0 rfl) (j_neg j_int) (ixd_T e1)) (jv 1 rfl) cd_ltI)))) (u := decide (lastOf es < m)) rfl) (fun h => ?_) (fun h => jss_nil ?_))
    · refine jss_cons (js_ret j_bl ?_)
      show D.bl false = D.bl _
      rw [h]; rfl
    · have h0 : atI es 0 = some (.str (match es with | .str z :: _ => z | _ => "")) ∧ isRel es = decide ((match es with | .str z :: _ => z | _ => "") = ("release" : Str)) := by
        rcases ent_shape he with ⟨k, g, c, m, rfl, _⟩ | ⟨k, m, rfl, _⟩ <;> exact ⟨rfl, rfl⟩
      refine jss_cons (js_ret (J.to (j_cm (j_din hu (j_ix (jv 0 rfl) j_int (ixd_T e2)) (jv 2 rfl)) (j_cm (j_ix (jv 0 rfl) j_int (ixd_T h0.1)) j_str cd_eqS) cd_eqB) ?_) rfl)
      rw [h, h0.2, bq]; rfl
end
end Toy

namespace Toy
open PySem PyProof.Rows L2 Pf
def dK {α : Type} (f : α → Str) (g : α → D) (xs : List α) : List (Key × D) := xs.map fun x => ((Sum.inr (f x) : Key), g x)
def setK {α : Type} (f : α → Str) (xs : List α) (a : α) : List α := if (xs.any fun x => decide (f x = f a)) = true then xs.map (fun x => if f x = f a then a else x) else xs ++ [a]
theorem inr_eq {a b : Str} : ((Sum.inr a : Key) = Sum.inr b) ↔ a = b := ⟨fun h => by cases h; rfl, fun h => by rw [h]⟩
theorem dK_has {α : Type} (f : α → Str) (g : α → D) (xs : List α) (k : Str) : hasD (dK f g xs) (.inr k) = xs.any fun x => decide (f x = k) := by
  unfold hasD dK
  rw [List.any_map]
  exact congrArg (fun p => List.any xs p) (funext fun x => decide_eq_decide.mpr inr_eq)
theorem dK_set {α : Type} (f : α → Str) (g : α → D) (xs : List α) (a : α) : setD (dK f g xs) (.inr (f a)) (g a) = dK f g (setK f xs a) := by
  unfold setD setK
  rw [dK_has]
  split
  · unfold dK
    rw [List.map_map, List.map_map]
    refine List.map_congr_left fun x _ => ?_
    show (if (Sum.inr (f x) : Key) = Sum.inr (f a) then ((Sum.inr (f x) : Key), g a) else ((Sum.inr (f x) : Key), g x)) = (Sum.inr (f (if f x = f a then a else x)), g (if f x = f a then a else x))
    by_cases h : f x = f a
    · rw [if_pos (inr_eq.mpr h), if_pos h, h]
    · rw [if_neg (fun z => h (inr_eq.mp z)), if_neg h]
  · unfold dK
    rw [List.map_append]; rfl
theorem dK_get {α : Type} (f : α → Str) (g : α → D) (k : Str) (xs : List α) : getD (dK f g xs) (.inr k) = (xs.find? fun x => decide (f x = k)).map g := by
  unfold getD dK
  rw [List.find?_map, Option.map_map]
  have e : ((fun kv : Key × D => decide (kv.1 = Sum.inr k)) ∘ fun x => ((Sum.inr (f x) : Key), g x)) = fun x => decide (f x = k) := funext fun x => decide_eq_decide.mpr inr_eq
  rw [e]; rfl
theorem dK_len {α : Type} (f : α → Str) (g : α → D) (xs : List α) : (dK f g xs).length = xs.length := by unfold dK; rw [List.length_map]
theorem setK_len {α : Type} (f : α → Str) (xs : List α) (a : α) : (setK f xs a).length ≤ xs.length + 1 := by
  unfold setK
  split <;> simp
theorem setK_mem {α : Type} {f : α → Str} {xs : List α} {a x : α} (h : x ∈ setK f xs a) : x = a ∨ x ∈ xs := by
  unfold setK at h
  split at h
  · obtain ⟨y, hy, e⟩ := List.mem_map.mp h
    split at e
    · exact .inl e.symm
    · exact .inr (e ▸ hy)
  · rcases List.mem_append.mp h with q | q
    · exact .inr q
    · exact .inl (List.mem_singleton.mp q)
abbrev Ask : Type := Str × Str × Nat × Nat
def askL (a : Ask) : List D := [.str a.1, .str a.2.1, .int (a.2.2.1 : Int), .int (a.2.2.2 : Int)]
def askT (a : Ask) : D := .tup (askL a)
structure OkAsk (a : Ask) : Prop where
  key : isKy a.1 = true
  grp : isNm a.2.1 = true
  cost : 1 ≤ a.2.2.1 ∧ a.2.2.1 ≤ 1000
  mom : a.2.2.2 ≤ 1000000000
inductive En where
  | ask (a : Ask)
  | rel (k : Str) (m : Nat)
def enL : En → List D
  | .ask a => .str "ask" :: askL a
  | .rel k m => [.str "release", .str k, .int (m : Int)]
def enD (e : En) : D := .tup (enL e)
def OkEn : En → Prop
  | .ask a => OkAsk a
  | .rel k m => isKy k = true ∧ m ≤ 1000000000
def enK : En → Str
  | .ask a => a.1
  | .rel k _ => k
def enM : En → Nat
  | .ask a => a.2.2.2
  | .rel _ m => m
def enR : En → Bool
  | .ask _ => false
  | .rel _ _ => true
theorem OkEn.key {e : En} (h : OkEn e) : isKy (enK e) = true := by
  cases e with
  | ask a => exact OkAsk.key h
  | rel k m => exact And.left h
theorem OkEn.mom {e : En} (h : OkEn e) : enM e ≤ 1000000000 := by
  cases e with
  | ask a => exact OkAsk.mom h
  | rel k m => exact And.right h
theorem en_ent {e : En} (h : OkEn e) : entD (enL e) = true := by
  cases e with
  | ask a =>
    have h : OkAsk a := h
    have h1 := h.cost
    have h2 := h.mom
    show (decide (("ask" : Str) = "ask") && ((kyD (.str a.1) && (nmD (.str a.2.1) && inD 1 1000 (.int (a.2.2.1 : Int)))) && inD 0 1000000000 (.int (a.2.2.2 : Int)))) = true
    rw [show kyD (.str a.1) = true from h.key, show nmD (.str a.2.1) = true from h.grp, in_int (n := a.2.2.1) (by omega) (by omega), in_int (n := a.2.2.2) (by omega) (by omega)]
    rfl
  | rel k m =>
    have h : isKy k = true ∧ m ≤ 1000000000 := h
    have h2 := h.2
    show (decide (("release" : Str) = "release") && (kyD (.str k) && inD 0 1000000000 (.int (m : Int)))) = true
    rw [show kyD (.str k) = true from h.1, in_int (n := m) (by omega) (by omega)]
    rfl
theorem en_okE {e : En} (h : OkEn e) : OkE (enL e) := by
  cases e with
  | ask a => exact ok_askE (OkAsk.key h) (OkAsk.grp h)
  | rel k m => exact ok_relE (And.left h)
theorem en_ky (e : En) : kyOf (enL e) = enK e := by cases e <;> rfl
theorem en_last (e : En) : lastOf (enL e) = (enM e : Int) := by cases e <;> rfl
theorem en_rel (e : En) : isRel (enL e) = enR e := by
  cases e with
  | ask a => show decide (("ask" : Str) = "release") = false; decide +kernel
  | rel k m => show decide (("release" : Str) = "release") = true; decide +kernel
theorem en_of {es : List D} (h : entD es = true) : ∃ e : En, es = enL e ∧ OkEn e := by
  rcases ent_shape h with ⟨k, g, c, m, rfl, h1, h2, h3, h4, h5, h6⟩ | ⟨k, m, rfl, h1, h2, h3⟩
  · refine ⟨.ask (k, g, c.toNat, m.toNat), ?_, ⟨h1, h2, ⟨by show 1 ≤ c.toNat; omega, by show c.toNat ≤ 1000; omega⟩, by show m.toNat ≤ _; omega⟩⟩
    show _ = [D.str "ask", .str k, .str g, .int ((c.toNat : Nat) : Int), .int ((m.toNat : Nat) : Int)]
    rw [show ((c.toNat : Nat) : Int) = c from by omega, show ((m.toNat : Nat) : Int) = m from by omega]
  · refine ⟨.rel k m.toNat, ?_, h1, by omega⟩
    show _ = [D.str "release", .str k, .int ((m.toNat : Nat) : Int)]
    rw [show ((m.toNat : Nat) : Int) = m from by omega]
abbrev Hd4 : Type := Nat × Nat × Option Nat × Option View
instance decHd2 : DecidableEq (Option Nat × Option View) := inferInstance
instance decHd3 : DecidableEq (Nat × Option Nat × Option View) := instDecidableEqProd
instance decHd4 : DecidableEq Hd4 := instDecidableEqProd
def hdL (h : Hd4) : List D := [.int (h.1 : Int), .int (h.2.1 : Int), optN h.2.2.1, viewN h.2.2.2]
inductive Tk where
  | en (e : En)
  | vw (v : View)
  | kp (h : Hd4) (rs : List Row)
def tkW : Tk → Str
  | .en _ => "entry"
  | .vw _ => "view"
  | .kp _ _ => "keep"
def tkD : Tk → D
  | .en e => enD e
  | .vw v => viewD v
  | .kp h rs => .tup [.tup (hdL h), .lst (rs.map rowD)]
def rAsk (r : Row) : Ask := (r.key, r.grp, r.cost, r.mom)
def rLet (r : Row) : Bool := decide (r.lack = [])
structure OkKp (h : Hd4) (rs : List Row) : Prop where
  rows : ∀ r ∈ rs, OkRow r
  many : h.1 = rs.length
  few : rs.length ≤ 4000
  mom : ∀ m, h.2.2.1 = some m → m ≤ 1000000000
  view : ∀ v, h.2.2.2 = some v → GdV v
def OkTk : Tk → Prop
  | .en e => OkEn e
  | .vw v => GdV v
  | .kp h rs => OkKp h rs
theorem rAsk_ok {r : Row} (h : OkRow r) : OkAsk (rAsk r) := ⟨h.key, h.grp, h.cost, h.mom⟩
structure PS where
  blank : Bool
  drop : Nat
  many : Nat
  mom : Option Nat
  view : Option View
  asked : List Ask
  was : List (Str × Bool)
  rel : List Str
def ps0 : PS := ⟨true, 0, 0, none, none, [], [], []⟩
def askK : List Ask → List (Key × D) := dK (fun a => a.1) askT
def wasK : List (Str × Bool) → List (Key × D) := dK (fun q => q.1) fun q => .bl q.2
def relK : List Str → List (Key × D) := dK id fun _ => .bl true
def psF (p : PS) : List (Str × D) := [("is_blank", .bl p.blank), ("dropped", .int (p.drop : Int)), ("many_entries", .int (p.many : Int)), ("moment", optN p.mom), ("view", viewN p.view), ("_asked", .dct (askK p.asked)), ("_was_let", .dct (wasK p.was)), ("_released", .dct (relK p.rel))]
def psD (C : Addr) (p : PS) : D := .ins C (psF p)
structure OkPs (p : PS) : Prop where
  asked : ∀ a ∈ p.asked, OkAsk a
  view : ∀ v, p.view = some v → GdV v
  fewA : p.asked.length ≤ 2000000
  fewW : p.was.length ≤ 2000000
  fewR : p.rel.length ≤ 2000000
def hasK {α : Type} (f : α → Str) (xs : List α) (k : Str) : Bool := xs.any fun x => decide (f x = k)
def fitsV (p : Option View) (v : View) : Bool := match p with
  | none => true
  | some u => if (u.2.1.isSome && !decide (v.2.1 = u.2.1)) = true then false else (decide (u.1 < v.1) || (decide (v.1 = u.1) && decide (v.2.2 = u.2.2)))
def desB (ns : List Nat) : Bool := (ns.zip (ns.drop 1)).any fun p => decide (p.2 < p.1)
def canB (h : Hd4) (rs : List Row) : Bool :=
  if (decide (h.1 = 0) || (decide (h.2.1 = 0) || h.2.2.1.isNone)) = true then decide (h.1 = 0) && (decide (h.2.1 = 0) && h.2.2.1.isNone)
  else if (decide (h.2.1 < h.1) || desB (rs.map (·.mom) ++ [h.2.2.1.getD 0])) = true then false else decide ((ddL (rs.map (·.key))).length = h.1)
def wasAt (p : PS) (k : Str) (d : Bool) : Bool := ((p.was.find? fun q => decide (q.1 = k)).map (·.2)).getD d
def fitsR (p : PS) (r : Row) : Bool := if (!decide (wasAt p r.key (rLet r) = rLet r)) = true then false else (!rLet r || decide (r.rel = hasK id p.rel r.key))
def toldB (p : PS) (h : Hd4) (rs : List Row) : Bool := if (!decide (h = (p.asked.length, p.many, p.mom, p.view))) = true then false else (decide (rs.map rAsk = p.asked) && (rs.map (fitsR p)).all id)
def fitsP (p : PS) : Tk → Bool
  | .en e => !decide ((enM e : Int) < ((p.mom.getD 0 : Nat) : Int)) && (hasK (fun a : Ask => a.1) p.asked (enK e) == enR e)
  | .vw v => fitsV p.view v
  | .kp h rs => if p.blank = true then canB h rs else toldB p h rs
def takeE (p : PS) : En → PS
  | .ask a => { p with asked := setK (fun a => a.1) p.asked a, mom := some a.2.2.2, many := p.many + 1 }
  | .rel k m => { p with rel := setK id p.rel k, mom := some m, many := p.many + 1 }
def takeR (p : PS) (r : Row) : PS := { p with asked := setK (fun a => a.1) p.asked (rAsk r), was := setK (fun q => q.1) p.was (r.key, rLet r), rel := if r.rel = true then setK id p.rel r.key else p.rel }
def takeH (p : PS) (h : Hd4) : PS := { p with many := h.2.1, mom := h.2.2.1, view := h.2.2.2, drop := if p.blank = true then h.2.1 else p.drop }
def takeP (p : PS) : Tk → PS
  | .en e => { takeE p e with blank := false }
  | .vw v => { p with view := some v, blank := false }
  | .kp h rs => { rs.foldl takeR (takeH p h) with blank := false }
theorem hdL_fit {h : Hd4} (hv : ∀ v, h.2.2.2 = some v → GdV v) : fitD 6 (.tup (hdL h)) = true := by
  obtain ⟨a, b, m, v⟩ := h
  have e1 : fitD 5 (optN m) = true := by cases m <;> rfl
  have e2 : fitD 5 (viewN v) = true := by
    cases v with
    | none => rfl
    | some v =>
      have g := hv v rfl
      have k1 : fitD 4 (optN v.2.1) = true := by cases v.2.1 <;> rfl
      have k2 : fitAllD 3 (v.2.2.map D.str) = true := fitStrs 3 _ fun x hx => strOk_wd (wd_nm (g.nms.nm x hx))
      show (fitD 4 (.int (v.1 : Int)) && (fitD 4 (optN v.2.1) && (fitAllD 3 (v.2.2.map D.str) && true))) = true
      rw [k1, k2]; rfl
  show (fitD 5 (.int (a : Int)) && (fitD 5 (.int (b : Int)) && (fitD 5 (optN m) && (fitD 5 (viewN v) && true)))) = true
  rw [e1, e2]; rfl
theorem eqv_opt (a b : Option Nat) : eqvD (optN a) (optN b) = decide (a = b) := by
  cases a with
  | none => cases b <;> rfl
  | some n => cases b with
    | none => rfl
    | some m =>
      show eqvD (.int (n : Int)) (.int (m : Int)) = _
      show ((n : Int) == (m : Int)) = _
      rw [Bool.eq_iff_iff, beq_iff_eq, decide_eq_true_iff]
      exact ⟨fun h => by rw [Int.ofNat_inj.mp h], fun h => by cases h; rfl⟩
theorem eqv_nat (a b : Nat) : eqvD (.int (a : Int)) (.int (b : Int)) = decide (a = b) := by
  show ((a : Int) == (b : Int)) = _
  rw [Bool.eq_iff_iff, beq_iff_eq, decide_eq_true_iff]
  exact Int.ofNat_inj
theorem eqv_str (a b : Str) : eqvD (.str a) (.str b) = decide (a = b) := by
  show (a == b) = _
  rw [Bool.eq_iff_iff, beq_iff_eq, decide_eq_true_iff]
theorem eqv_view (a b : View) : eqvD (viewD a) (viewD b) = decide (a = b) := by
  obtain ⟨a1, a2, a3⟩ := a
  obtain ⟨b1, b2, b3⟩ := b
  show (eqvD (.int (a1 : Int)) (.int (b1 : Int)) && (eqvD (optN a2) (optN b2) && (eqvAllD (a3.map D.str) (b3.map D.str) && true))) = _
  rw [eqv_nat, eqv_opt, eqv_strs, Bool.and_true]
  rw [Bool.eq_iff_iff]
  simp only [Bool.and_eq_true, decide_eq_true_iff, Prod.mk.injEq]
theorem eqv_viewN (a b : Option View) : eqvD (viewN a) (viewN b) = decide (a = b) := by
  cases a with
  | none => cases b <;> rfl
  | some a => cases b with
    | none => rfl
    | some b =>
      show eqvD (viewD a) (viewD b) = _
      rw [eqv_view]
      exact decide_eq_decide.mpr ⟨fun h => by rw [h], fun h => by cases h; rfl⟩
theorem eqv_hd (a b : Hd4) : eqvD (.tup (hdL a)) (.tup (hdL b)) = decide (a = b) := by
  obtain ⟨a1, a2, a3, a4⟩ := a
  obtain ⟨b1, b2, b3, b4⟩ := b
  show (eqvD (.int (a1 : Int)) (.int (b1 : Int)) && (eqvD (.int (a2 : Int)) (.int (b2 : Int)) && (eqvD (optN a3) (optN b3) && (eqvD (viewN a4) (viewN b4) && true)))) = _
  rw [eqv_nat, eqv_nat, eqv_opt, eqv_viewN, Bool.and_true]
  rw [Bool.eq_iff_iff]
  simp only [Bool.and_eq_true, decide_eq_true_iff, Prod.mk.injEq]
theorem eqvAll_map {α : Type} [DecidableEq α] (f : α → D) (h : ∀ a b, eqvD (f a) (f b) = decide (a = b)) : ∀ xs ys : List α, eqvAllD (xs.map f) (ys.map f) = decide (xs = ys)
  | [], [] => rfl
  | [], _ :: _ => rfl
  | _ :: _, [] => rfl
  | x :: xs, y :: ys => by
    show (eqvD (f x) (f y) && eqvAllD (xs.map f) (ys.map f)) = _
    rw [h, eqvAll_map f h xs ys, Bool.eq_iff_iff, Bool.and_eq_true, decide_eq_true_iff, decide_eq_true_iff, decide_eq_true_iff, List.cons.injEq]
theorem eqv_ask (a b : Ask) : eqvD (askT a) (askT b) = decide (a = b) := by
  obtain ⟨a1, a2, a3, a4⟩ := a
  obtain ⟨b1, b2, b3, b4⟩ := b
  show (eqvD (.str a1) (.str b1) && (eqvD (.str a2) (.str b2) && (eqvD (.int (a3 : Int)) (.int (b3 : Int)) && (eqvD (.int (a4 : Int)) (.int (b4 : Int)) && true)))) = _
  rw [eqv_nat, eqv_nat, eqv_str, eqv_str, Bool.and_true]
  rw [Bool.eq_iff_iff]
  simp only [Bool.and_eq_true, decide_eq_true_iff, Prod.mk.injEq]
theorem ask_fit {a : Ask} (h : OkAsk a) : fitD 3 (askT a) = true := by
  have k1 : PySem.PyData.strOk a.1 = true := strOk_wd (wd_ky h.key)
  have k2 : PySem.PyData.strOk a.2.1 = true := strOk_wd (wd_nm h.grp)
  show (fitD 2 (.str a.1) && (fitD 2 (.str a.2.1) && (fitD 2 (.int (a.2.2.1 : Int)) && (fitD 2 (.int (a.2.2.2 : Int)) && true)))) = true
  rw [show fitD 2 (.str a.1) = true from k1, show fitD 2 (.str a.2.1) = true from k2]
  rfl
theorem asks_fit : ∀ {xs : List Ask}, (∀ a ∈ xs, OkAsk a) → fitAllD 3 (xs.map askT) = true
  | [], _ => rfl
  | a :: xs, h => by
    show (fitD 3 (askT a) && fitAllD 3 (xs.map askT)) = true
    rw [ask_fit (h a List.mem_cons_self), asks_fit fun x hx => h x (List.mem_cons_of_mem _ hx)]
    rfl
end Toy

namespace Toy
open PySem PyProof.Rows L2 Pf
structure Kp (K : PySem.W.Frag) (mg : Str → Option Value) (C : Addr) : Prop where
  cl : Cls K C
  n0 : NoAttr K C "is_blank"
  n1 : NoAttr K C "dropped"
  n2 : NoAttr K C "many_entries"
  n3 : NoAttr K C "moment"
  n4 : NoAttr K C "view"
  n5 : NoAttr K C "_asked"
  n6 : NoAttr K C "_was_let"
  n7 : NoAttr K C "_released"
  mgC : mg "Past" = some (.ref C)
theorem lkP {p : PS} {m : Str} (h : ((((((((m == ("is_blank" : Str)) || (m == ("dropped" : Str))) || (m == ("many_entries" : Str))) || (m == ("moment" : Str))) || (m == ("view" : Str))) || (m == ("_asked" : Str))) || (m == ("_was_let" : Str))) || (m == ("_released" : Str))) = false) : (psF p).lookup m = none := by
  simp only [Bool.or_eq_false_iff] at h
  obtain ⟨⟨⟨⟨⟨⟨⟨h0, h1⟩, h2⟩, h3⟩, h4⟩, h5⟩, h6⟩, h7⟩ := h
  unfold psF
  rw [List.lookup_cons, h0, List.lookup_cons, h1, List.lookup_cons, h2, List.lookup_cons, h3, List.lookup_cons, h4, List.lookup_cons, h5, List.lookup_cons, h6, List.lookup_cons, h7]; rfl
theorem tk_prt_mom (o : Option Nat) : isNon (optN o) = o.isNone := by cases o <;> rfl
section
variable {P : Program} {w : World} {K : PySem.W.Frag} {mg : Str → Option Value} {base : Heap}
abbrev sDs : Stmt := top 40
theorem scDs : FnScope ["moments", "earlier", "later"] ["moments"] (defScope sDs) := ⟨rfl, rfl, rfl, by decide +kernel, rfl, by decide +kernel, by decide +kernel⟩
def gDs : List D → (D → Prop) → Prop := fun ds P => ∃ ns : List Nat, ds = [.lst (ns.map fun n => .int (n : Nat))] ∧ ns.length ≤ 10000 ∧ P = fun r => r = .bl (desB ns)
theorem ok_ds {f : Addr} {fd : FuncData} (F : Fun K "is_descending" "is_descending" sDs f fd) (T : Bt mg) : FnOk P w K mg base CX0 1 f fd ["moments"] (spP K 1 gDs) := by
  refine fn_pure F scDs (by rintro ds Pd ⟨_, rfl, _⟩; rfl) fun cdv A outer s H E ds Pd hr hG => ?_
  obtain ⟨zs, rfl, hl, rfl⟩ := hG
  have nd := scDs.nd
  refine jss_cons (js_ret (jb_any T (bs := (zs.zip (zs.drop 1)).map fun p => decide (p.2 < p.1)) (ja_cons (J.to (j_lc (own := [("earlier", 1), ("later", 2)]) (pat := .tp [1, 2]) (its := (zs.zip (zs.drop 1)).map fun p => (D.tup [.int (p.1 : Nat), .int (p.2 : Nat)], some (D.bl (decide (((p.2 : Nat) : Int) < ((p.1 : Nat) : Int)))))) ?_ (blkOk_by (N := ["moments", "earlier", "later"]) (sc := defScope sDs) (by decide +kernel)) (fun _ _ _ _ _ => pg_tup rfl (pgs_cons (pg_name nd rfl (Or.inl rfl)) (pgs_cons (pg_name nd rfl (Or.inl rfl)) pgs_nil))) (by decide) (by rw [List.length_map, List.length_zip]; exact lt_size (by omega)) (fun q hq => ?_) nd) ?_) ja_nil)) ?_)
  · rw [fst_map]
    have e : (((zs.map fun n : Nat => D.int (n : Nat)).zip ((zs.drop 1).map fun n : Nat => D.int (n : Nat))).map fun p => D.tup [p.1, p.2]) = (zs.zip (zs.drop 1)).map fun p => D.tup [.int (p.1 : Nat), .int (p.2 : Nat)] := by
      rw [List.zip_map, List.map_map]; rfl
    rw [← e]
    exact ji_zipL T.zip (jv 0 rfl) (J.to (j_sl (jv 0 rfl) (jo_some j_int) jo_none sld_L) (by rw [cut_map, cut_one]))
  · obtain ⟨x, hx, rfl⟩ := List.mem_map.mp hq
    exact ⟨_, rfl, fun _ _ _ _ _ => ⟨jts_nil, j_cm (jv 2 rfl) (jv 1 rfl) cd_ltI⟩⟩
  · rw [List.filterMap_map, List.map_map]
    refine congrArg D.lst ?_
    refine Eq.trans (List.filterMap_eq_map.symm ▸ rfl : _ = (zs.zip (zs.drop 1)).map fun p => D.bl (decide (((p.2 : Nat) : Int) < ((p.1 : Nat) : Int)))) ?_
    exact List.map_congr_left fun x _ => congrArg D.bl (decide_eq_decide.mpr ⟨fun q => by omega, fun q => by omega⟩)
  · show D.bl _ = D.bl (desB zs)
    unfold desB
    rw [List.any_map]; rfl
abbrev nCb : List Str := ["head", "rows", "many", "entries", "moment", "_", "moments", "row"]
abbrev sCb : Stmt := top 41
theorem scCb : FnScope nCb ["head", "rows"] (defScope sCb) := ⟨rfl, rfl, rfl, by decide +kernel, rfl, by decide +kernel, by decide +kernel⟩
def gCb : List D → (D → Prop) → Prop := fun ds P => ∃ (h : Hd4) (rs : List Row), ds = [.tup (hdL h), .lst (rs.map rowD)] ∧ rs.length ≤ 4000 ∧ P = fun r => r = .bl (canB h rs)
theorem ok_cb {f : Addr} {fd : FuncData} (F : Fun K "can_begin" "can_begin" sCb f fd) (T : Bt mg) (cD : PFn P w K mg base 1 "is_descending" 1 gDs) : FnOk P w K mg base CX0 2 f fd ["head", "rows"] (spP K 2 gCb) := by
  refine fn_pure F scCb (by rintro ds Pd ⟨_, _, rfl, _⟩; rfl) fun cdv A outer s H E ds Pd hr hG => ?_
  obtain ⟨⟨a, b, m, v⟩, rs, rfl, hl, rfl⟩ := hG
  have nd := scCb.nd
  refine jss_cons (js_pat (pat := .tp [2, 3, 4, 5]) (J.to (jv 0 rfl) (d' := .tup [.int (a : Nat), .int (b : Nat), optN m, viewN v]) rfl) rfl ?_ (pg_tup rfl (pgs_cons (pg_name nd rfl (Or.inl rfl)) (pgs_cons (pg_name nd rfl (Or.inl rfl)) (pgs_cons (pg_name nd rfl (Or.inl rfl)) (pgs_cons (pg_name nd rfl (Or.inl rfl)) pgs_nil))))))
  refine jss_cons (js_if (t := decide (a = 0) || (decide (b = 0) || m.isNone)) (JT.to (jt_w (jw_or (jt_cm (jv 2 rfl) j_int cd_eqI) (fun _ => jw_or (jt_cm (jv 3 rfl) j_int cd_eqI) (fun _ => jw_or1 (jt_cm (jv 4 rfl) j_non cd_isN))))) ?_) (fun h => ?_) (fun h => jss_nil ?_))
  · show (decide ((a : Int) = 0) || (decide ((b : Int) = 0) || isNon (optN m))) = _
    rw [tk_prt_mom, show decide ((a : Int) = 0) = decide (a = 0) from decide_eq_decide.mpr ⟨fun q => by omega, fun q => by omega⟩, show decide ((b : Int) = 0) = decide (b = 0) from decide_eq_decide.mpr ⟨fun q => by omega, fun q => by omega⟩]
  · refine jss_cons (js_ret (j_and (j_cm (jv 2 rfl) j_int cd_eqI) (fun _ => j_and (j_cm (jv 3 rfl) j_int cd_eqI) (fun _ => j_one (j_cm (jv 4 rfl) j_non cd_isN)))) ?_)
    show D.bl _ = D.bl (canB (a, b, m, v) rs)
    unfold canB
    rw [if_pos h]
    show D.bl (decide ((a : Int) = 0) && (decide ((b : Int) = 0) && isNon (optN m))) = D.bl (decide (a = 0) && (decide (b = 0) && m.isNone))
    rw [tk_prt_mom, show decide ((a : Int) = 0) = decide (a = 0) from decide_eq_decide.mpr ⟨fun q => by omega, fun q => by omega⟩, show decide ((b : Int) = 0) = decide (b = 0) from decide_eq_decide.mpr ⟨fun q => by omega, fun q => by omega⟩]
  have hm : ∃ n, m = some n := by
    cases m with
    | none => simp at h
    | some n => exact ⟨n, rfl⟩
  obtain ⟨n, rfl⟩ := hm
  refine jss_cons (js_setLcN (own := [("row", 7)]) (i := 6) (j := 7) rs rowD (fun _ => true) (fun r => D.int (r.mom : Nat)) (ji_list (jv 1 rfl)) (blkOk_by (N := nCb) (sc := defScope sCb) (by decide +kernel)) (fun _ _ _ _ _ => pg_name nd rfl (Or.inl rfl)) (lt_size (by omega)) (fun r _ _ _ _ _ _ => ⟨jts_nil, fun _ => j_ix (jv 7 rfl) j_int (ixd_T (d := .int (r.mom : Nat)) rfl)⟩) ?_ nd (by rfl))
  rw [show rs.filter (fun _ => true) = rs from List.filter_eq_self.mpr fun _ _ => rfl]
  have eL : (rs.map fun r : Row => D.int (r.mom : Nat)) ++ [D.int (n : Nat)] = (rs.map (·.mom) ++ [n]).map fun k : Nat => D.int (k : Nat) := by
    rw [List.map_append, List.map_map]; rfl
  refine jss_cons (js_if (t := decide (b < a) || desB (rs.map (·.mom) ++ [n])) (JT.to (jt_w (jw_or (jt_cm (jv 2 rfl) (jv 3 rfl) cd_gtI) (fun _ => jw_or1 (jt_val (j_call cD hr (ja_cons (J.to (j_bin (jv 6 rfl) (j_lst (ja_cons (J.to (jv 4 rfl) (d' := .int (n : Nat)) rfl) ja_nil)) (od_addL (by rw [List.length_map]; exact le_size (by simp only [List.length_cons, List.length_nil]; omega)))) (congrArg D.lst eL)) ja_nil) ⟨_, rfl, by rw [List.length_append, List.length_map]; simp only [List.length_cons, List.length_nil]; omega, rfl⟩ (fun _ h => h)))))) ?_) (fun h2 => ?_) (fun h2 => jss_nil ?_))
  · rw [show decide ((b : Int) < (a : Int)) = decide (b < a) from decide_eq_decide.mpr ⟨fun q => by omega, fun q => by omega⟩]
  · refine jss_cons (js_ret j_bl ?_)
    show D.bl false = D.bl (canB (a, b, some n, v) rs)
    unfold canB
    rw [if_neg (by rw [h]; decide)]
    show _ = D.bl (if (decide (b < a) || desB (rs.map (·.mom) ++ [n])) = true then false else _)
    rw [if_pos h2]
  · refine jss_cons (js_ret (j_cm (jb_lenSet T (xs := rs.map (·.key)) (J.to (j_lcM (own := [("row", 7)]) (i := 7) rs rowD (fun r => D.str r.key) (ji_list (jv 1 rfl)) (blkOk_by (N := nCb) (sc := defScope sCb) (by decide +kernel)) (fun _ _ _ _ _ => pg_name nd rfl (Or.inl rfl)) (lt_size (by omega)) (fun r _ _ _ _ _ _ => j_ix (jv 7 rfl) j_int (ixd_T (d := .str r.key) rfl)) nd) (by rw [List.map_map]; rfl)) (by rw [List.length_map]; exact Nat.lt_of_le_of_lt (Nat.add_le_add_right hl 1) (by decide))) (jv 2 rfl) cd_eqI) ?_)
    show D.bl _ = D.bl (canB (a, b, some n, v) rs)
    unfold canB
    rw [if_neg (by rw [h]; decide)]
    show _ = D.bl (if (decide (b < a) || desB (rs.map (·.mom) ++ [n])) = true then false else _)
    rw [if_neg (by rw [h2]; decide)]
    exact congrArg D.bl (decide_eq_decide.mpr ⟨fun q => by omega, fun q => by omega⟩)
end
end Toy

namespace Toy
open PySem PyProof.Rows L2 Pf
section
variable {P : Program} {w : World} {K : PySem.W.Frag} {mg : Str → Option Value} {base : Heap}
abbrev nFv : List Str := ["self", "view", "number", "due", "houses"]
abbrev sFv : Stmt := inClass (top 42) 4
theorem scFv : FnScope nFv ["self", "view"] (defScope sFv) := ⟨rfl, rfl, rfl, by decide +kernel, rfl, by decide +kernel, by decide +kernel⟩
def gFv (C : Addr) : List D → (D → Prop) → Prop := fun ds P => ∃ (p : PS) (v : View), ds = [psD C p, viewD v] ∧ OkPs p ∧ GdV v ∧ P = fun r => r = .bl (fitsV p.view v)
theorem houses_fit {v : View} (g : GdV v) : fitD 4 (.tup (v.2.2.map D.str)) = true := fitStrs 3 _ fun x hx => strOk_wd (wd_nm (g.nms.nm x hx))
theorem ok_fv {C : Addr} {f : Addr} {fd : FuncData} (F : Fun K "_fits_view" "Past._fits_view" sFv f fd) (X : Kp K mg C) : FnOk P w K mg base CX0 1 f fd ["self", "view"] (spP K 2 (gFv C)) := by
  refine fn_pure F scFv (by rintro ds Pd ⟨_, _, rfl, _⟩; rfl) fun cdv A outer s H E ds Pd hr hG => ?_
  obtain ⟨p, v, rfl, hp, hv, rfl⟩ := hG
  have nd := scFv.nd
  cases hu : p.view with
  | none =>
    exact jss_cons (js_ifT (JT.to (jt_cm (j_fld (jv 0 rfl) rfl X.cl X.n4) j_non cd_isN) (by rw [hu]; rfl)) (jss_cons (js_ret j_bl rfl)))
  | some u =>
    have gu := hp.view u hu
    obtain ⟨u1, u2, u3⟩ := u
    obtain ⟨v1, v2, v3⟩ := v
    refine jss_cons (js_ifF (JT.to (jt_cm (j_fld (jv 0 rfl) rfl X.cl X.n4) j_non cd_isN) (by rw [hu]; rfl)) (jss_nil ?_))
    refine jss_cons (js_pat (pat := .tp [2, 3, 4]) (J.to (j_fld (jv 0 rfl) rfl X.cl X.n4) (d' := .tup [.int (u1 : Nat), optN u2, .tup (u3.map D.str)]) (by rw [hu]; rfl)) rfl ?_ (pg_tup rfl (pgs_cons (pg_name nd rfl (Or.inl rfl)) (pgs_cons (pg_name nd rfl (Or.inl rfl)) (pgs_cons (pg_name nd rfl (Or.inl rfl)) pgs_nil)))))
    refine jss_cons (js_if (t := u2.isSome && !decide (v2 = u2)) (jt_w (jw_and (JT.to (jt_cm (jv 3 rfl) j_non cd_notN) (by cases u2 <;> rfl)) (fun _ => jw_and1 (JT.to (jt_cm (j_ix (jv 1 rfl) j_int (ixd_T (d := optN v2) rfl)) (jv 3 rfl) (cd_neF 1 hr.units (by cases v2 <;> rfl) (by cases u2 <;> rfl))) (congrArg not (eqv_opt v2 u2)))))) (fun h => ?_) (fun h => jss_nil ?_))
    · refine jss_cons (js_ret j_bl (show D.bl false = D.bl (fitsV (some (u1, u2, u3)) (v1, v2, v3)) from ?_))
      show _ = D.bl (if (u2.isSome && !decide (v2 = u2)) = true then false else _)
      rw [if_pos h]
    · refine jss_cons (js_ret (j_or (j_cm (j_ix (jv 1 rfl) j_int (ixd_T (d := .int (v1 : Nat)) rfl)) (jv 2 rfl) cd_gtI) (fun _ => j_one (j_and (j_cm (j_ix (jv 1 rfl) j_int (ixd_T (d := .int (v1 : Nat)) rfl)) (jv 2 rfl) cd_eqI) (fun _ => j_one (J.to (j_cm (j_ix (jv 1 rfl) j_int (ixd_T (d := .tup (v3.map D.str)) rfl)) (jv 4 rfl) (cd_eqF 4 hr.units (houses_fit hv) (houses_fit gu))) (d' := .bl (decide (v3 = u3))) ?_))))) ?_)
      · show D.bl (eqvAllD (v3.map D.str) (u3.map D.str)) = _
        rw [eqv_strs]
      · show D.bl _ = D.bl (if (u2.isSome && !decide (v2 = u2)) = true then false else _)
        rw [if_neg (by rw [h]; decide), show decide ((u1 : Int) < (v1 : Int)) = decide (u1 < v1) from decide_eq_decide.mpr ⟨fun q => by omega, fun q => by omega⟩, show decide ((v1 : Int) = (u1 : Int)) = decide (v1 = u1) from decide_eq_decide.mpr ⟨fun q => by omega, fun q => by omega⟩]
abbrev nFr : List Str := ["self", "row", "key", "is_let"]
abbrev sFr : Stmt := inClass (top 42) 6
theorem scFr : FnScope nFr ["self", "row"] (defScope sFr) := ⟨rfl, rfl, rfl, by decide +kernel, rfl, by decide +kernel, by decide +kernel⟩
def gFr (C : Addr) : List D → (D → Prop) → Prop := fun ds P => ∃ (p : PS) (r : Row), ds = [psD C p, rowD r] ∧ OkRow r ∧ P = fun d => d = .bl (fitsR p r)
theorem lack_fit {r : Row} (h : OkRow r) : fitD 2 (.tup (r.lack.map D.str)) = true := fitStrs 1 _ fun x hx => strOk_wd (wd_nm (h.nms x hx))
theorem was_get (p : PS) (k : Str) (d : Bool) : (getD (wasK p.was) (.inr k)).getD (.bl d) = .bl (wasAt p k d) := by
  unfold wasK wasAt
  rw [dK_get]
  cases p.was.find? fun q => decide (q.1 = k) <;> rfl
theorem ok_fr {C : Addr} {f : Addr} {fd : FuncData} (F : Fun K "_fits_row" "Past._fits_row" sFr f fd) (X : Kp K mg C) : FnOk P w K mg base CX0 1 f fd ["self", "row"] (spP K 2 (gFr C)) := by
  refine fn_pure F scFr (by rintro ds Pd ⟨_, _, rfl, _⟩; rfl) fun cdv A outer s H E ds Pd hr hG => ?_
  obtain ⟨p, r, rfl, ho, rfl⟩ := hG
  have nd := scFr.nd
  have u1 := Nat.lt_of_le_of_lt (Nat.add_le_add_left (by decide : 1 ≤ 64) _) hr.units
  refine jss_cons (js_par (i := 2) (j := 3) (ja_cons (j_ix (jv 1 rfl) j_int (ixd_T (d := .str r.key) rfl)) (ja_cons (J.to (j_cm (j_ix (jv 1 rfl) j_int (ixd_T (d := .tup (r.lack.map D.str)) rfl)) (j_tup ja_nil) (cd_eqF 2 hr.units (lack_fit ho) rfl)) (d' := .bl (rLet r)) (by rw [eqv_strsNil]; rfl)) ja_nil)) ?_ nd (by rfl))
  refine jss_cons (js_if (t := !decide (wasAt p r.key (rLet r) = rLet r)) (jt_cm (J.to (j_dgetO u1 (j_fld (jv 0 rfl) rfl X.cl X.n6) (jv 2 rfl) (jv 3 rfl)) (was_get p r.key (rLet r))) (jv 3 rfl) cd_neB) (fun h => ?_) (fun h => jss_nil ?_))
  · refine jss_cons (js_ret j_bl ?_)
    show D.bl false = D.bl (fitsR p r)
    unfold fitsR
    rw [if_pos h]
  · refine jss_cons (js_ret (j_or (j_not (jv 3 rfl)) (fun _ => j_one (j_cm (j_ix (jv 1 rfl) j_int (ixd_T (d := .bl r.rel) rfl)) (j_din u1 (jv 2 rfl) (j_fld (jv 0 rfl) rfl X.cl X.n7)) cd_eqB))) ?_)
    show D.bl _ = D.bl (fitsR p r)
    unfold fitsR relK hasK
    rw [if_neg (by rw [h]; decide), dK_has]
abbrev nTb : List Str := ["self", "head", "rows", "row"]
abbrev sTb : Stmt := inClass (top 42) 5
theorem scTb : FnScope nTb ["self", "head", "rows"] (defScope sTb) := ⟨rfl, rfl, rfl, by decide +kernel, rfl, by decide +kernel, by decide +kernel⟩
def gTb (C : Addr) : List D → (D → Prop) → Prop := fun ds P => ∃ (p : PS) (h : Hd4) (rs : List Row), ds = [psD C p, .tup (hdL h), .lst (rs.map rowD)] ∧ OkPs p ∧ OkKp h rs ∧ P = fun d => d = .bl (toldB p h rs)
theorem asked_vals (xs : List Ask) : (askK xs).map (·.2) = xs.map askT := by unfold askK dK; rw [List.map_map]; rfl
theorem ok_tb {C : Addr} {f : Addr} {fd : FuncData} (F : Fun K "_is_told_by" "Past._is_told_by" sTb f fd) (T : Bt mg) (X : Kp K mg C) (cR : PMeth P w K mg base 1 C "_fits_row" 2 (gFr C)) : FnOk P w K mg base CX0 2 f fd ["self", "head", "rows"] (spP K 3 (gTb C)) := by
  refine fn_pure F scTb (by rintro ds Pd ⟨_, _, _, rfl, _⟩; rfl) fun cdv A outer s H E ds Pd hr hG => ?_
  obtain ⟨p, h, rs, rfl, hp, hk, rfl⟩ := hG
  have nd := scTb.nd
  have few := hk.few
  have fa := hp.fewA
  have lenA : (askK p.asked).length = p.asked.length := dK_len _ _ _
  refine jss_cons (js_if (t := !decide (h = (p.asked.length, p.many, p.mom, p.view))) (JT.to (jt_cm (jv 1 rfl) (j_tup (ja_cons (J.to (jb_lenD T.len (j_fld (jv 0 rfl) rfl X.cl X.n5)) (d' := .int (p.asked.length : Nat)) (by rw [lenA])) (ja_cons (j_fld (jv 0 rfl) rfl X.cl X.n2) (ja_cons (j_fld (jv 0 rfl) rfl X.cl X.n3) (ja_cons (j_fld (jv 0 rfl) rfl X.cl X.n4) ja_nil))))) (cd_neF (e := .tup (hdL (p.asked.length, p.many, p.mom, p.view))) 6 hr.units (hdL_fit hk.view) (hdL_fit hp.view))) (congrArg not (eqv_hd h _))) (fun h1 => ?_) (fun h1 => jss_nil ?_))
  · refine jss_cons (js_ret j_bl ?_)
    show D.bl false = D.bl (toldB p h rs)
    unfold toldB
    rw [if_pos h1]
  · refine jss_cons (js_ret (j_and (t := decide (rs.map rAsk = p.asked)) (J.to (j_cm (j_lcM (own := [("row", 3)]) (i := 3) rs rowD (fun r => askT (rAsk r)) (ji_list (jv 2 rfl)) (blkOk_by (N := nTb) (sc := defScope sTb) (by decide +kernel)) (fun _ _ _ _ _ => pg_name nd rfl (Or.inl rfl)) (lt_size (by omega)) (fun r _ _ _ _ _ _ => J.to (j_sl (jv 3 rfl) jo_none (jo_some j_int) sld_T) rfl) nd) (j_listVals rfl T.list (j_fld (jv 0 rfl) rfl X.cl X.n5)) (cd_eqF 4 hr.units ?_ ?_)) ?_) (fun _ => j_one (jb_all T (bs := rs.map (fitsR p)) (ja_cons (J.to (j_lcM (own := [("row", 3)]) (i := 3) rs rowD (fun r => D.bl (fitsR p r)) (ji_list (jv 2 rfl)) (blkOk_by (N := nTb) (sc := defScope sTb) (by decide +kernel)) (fun _ _ _ _ _ => pg_name nd rfl (Or.inl rfl)) (lt_size (by omega)) (fun r hm _ _ _ _ _ => j_meth cR X.cl hr (jv 0 rfl) (lkP (by decide +kernel)) (ja_cons (jv 3 rfl) ja_nil) ⟨p, r, rfl, hk.rows r hm, rfl⟩ (fun _ h => h)) nd) (by rw [List.map_map]; rfl)) ja_nil)))) ?_)
    · show fitAllD 3 (rs.map fun r => askT (rAsk r)) = true
      rw [show (rs.map fun r => askT (rAsk r)) = (rs.map rAsk).map askT from by rw [List.map_map]; rfl]
      exact asks_fit fun a ha => by
        obtain ⟨r, hr2, rfl⟩ := List.mem_map.mp ha
        exact rAsk_ok (hk.rows r hr2)
    · show fitAllD 3 ((askK p.asked).map (·.2)) = true
      rw [asked_vals]
      exact asks_fit hp.asked
    · show D.bl (eqvAllD (rs.map fun r => askT (rAsk r)) ((askK p.asked).map (·.2))) = _
      rw [asked_vals, show (rs.map fun r => askT (rAsk r)) = (rs.map rAsk).map askT from by rw [List.map_map]; rfl, eqvAll_map askT eqv_ask]
    · show D.bl _ = D.bl (toldB p h rs)
      unfold toldB
      rw [if_neg (by rw [h1]; decide)]
abbrev nFi : List Str := ["self", "word", "told", "head", "rows"]
abbrev sFi : Stmt := inClass (top 42) 2
theorem scFi : FnScope nFi ["self", "word", "told"] (defScope sFi) := ⟨rfl, rfl, rfl, by decide +kernel, rfl, by decide +kernel, by decide +kernel⟩
def gFi (C : Addr) : List D → (D → Prop) → Prop := fun ds P => ∃ (p : PS) (t : Tk), ds = [psD C p, .str (tkW t), tkD t] ∧ OkPs p ∧ OkTk t ∧ P = fun d => d = .bl (fitsP p t)
theorem ok_fi {C : Addr} {f : Addr} {fd : FuncData} (F : Fun K "fits" "Past.fits" sFi f fd) (X : Kp K mg C) (cG : PFn P w K mg base 4 "goes_on" 3 gGo) (cC : PFn P w K mg base 2 "can_begin" 2 gCb) (cV : PMeth P w K mg base 1 C "_fits_view" 2 (gFv C)) (cT : PMeth P w K mg base 2 C "_is_told_by" 3 (gTb C)) : FnOk P w K mg base CX0 5 f fd ["self", "word", "told"] (spP K 3 (gFi C)) := by
  refine fn_pure F scFi (by rintro ds Pd ⟨_, _, rfl, _⟩; rfl) fun cdv A outer s H E ds Pd hr hG => ?_
  obtain ⟨p, t, rfl, hp, ht, rfl⟩ := hG
  have nd := scFi.nd
  cases t with
  | en e =>
    refine jss_cons (js_ifT (JT.to (jt_cm (jv 1 rfl) j_str cd_eqS) (decide_eq_true rfl)) (jss_cons (js_ret (j_call cG hr (ja_cons (jv 2 rfl) (ja_cons (J.to (j_ifExp (t := p.mom.isNone) (JT.to (jt_cm (j_fld (jv 0 rfl) rfl X.cl X.n3) j_non cd_isN) (tk_prt_mom _)) (fun _ => j_int) (fun _ => j_fld (jv 0 rfl) rfl X.cl X.n3)) (d' := .int ((p.mom.getD 0 : Nat) : Int)) ?_) (ja_cons (j_fld (jv 0 rfl) rfl X.cl X.n5) ja_nil))) ⟨enL e, _, _, rfl, en_okE ht, rfl⟩ (fun _ h => h)) ?_)))
    · cases p.mom <;> rfl
    · show D.bl (entD (enL e) && (!decide (lastOf (enL e) < ((p.mom.getD 0 : Nat) : Int)) && (hasD (askK p.asked) (.inr (kyOf (enL e))) == isRel (enL e)))) = D.bl (fitsP p (.en e))
      unfold askK
      rw [en_ent ht, en_last, en_ky, en_rel, dK_has]
      rfl
  | vw v =>
    refine jss_cons (js_ifF (JT.to (jt_cm (jv 1 rfl) j_str cd_eqS) (decide_eq_false (show ¬ ("view" : Str) = "entry" from by decide +kernel))) (jss_nil ?_))
    exact jss_cons (js_ifT (JT.to (jt_cm (jv 1 rfl) j_str cd_eqS) (decide_eq_true rfl)) (jss_cons (js_ret (j_meth cV X.cl hr (jv 0 rfl) (lkP (by decide +kernel)) (ja_cons (jv 2 rfl) ja_nil) ⟨p, v, rfl, hp, ht, rfl⟩ (fun _ h => h)) rfl)))
  | kp h rs =>
    refine jss_cons (js_ifF (JT.to (jt_cm (jv 1 rfl) j_str cd_eqS) (decide_eq_false (show ¬ ("keep" : Str) = "entry" from by decide +kernel))) (jss_nil ?_))
    refine jss_cons (js_ifF (JT.to (jt_cm (jv 1 rfl) j_str cd_eqS) (decide_eq_false (show ¬ ("keep" : Str) = "view" from by decide +kernel))) (jss_nil ?_))
    refine jss_cons (js_pat (pat := .tp [3, 4]) (J.to (jv 2 rfl) (d' := .tup [.tup (hdL h), .lst (rs.map rowD)]) rfl) rfl ?_ (pg_tup rfl (pgs_cons (pg_name nd rfl (Or.inl rfl)) (pgs_cons (pg_name nd rfl (Or.inl rfl)) pgs_nil))))
    refine jss_cons (js_ret (j_ifExp (t := p.blank) (jt_val (j_fld (jv 0 rfl) rfl X.cl X.n0)) (fun _ => j_call cC hr (ja_cons (jv 3 rfl) (ja_cons (jv 4 rfl) ja_nil)) ⟨h, rs, rfl, ht.few, rfl⟩ (fun _ h => h)) (fun _ => j_meth cT X.cl hr (jv 0 rfl) (lkP (by decide +kernel)) (ja_cons (jv 3 rfl) (ja_cons (jv 4 rfl) ja_nil)) ⟨p, h, rs, rfl, hp, ht, rfl⟩ (fun _ h => h))) ?_)
    show _ = D.bl (if p.blank = true then canB h rs else toldB p h rs)
    cases p.blank <;> rfl
end
end Toy

namespace Toy
open PySem PyProof.Rows L2 Pf
theorem mut_opt (o : Option Nat) : mutD (optN o) = false := by cases o <;> rfl
theorem mut_vw (v : Option View) : mutD (viewN v) = false := by cases v <;> rfl
theorem l8 : (8 : Nat) < 1000 := by decide
theorem lt_big {n : Nat} (h : n ≤ 3000000) : n < sizeLine := Nat.lt_of_le_of_lt h (by decide)
theorem OkPs.takeE {p : PS} {e : En} (h : OkPs p) (he : OkEn e) (ha : p.asked.length < 2000000) (hr : p.rel.length < 2000000) : OkPs { takeE p e with blank := false } := by
  cases e with
  | ask a =>
    refine ⟨fun x hx => ?_, h.view, ?_, h.fewW, h.fewR⟩
    · rcases setK_mem (f := fun a : Ask => a.1) (xs := p.asked) (a := a) hx with q | q
      · rw [q]; exact he
      · exact h.asked x q
    · have := setK_len (fun a : Ask => a.1) p.asked a
      show (setK _ p.asked a).length ≤ _
      omega
  | rel k m =>
    refine ⟨h.asked, h.view, h.fewA, h.fewW, ?_⟩
    have := setK_len id p.rel k
    show (setK _ p.rel k).length ≤ _
    omega
section
variable {P : Program} {w : World} {K : PySem.W.Frag} {mg : Str → Option Value} {base : Heap}
abbrev sPi : Stmt := inClass (top 42) 0
theorem scPi : FnScope ["self"] ["self"] (defScope sPi) := ⟨rfl, rfl, rfl, by decide +kernel, rfl, by decide +kernel, by decide +kernel⟩
def gPi (C : Addr) : D → List D → (D → D → Prop) → Prop := fun d ds P => d = .ins C [] ∧ ds = [] ∧ P = fun v d' => v = .non ∧ d' = psD C ps0
theorem ok_pi {C : Addr} {f : Addr} {fd : FuncData} (F : Fun K "__init__" "Past.__init__" sPi f fd) (X : Kp K mg C) : FnOk P w K mg base CX0 1 f fd ["self"] (spM K 1 (gPi C)) := by
  refine fn_meth F scPi (by rintro d ds Pd ⟨rfl, rfl, _⟩; rfl) fun cdv A outer s H E d ds Pd hr hG => ?_
  obtain ⟨rfl, rfl, rfl⟩ := hG
  refine jss_cons (js_fld (i := 0) rfl j_bl X.cl X.n0 (by decide) ?_)
  refine jss_cons (js_fld (i := 0) rfl j_int X.cl X.n1 (by decide) ?_)
  refine jss_cons (js_fld (i := 0) rfl j_int X.cl X.n2 (by decide) ?_)
  refine jss_cons (js_fld (i := 0) rfl j_non X.cl X.n3 (by decide) ?_)
  refine jss_cons (js_fld (i := 0) rfl j_non X.cl X.n4 (by decide) ?_)
  refine jss_cons (js_fldD0 (i := 0) rfl X.cl X.n5 (by decide) ?_)
  refine jss_cons (js_fldD0 (i := 0) rfl X.cl X.n6 (by decide) ?_)
  refine jss_cons (js_fldD0 (i := 0) rfl X.cl X.n7 (by decide) ?_)
  exact jss_nil ⟨_, rfl, rfl, rfl⟩
abbrev nTe : List Str := ["self", "entry", "key", "moment"]
abbrev sTe : Stmt := inClass (top 42) 7
theorem scTe : FnScope nTe ["self", "entry"] (defScope sTe) := ⟨rfl, rfl, rfl, by decide +kernel, rfl, by decide +kernel, by decide +kernel⟩
def gTe (C : Addr) : D → List D → (D → D → Prop) → Prop := fun d ds P => ∃ (p : PS) (e : En), d = psD C p ∧ ds = [enD e] ∧ OkEn e ∧ p.asked.length < 2000000 ∧ p.rel.length < 2000000 ∧ P = fun v d' => v = .non ∧ d' = psD C (takeE p e)
theorem ok_te {C : Addr} {f : Addr} {fd : FuncData} (F : Fun K "_take_entry" "Past._take_entry" sTe f fd) (X : Kp K mg C) : FnOk P w K mg base CX0 1 f fd ["self", "entry"] (spM K 2 (gTe C)) := by
  refine fn_meth F scTe (by rintro d ds Pd ⟨_, _, rfl, rfl, _⟩; rfl) fun cdv A outer s H E d ds Pd hr hG => ?_
  obtain ⟨p, e, rfl, rfl, ho, ha, hrl, rfl⟩ := hG
  have nd := scTe.nd
  have u1 := Nat.lt_of_le_of_lt (Nat.add_le_add_left (by decide : 1 ≤ 64) _) hr.units
  have e1 : atI (enL e) 1 = some (.str (enK e)) := by cases e <;> rfl
  have e2 : atI (enL e) (-1) = some (.int (enM e : Int)) := by cases e <;> rfl
  refine jss_cons (js_par (i := 2) (j := 3) (ja_cons (j_ix (jv 1 rfl) j_int (ixd_T e1)) (ja_cons (j_ix (jv 1 rfl) (j_neg j_int) (ixd_T e2)) ja_nil)) ?_ nd (by rfl))
  show JSs _ [0] _ [some (.ow (psD C p)), some (.fz (enD e)), some (.fz (.str (enK e))), some (.fz (.int (enM e : Int)))] _
  cases e with
  | ask a =>
    refine jss_cons (js_ifT (JT.to (jt_cm (j_ix (jv 1 rfl) j_int (ixd_T (d := .str "ask") rfl)) j_str cd_eqS) (decide_eq_true rfl)) ?_)
    refine jss_cons (js_dputF (i := 0) (d := askT a) u1 rfl (f := "_asked") (kds := askK p.asked) rfl (J.to (j_sl (jv 1 rfl) (jo_some j_int) jo_none sld_T) rfl) (jv 2 rfl) (by unfold askK; rw [dK_len]; exact lt_big (by omega)) X.cl X.n5 ?_)
    rw [show setD (askK p.asked) (.inr (enK (.ask a))) (askT a) = askK (setK (fun a => a.1) p.asked a) from dK_set (fun a : Ask => a.1) askT p.asked a]
    refine jss_nil ?_
    refine jss_cons (js_fld (i := 0) rfl (J.to (jv 3 rfl) (d' := optN (some a.2.2.2)) rfl) X.cl X.n3 l8 ?_)
    refine jss_cons (js_fldAdd (i := 0) rfl (f := "many_entries") (m := (p.many : Int)) rfl j_int X.cl X.n2 l8 ?_)
    exact jss_nil ⟨_, rfl, rfl, rfl⟩
  | rel k m =>
    refine jss_cons (js_ifF (JT.to (jt_cm (j_ix (jv 1 rfl) j_int (ixd_T (d := .str "release") rfl)) j_str cd_eqS) (decide_eq_false (by decide +kernel))) ?_)
    refine jss_cons (js_dputF (i := 0) (d := .bl true) u1 rfl (f := "_released") (kds := relK p.rel) rfl j_bl (jv 2 rfl) (by unfold relK; rw [dK_len]; exact lt_big (by omega)) X.cl X.n7 ?_)
    rw [show setD (relK p.rel) (.inr (enK (.rel k m))) (.bl true) = relK (setK id p.rel k) from dK_set id (fun _ => D.bl true) p.rel k]
    refine jss_nil ?_
    refine jss_cons (js_fld (i := 0) rfl (J.to (jv 3 rfl) (d' := optN (some m)) rfl) X.cl X.n3 l8 ?_)
    refine jss_cons (js_fldAdd (i := 0) rfl (f := "many_entries") (m := (p.many : Int)) rfl j_int X.cl X.n2 l8 ?_)
    exact jss_nil ⟨_, rfl, rfl, rfl⟩
abbrev nTs : List Str := ["self", "head", "rows", "_", "row"]
abbrev sTs : Stmt := inClass (top 42) 8
theorem scTs : FnScope nTs ["self", "head", "rows"] (defScope sTs) := ⟨rfl, rfl, rfl, by decide +kernel, rfl, by decide +kernel, by decide +kernel⟩
structure FewPs (p : PS) : Prop where
  a : p.asked.length ≤ 1900000
  w : p.was.length ≤ 1900000
  r : p.rel.length ≤ 1900000
def gTs (C : Addr) : D → List D → (D → D → Prop) → Prop := fun d ds P => ∃ (p : PS) (h : Hd4) (rs : List Row), d = psD C p ∧ ds = [.tup (hdL h), .lst (rs.map rowD)] ∧ OkKp h rs ∧ FewPs p ∧ P = fun v d' => v = .non ∧ d' = psD C (rs.foldl takeR (takeH p h))
theorem takeR_len (p : PS) (r : Row) : (takeR p r).asked.length ≤ p.asked.length + 1 ∧ (takeR p r).was.length ≤ p.was.length + 1 ∧ (takeR p r).rel.length ≤ p.rel.length + 1 := by
  refine ⟨setK_len _ _ _, setK_len _ _ _, ?_⟩
  show (if r.rel = true then setK id p.rel r.key else p.rel).length ≤ _
  split
  · exact setK_len _ _ _
  · omega
theorem takeRs_len : ∀ (rs : List Row) (p : PS), (rs.foldl takeR p).asked.length ≤ p.asked.length + rs.length ∧ (rs.foldl takeR p).was.length ≤ p.was.length + rs.length ∧ (rs.foldl takeR p).rel.length ≤ p.rel.length + rs.length
  | [], p => ⟨Nat.le_refl _, Nat.le_refl _, Nat.le_refl _⟩
  | r :: rs, p => by
    have h1 := takeR_len p r
    have h2 := takeRs_len rs (takeR p r)
    rw [List.foldl_cons, List.length_cons]
    omega
theorem foldl_take {α β : Type} (f : β → α → β) (b : β) (xs : List α) {k : Nat} {x : α} (h : xs[k]? = some x) : (xs.take (k + 1)).foldl f b = f ((xs.take k).foldl f b) x := by
  have hk := (List.getElem?_eq_some_iff.mp h).1
  rw [List.take_succ, h, List.foldl_append]
  rfl
theorem ok_ts {C : Addr} {f : Addr} {fd : FuncData} (F : Fun K "_take_snapshot" "Past._take_snapshot" sTs f fd) (X : Kp K mg C) : FnOk P w K mg base CX0 1 f fd ["self", "head", "rows"] (spM K 3 (gTs C)) := by
  refine fn_meth F scTs (by rintro d ds Pd ⟨_, _, _, rfl, rfl, _⟩; rfl) fun cdv A outer s H E d ds Pd hr hG => ?_
  obtain ⟨p, ⟨a, b, m, v⟩, rs, rfl, rfl, hk, hf, rfl⟩ := hG
  have nd := scTs.nd
  have few := hk.few
  have u1 := Nat.lt_of_le_of_lt (Nat.add_le_add_left (by decide : 1 ≤ 64) _) hr.units
  refine jss_cons (js_patF (ds := [.int (a : Nat), .int (b : Nat), optN m, viewN v]) (J.to (jv 1 rfl) rfl) (jtg_name (i := 3) (jtg_fld (i := 0) (fds := psF p) (jtg_fld (i := 0) (fds := psF { p with many := b }) (jtg_fld (i := 0) (fds := psF { p with many := b, mom := m }) jtg_nil rfl X.cl X.n4 l8 (mut_vw v)) rfl X.cl X.n3 l8 (mut_opt m)) rfl X.cl X.n2 l8) nd) ?_)
  show JSs _ [0] _ [some (.ow (psD C { p with many := b, mom := m, view := v })), some (.fz (.tup (hdL (a, b, m, v)))), some (.fz (.lst (rs.map rowD))), some (.fz (.int (a : Nat))), none] _
  refine jss_mid (fun ρ => ρ = [some (.ow (psD C (takeH p (a, b, m, v)))), some (.fz (.tup (hdL (a, b, m, v)))), some (.fz (.lst (rs.map rowD))), some (.fz (.int (a : Nat))), none]) (js_if (t := p.blank) (jt_val (j_fld (jv 0 rfl) rfl X.cl X.n0)) (fun h => ?_) (fun h => ?_)) ?_
  · refine jss_cons (js_fldS (i := 0) rfl (j_fld (jv 0 rfl) rfl X.cl X.n2) rfl X.cl X.n1 l8 ?_)
    refine jss_nil ⟨_, rfl, ?_⟩
    unfold takeH
    rw [if_pos h]; rfl
  · refine jss_nil ⟨_, rfl, ?_⟩
    unfold takeH
    rw [if_neg (by rw [h]; decide)]
  rintro _ rfl
  have hl0 := fun k => takeRs_len (rs.take k) (takeH p (a, b, m, v))
  have hA : (takeH p (a, b, m, v)).asked.length ≤ 1900000 := hf.a
  have hW : (takeH p (a, b, m, v)).was.length ≤ 1900000 := hf.w
  have hR : (takeH p (a, b, m, v)).rel.length ≤ 1900000 := hf.r
  generalize takeH p (a, b, m, v) = p1 at hl0 hA hW hR
  refine jss_cons (js_each (i := 4) rs rowD (fun k ρ => ∃ o, ρ = [some (.ow (psD C ((rs.take k).foldl takeR p1))), some (.fz (.tup (hdL (a, b, m, v)))), some (.fz (.lst (rs.map rowD))), some (.fz (.int (a : Nat))), o]) (ji_list (jv 2 rfl)) nd ⟨none, rfl⟩ ?_ ?_)
  · rintro k r _ hx ⟨o, rfl⟩
    have hkl := (List.getElem?_eq_some_iff.mp hx).1
    have hl := hl0 k
    rw [List.length_take, Nat.min_eq_left (by omega)] at hl
    have e0 : (rs.take (k + 1)).foldl takeR p1 = takeR ((rs.take k).foldl takeR p1) r := foldl_take takeR p1 rs hx
    rw [e0]
    generalize (rs.take k).foldl takeR p1 = q at hl
    show JSs _ [0] _ [some (.ow (psD C q)), some (.fz (.tup (hdL (a, b, m, v)))), some (.fz (.lst (rs.map rowD))), some (.fz (.int (a : Nat))), some (.fz (rowD r))] _
    have ho := hk.rows r (List.mem_of_getElem? hx)
    refine jss_cons (js_dputF (i := 0) (d := askT (rAsk r)) u1 rfl (f := "_asked") (kds := askK q.asked) rfl (J.to (j_sl (jv 4 rfl) jo_none (jo_some j_int) sld_T) rfl) (j_ix (jv 4 rfl) j_int (ixd_T (d := .str r.key) rfl)) (by unfold askK; rw [dK_len]; exact lt_big (by omega)) X.cl X.n5 ?_)
    rw [show setD (askK q.asked) (.inr r.key) (askT (rAsk r)) = askK (setK (fun a => a.1) q.asked (rAsk r)) from dK_set (fun a : Ask => a.1) askT q.asked (rAsk r)]
    refine jss_cons (js_dputF (i := 0) (d := .bl (rLet r)) u1 rfl (f := "_was_let") (kds := wasK q.was) rfl (J.to (j_cm (j_ix (jv 4 rfl) j_int (ixd_T (d := .tup (r.lack.map D.str)) rfl)) (j_tup ja_nil) (cd_eqF 2 hr.units (lack_fit ho) rfl)) (by rw [eqv_strsNil]; rfl)) (j_ix (jv 4 rfl) j_int (ixd_T (d := .str r.key) rfl)) (by unfold wasK; rw [dK_len]; exact lt_big (by omega)) X.cl X.n6 ?_)
    rw [show setD (wasK q.was) (.inr r.key) (.bl (rLet r)) = wasK (setK (fun z => z.1) q.was (r.key, rLet r)) from dK_set (fun z : Str × Bool => z.1) (fun z => D.bl z.2) q.was (r.key, rLet r)]
    refine jss_cons (js_if (t := r.rel) (jt_val (j_ix (jv 4 rfl) j_int (ixd_T (d := .bl r.rel) rfl))) (fun h => ?_) (fun h => jss_nil ?_))
    · refine jss_cons (js_dputF (i := 0) (d := .bl true) u1 rfl (f := "_released") (kds := relK q.rel) rfl j_bl (j_ix (jv 4 rfl) j_int (ixd_T (d := .str r.key) rfl)) (by unfold relK; rw [dK_len]; exact lt_big (by omega)) X.cl X.n7 ?_)
      rw [show setD (relK q.rel) (.inr r.key) (.bl true) = relK (setK id q.rel r.key) from dK_set id (fun _ => D.bl true) q.rel r.key]
      refine jss_nil (jss_nil ⟨some (.fz (rowD r)), ?_⟩)
      unfold takeR
      rw [if_pos h]; rfl
    · refine jss_nil ⟨some (.fz (rowD r)), ?_⟩
      unfold takeR
      rw [if_neg (by rw [h]; decide)]; rfl
  · rintro _ ⟨o, rfl⟩
    rw [List.take_length]
    exact jss_nil ⟨_, rfl, rfl, rfl⟩
abbrev sTk : Stmt := inClass (top 42) 3
theorem scTk : FnScope ["self", "word", "told"] ["self", "word", "told"] (defScope sTk) := ⟨rfl, rfl, rfl, by decide +kernel, rfl, by decide +kernel, by decide +kernel⟩
def gTk (C : Addr) : D → List D → (D → D → Prop) → Prop := fun d ds P => ∃ (p : PS) (t : Tk), d = psD C p ∧ ds = [.str (tkW t), tkD t] ∧ OkTk t ∧ FewPs p ∧ P = fun v d' => v = .non ∧ d' = psD C (takeP p t)
theorem ok_tk {C : Addr} {f : Addr} {fd : FuncData} (F : Fun K "take" "Past.take" sTk f fd) (X : Kp K mg C) (mE : MMeth P w K mg base 1 C "_take_entry" 2 (gTe C)) (mS : MMeth P w K mg base 1 C "_take_snapshot" 3 (gTs C)) : FnOk P w K mg base CX0 2 f fd ["self", "word", "told"] (spM K 3 (gTk C)) := by
  refine fn_meth F scTk (by rintro d ds Pd ⟨_, _, rfl, rfl, _⟩; rfl) fun cdv A outer s H E d ds Pd hr hG => ?_
  obtain ⟨p, t, rfl, rfl, ht, hf, rfl⟩ := hG
  have nd := scTk.nd
  cases t with
  | en e =>
    refine jss_cons (js_ifT (JT.to (jt_cm (jv 1 rfl) j_str cd_eqS) (decide_eq_true rfl)) (jss_cons (js_dropM (jm_meth (i := 0) mE X.cl hr rfl (lkP (by decide +kernel)) (ja_cons (jv 2 rfl) ja_nil) ⟨p, e, rfl, rfl, ht, by have := hf.a; omega, by have := hf.r; omega, rfl⟩) ?_)))
    rintro _ _ ⟨_, ⟨_, rfl⟩, rfl⟩
    refine jss_nil (jss_cons (js_fld (i := 0) rfl j_bl X.cl X.n0 l8 ?_))
    exact jss_nil ⟨_, rfl, rfl, rfl⟩
  | vw v =>
    refine jss_cons (js_ifF (JT.to (jt_cm (jv 1 rfl) j_str cd_eqS) (decide_eq_false (show ¬ ("view" : Str) = "entry" from by decide +kernel))) (jss_cons (js_ifT (JT.to (jt_cm (jv 1 rfl) j_str cd_eqS) (decide_eq_true rfl)) (jss_cons (js_fld (i := 0) rfl (jv 2 rfl) X.cl X.n4 l8 ?_)))))
    refine jss_nil (jss_nil (jss_cons (js_fld (i := 0) rfl j_bl X.cl X.n0 l8 ?_)))
    exact jss_nil ⟨_, rfl, rfl, rfl⟩
  | kp h rs =>
    refine jss_cons (js_ifF (JT.to (jt_cm (jv 1 rfl) j_str cd_eqS) (decide_eq_false (show ¬ ("keep" : Str) = "entry" from by decide +kernel))) (jss_cons (js_ifF (JT.to (jt_cm (jv 1 rfl) j_str cd_eqS) (decide_eq_false (show ¬ ("keep" : Str) = "view" from by decide +kernel))) (jss_cons (js_dropM (jm_meth (i := 0) mS X.cl hr rfl (lkP (by decide +kernel)) (ja_cons (j_ix (jv 2 rfl) j_int (ixd_T (d := .tup (hdL h)) rfl)) (ja_cons (j_ix (jv 2 rfl) j_int (ixd_T (d := .lst (rs.map rowD)) rfl)) ja_nil)) ⟨p, h, rs, rfl, rfl, ht, hf, rfl⟩) ?_)))))
    rintro _ _ ⟨_, ⟨_, rfl⟩, rfl⟩
    refine jss_nil (jss_nil (jss_cons (js_fld (i := 0) rfl j_bl X.cl X.n0 l8 ?_)))
    exact jss_nil ⟨_, rfl, rfl, rfl⟩
end
end Toy

namespace Toy.R39
open PySem PyProof.Rows L2 Pf Toy
section
variable {P : Program} {w : World} {K : PySem.W.Frag} {mg : Str → Option Value} {base : Heap}
theorem lt_size {n : Nat} (h : n ≤ 1000000) : n < sizeLine := Nat.lt_of_le_of_lt h (by decide)
theorem le_size {n : Nat} (h : n ≤ 1000000) : n ≤ sizeLine := Nat.le_trans h (by decide)
end
end Toy.R39

namespace Toy.R39
open PySem PyProof.Rows L2 Pf Toy
section
variable {P : Program} {w : World} {K : PySem.W.Frag} {mg : Str → Option Value} {base : Heap}
/-- the module's constants -/
structure Gb (mg : Str → Option Value) : Prop where
  digs : ∃ t, mg "DIGITS" = some (.str "0123456789" t)
  longest : ∃ t, mg "LONGEST_BODY" = some (.int 700 t)
  prime : ∃ t, mg "PRIME" = some (.int 997 t)
  sized : ∃ t, mg "SIZE_DIGITS" = some (.int 3 t)
  numd : ∃ t, mg "NUMBER_DIGITS_records" = some (.int 6 t)
  endn : ∃ t, mg "END" = some (.int 7 t)
def dig3 (n : Nat) : List Nat := [48 + n / 100, 48 + n / 10 % 10, 48 + n % 10]
def placedN (cs : List Nat) : Nat := (cs.zipIdx.map fun p => (1 + p.2) * p.1).sum
def chkL (cs : List Nat) : List Nat := dig3 (cs.sum % 997) ++ dig3 (placedN cs % 997)
theorem chk_len (cs : List Nat) : (chkL cs).length = 6 := rfl
theorem sum_cast : ∀ cs : List Nat, (cs.map fun c : Nat => (c : Int)).sum = ((cs.sum : Nat) : Int)
  | [] => rfl
  | c :: cs => by rw [List.map_cons, List.sum_cons, sum_cast cs, List.sum_cons]; omega
abbrev nChk : List Str := ["text", "plain", "placed", "sign", "place"]
abbrev sChk : Stmt := top 50
theorem scChk : FnScope nChk ["text"] (defScope sChk) := ⟨rfl, rfl, rfl, by decide +kernel, rfl, by decide +kernel, by decide +kernel⟩
def gChk : List D → (D → Prop) → Prop := fun ds P => ∃ cs : List Nat, ds = [.str (tx cs)] ∧ cs.length ≤ 200000 ∧ P = fun d => d = .str (tx (chkL cs))
theorem ok_chk {f : Addr} {fd : FuncData} (F : Fun K "check_digits" "check_digits" sChk f fd) (T : Bt mg) (G : Gb mg) (ho : mg "ord" = none) : FnOk P w K mg base CX0 1 f fd ["text"] (spP K 1 gChk) := by
  refine fn_pure F scChk (by rintro ds Pd ⟨_, rfl, _⟩; rfl) fun cdv A outer s H E ds Pd hr hG => ?_
  obtain ⟨cs, rfl, hl, rfl⟩ := hG
  have nd := scChk.nd
  refine jss_cons (js_set (i := 1) (J.to (j_bin (jb_sum T (ns := cs.map fun c : Nat => (c : Int)) (ja_cons (J.to (j_lcM (own := [("sign", 3)]) (i := 3) cs (fun c : Nat => D.str ⟨#[c]⟩) (fun c : Nat => D.int (c : Int)) (ji_tx (jv 0 rfl)) (blkOk_by (N := nChk) (sc := defScope sChk) (by decide +kernel)) (fun _ _ _ _ _ => pg_name nd rfl (Or.inl rfl)) (lt_size (by omega)) (fun c hc s H C cl fp => jb_ord ho (ja_cons (jv 3 rfl) ja_nil)) nd) (by rw [List.map_map]; rfl)) ja_nil)) (j_gI G.prime) (od_modI (by decide))) (d' := .int ((cs.sum % 997 : Nat) : Int)) (by rw [sum_cast]; exact congrArg D.int (by omega))) ?_ nd)
  refine jss_cons (js_set (i := 2) (J.to (j_bin (jb_sum T (ns := (cs.zipIdx.map fun p => (1 + p.2) * p.1).map fun c : Nat => (c : Int)) (ja_cons (J.to (j_lc (own := [("place", 4), ("sign", 3)]) (pat := .tp [4, 3]) (its := cs.zipIdx.map fun p => (D.tup [.int (1 + (p.2 : Nat)), .str ⟨#[p.1]⟩], some (D.int ((((1 + p.2) * p.1 : Nat)) : Int)))) (by rw [show (cs.zipIdx.map fun p => (D.tup [.int (1 + (p.2 : Nat)), .str ⟨#[p.1]⟩], some (D.int ((((1 + p.2) * p.1 : Nat)) : Int)))).map (·.1) = enumD (tx cs) 1 from by rw [List.map_map]; rfl]; exact ji_enumX T (jv 0 rfl) (by decide) (by decide)) (blkOk_by (N := nChk) (sc := defScope sChk) (by decide +kernel)) (fun _ _ _ _ _ => pg_tup rfl (pgs_cons (pg_name nd rfl (Or.inl rfl)) (pgs_cons (pg_name nd rfl (Or.inl rfl)) pgs_nil))) (by decide) (by rw [List.length_map, List.length_zipIdx]; exact lt_size (by omega)) (fun q hq => ?_) nd) ?_) ja_nil)) (j_gI G.prime) (od_modI (by decide))) (d' := .int ((placedN cs % 997 : Nat) : Int)) (by rw [sum_cast]; exact congrArg D.int (by unfold placedN; omega))) ?_ nd)
  · obtain ⟨p, hp, rfl⟩ := List.mem_map.mp hq
    have hlt : p.2 < cs.length := by
      have := List.mem_zipIdx (x := p.1) (i := p.2) (k := 0) hp
      omega
    refine ⟨_, rfl, fun _ _ _ _ _ => ⟨jts_nil, J.to (j_bin (jv 4 rfl) (jb_ord ho (ja_cons (jv 3 rfl) ja_nil)) (od_mulI (cmulL (by show -(2 ^ 64) < (1 + (p.2 : Nat) : Int); omega) (by show (1 + (p.2 : Nat) : Int) < 2 ^ 64; omega)))) ?_⟩⟩
    exact congrArg D.int (by rw [Int.natCast_mul]; rfl)
  · rw [List.filterMap_map, List.map_map, List.map_map]
    exact congrArg D.lst (List.filterMap_eq_map (f := fun p : Nat × Nat => D.int ((((1 + p.2) * p.1 : Nat)) : Int)) ▸ rfl)
  refine jss_cons (js_ret (j_fs (.cons (j_fmt3 (jv 1 rfl) (by omega)) (.cons (j_fmt3 (jv 2 rfl) (by omega)) .nil)) rfl ?_) ?_)
  · show (joinS Str.empty [d3 _, d3 _]).length ≤ _
    unfold joinS joinS joinS
    rw [app_len, app_len]
    exact le_size (by show 0 + 3 + 3 ≤ _; decide)
  · exact congrArg D.str (by show (tx [] ++ tx (dig3 _)) ++ tx (dig3 _) = _; rw [tx_app, tx_app]; rfl)
theorem numS_tx (n : Int) : ((toString n : String) : Str) = tx (numS n) := (tx_of _).symm
theorem numS_len {n : Int} (h0 : 0 ≤ n) (h1 : n < 2000000) : (numS n).length ≤ 10 := by
  have := PySem.W.KT.len_num h0 (by omega)
  unfold numS
  rw [Array.length_toList]
  exact this
theorem log_of {n : Int} (h0 : 0 ≤ n) (h1 : n < 2000000) : n.natAbs.log2 < 1920 := by
  rcases Nat.eq_zero_or_pos n.natAbs with h | h
  · rw [h]; decide
  · exact (Nat.log2_lt (by omega)).mpr (Nat.lt_of_lt_of_le (by omega : n.natAbs < 2 ^ 21) (Nat.pow_le_pow_right (by decide) (by decide)))
def headN (n : Int) (b : List Nat) : List Nat := numS b.length ++ 32 :: (numS n ++ 32 :: b)
def lineN (n : Int) (b : List Nat) : List Nat := headN n b ++ 32 :: chkL (headN n b)
abbrev sRec : Stmt := top 51
theorem scRec : FnScope ["number", "body", "text"] ["number", "body"] (defScope sRec) := ⟨rfl, rfl, rfl, by decide +kernel, rfl, by decide +kernel, by decide +kernel⟩
def gRec : List D → (D → Prop) → Prop := fun ds P => ∃ (n : Int) (b : List Nat), ds = [.int n, .str (tx b)] ∧ 0 ≤ n ∧ n < 2000000 ∧ b.length ≤ 1000 ∧ P = fun d => d = .str (tx (lineN n b))
theorem head_len {n : Int} {b : List Nat} (h0 : 0 ≤ n) (h1 : n < 2000000) (hb : b.length ≤ 1000) : (headN n b).length ≤ 1100 := by
  have k1 := numS_len (n := (b.length : Int)) (by omega) (by omega)
  have k2 := numS_len h0 h1
  unfold headN
  rw [List.length_append, List.length_cons, List.length_append, List.length_cons]
  omega
theorem ok_rec {f : Addr} {fd : FuncData} (F : Fun K "record_line" "record_line" sRec f fd) (T : Bt mg) (cC : PFn P w K mg base 1 "check_digits" 1 gChk) : FnOk P w K mg base CX0 2 f fd ["number", "body"] (spP K 2 gRec) := by
  refine fn_pure F scRec (by rintro ds Pd ⟨_, _, rfl, _⟩; rfl) fun cdv A outer s H E ds Pd hr hG => ?_
  obtain ⟨n, b, rfl, h0, h1, hb, rfl⟩ := hG
  have nd := scRec.nd
  have hh := head_len h0 h1 hb
  refine jss_cons (js_set (i := 2) (j_fs (z := tx (headN n b)) (.cons (j_fmtI (jb_len T (ja_cons (jv 1 rfl) ja_nil) (lenS (by rw [tx_len]; exact le_size (by omega)))) (log_of (by omega) (by rw [show ((tx b).length : Int) = (b.length : Nat) from by rw [tx_len]]; omega))) (.cons j_str (.cons (j_fmtI (jv 0 rfl) (log_of h0 h1)) (.cons j_str (.cons (j_fmtS (jv 1 rfl) (by rw [tx_len]; exact le_size (by omega))) .nil))))) ?_ (by rw [tx_len]; exact le_size (by omega))) ?_ nd)
  · unfold joinS joinS joinS joinS joinS joinS
    rw [show ((tx b).length : Int) = ((b.length : Nat) : Int) from by rw [tx_len], numS_tx, numS_tx, show (" " : Str) = tx [32] from by decide +kernel, show Str.empty = tx [] from rfl]
    rw [tx_app, tx_app, tx_app, tx_app, tx_app]
    unfold headN
    congr 1
    simp
  refine jss_cons (js_ret (J.to (j_bin (j_bin (jv 2 rfl) j_str (od_addS ?_)) (j_call cC hr (ja_cons (jv 2 rfl) ja_nil) ⟨_, rfl, by omega, rfl⟩ (fun _ h => h)) (od_addS ?_)) (d' := .str (tx (lineN n b))) ?_) rfl)
  · rw [show (" " : Str) = tx [32] from by decide +kernel, tx_len, tx_len]; exact le_size (by simp; omega)
  · rw [show (" " : Str) = tx [32] from by decide +kernel, tx_app, tx_len, tx_len, chk_len, List.length_append]; exact le_size (by simp; omega)
  · rw [show (" " : Str) = tx [32] from by decide +kernel, tx_app, tx_app]
    unfold lineN
    rw [List.append_assoc]
    rfl
theorem line_len {n : Int} {b : List Nat} (h0 : 0 ≤ n) (h1 : n < 2000000) (hb : b.length ≤ 1000) : (lineN n b).length ≤ 1107 := by
  have := head_len h0 h1 hb
  unfold lineN
  rw [List.length_append, List.length_cons, chk_len]
  omega
theorem nl_tx : ("\n" : Str) = tx [10] := by decide +kernel
end
end Toy.R39

namespace Toy.R39
open PySem PyProof.Rows L2 Pf Toy
open PySem.NumText (AllDigits digitsVal)
section
variable {P : Program} {w : World} {K : PySem.W.Frag} {mg : Str → Option Value} {base : Heap}
def okSign (c : Nat) : Bool := decide (32 ≤ c) && decide (c ≤ 126)
def isB (cs : List Nat) : Bool := (decide (1 ≤ cs.length) && decide (cs.length ≤ 700)) && cs.all okSign
theorem lt_one (c d : Nat) : (!decide (([c] : List Nat) < [d])) = decide (d ≤ c) := by
  rw [Bool.eq_iff_iff, Bool.not_eq_true', decide_eq_false_iff_not, decide_eq_true_iff, List.cons_lt_cons_iff]
  constructor
  · intro h
    exact Nat.le_of_not_lt fun q => h (.inl q)
  · rintro h (q | ⟨_, q⟩)
    · omega
    · exact absurd q (by decide)
abbrev sIsB : Stmt := top 53
theorem scIsB : FnScope ["text", "sign"] ["text"] (defScope sIsB) := ⟨rfl, rfl, rfl, by decide +kernel, rfl, by decide +kernel, by decide +kernel⟩
def gIsB : List D → (D → Prop) → Prop := fun ds P => ∃ cs : List Nat, ds = [.str (tx cs)] ∧ cs.length ≤ 200000 ∧ P = fun d => d = .bl (isB cs)
theorem ok_isB {f : Addr} {fd : FuncData} (F : Fun K "is_body" "is_body" sIsB f fd) (T : Bt mg) (G : Gb mg) : FnOk P w K mg base CX0 1 f fd ["text"] (spP K 1 gIsB) := by
  refine fn_pure F scIsB (by rintro ds Pd ⟨_, rfl, _⟩; rfl) fun cdv A outer s H E ds Pd hr hG => ?_
  obtain ⟨cs, rfl, hl, rfl⟩ := hG
  have nd := scIsB.nd
  refine jss_cons (js_ret (J.to (j_and (J.to (j_ch j_int (jb_len T (ja_cons (jv 0 rfl) ja_nil) (lenS (by rw [tx_len]; exact le_size (by omega)))) (j_gI G.longest) cd_leI cd_leI) (d' := .bl (decide (1 ≤ cs.length) && decide (cs.length ≤ 700))) ?_) (fun _ => j_one (J.to (jb_all T (bs := cs.map okSign) (ja_cons (J.to (j_lcM (own := [("sign", 1)]) (i := 1) cs (fun c : Nat => D.str ⟨#[c]⟩) (fun c => D.bl (okSign c)) (ji_tx (jv 0 rfl)) (blkOk_by (N := ["text", "sign"]) (sc := defScope sIsB) (by decide +kernel)) (fun _ _ _ _ _ => pg_name nd rfl (Or.inl rfl)) (lt_size (by omega)) (fun c hc s H C cl fp => J.to (j_ch j_str (jv 1 rfl) j_str cd_leS cd_leS) ?_) nd) (by rw [List.map_map]; rfl)) ja_nil)) (d' := .bl (cs.all okSign)) (by rw [List.all_map]; rfl)))) rfl) rfl)
  · rw [tx_len]
    exact congrArg D.bl (by congr 1 <;> exact decide_eq_decide.mpr (by omega))
  · show D.bl (!decide ([c] < (" " : Str).cps.toList) && !decide (("~" : Str).cps.toList < [c])) = _
    rw [show (" " : Str).cps.toList = [32] from by decide +kernel, show ("~" : Str).cps.toList = [126] from by decide +kernel, lt_one, lt_one]
    rfl
abbrev sNum : Stmt := top 22
theorem scNum : FnScope ["word", "digits", "sign"] ["word", "digits"] (defScope sNum) := ⟨rfl, rfl, rfl, by decide +kernel, rfl, by decide +kernel, by decide +kernel⟩
def gNum : List D → (D → Prop) → Prop := fun ds P => ∃ (cs : List Nat) (k : Nat), ds = [.str (tx cs), .int k] ∧ cs.length ≤ 200000 ∧ k ≤ 600 ∧ P = fun d => d = optN (pNum cs k)
theorem ok_num {f : Addr} {fd : FuncData} (F : Fun K "parse_number" "parse_number" sNum f fd) (T : Bt mg) (G : Gb mg) : FnOk P w K mg base CX0 1 f fd ["word", "digits"] (spP K 2 gNum) := by
  refine fn_pure F scNum (by rintro ds Pd ⟨_, _, rfl, _⟩; rfl) fun cdv A outer s H E ds Pd hr hG => ?_
  obtain ⟨cs, k, rfl, hl, hk, rfl⟩ := hG
  have nd := scNum.nd
  have e1 : (decide ((1 : Int) ≤ ((tx cs).length : Int)) && decide (((tx cs).length : Int) ≤ (k : Int))) = (decide (1 ≤ cs.length) && decide (cs.length ≤ k)) := by
    rw [tx_len]
    congr 1 <;> exact decide_eq_decide.mpr (by omega)
  have hz : (tx cs).length ≤ sizeLine := by rw [tx_len]; exact le_size (by omega)
  refine jss_cons (js_if (t := !okNum cs k) (JT.to (jt_w (jw_or (jt_not (jt_ch j_int (jb_len T (ja_cons (jv 0 rfl) ja_nil) (lenS hz)) (jv 1 rfl) cd_leI cd_leI)) (fun _ => jw_or1 (jt_not (jt_val (jb_all T (bs := cs.map isDg) (ja_cons (J.to (j_lcM (own := [("sign", 2)]) (i := 2) cs (fun c : Nat => D.str ⟨#[c]⟩) (fun c => D.bl (isDg c)) (ji_tx (jv 0 rfl)) (blkOk_by (N := ["word", "digits", "sign"]) (sc := defScope sNum) (by decide +kernel)) (fun _ _ _ _ _ => pg_name nd rfl (Or.inl rfl)) (lt_size (by omega)) (fun c hc s H C cl fp => J.to (j_cm (jv 2 rfl) (j_gS G.digs) cd_inSign) (congrArg D.bl (dg_mem c))) nd) (by rw [List.map_map]; rfl)) ja_nil))))))) ?_) (fun h => ?_) (fun h => jss_nil ?_))
  · rw [e1, List.all_map]
    show (!(decide (1 ≤ cs.length) && decide (cs.length ≤ k)) || !cs.all isDg) = !((decide (1 ≤ cs.length) && decide (cs.length ≤ k)) && cs.all isDg)
    cases (decide (1 ≤ cs.length) && decide (cs.length ≤ k)) <;> cases cs.all isDg <;> rfl
  · refine jss_cons (js_ret j_non ?_)
    unfold pNum
    rw [if_neg (by rw [Bool.not_eq_true'] at h; rw [h]; decide)]
    rfl
  have hok : okNum cs k = true := by rw [Bool.not_eq_false'] at h; exact h
  have hparts := hok
  unfold okNum at hparts
  rw [Bool.and_eq_true, Bool.and_eq_true, decide_eq_true_iff, decide_eq_true_iff] at hparts
  obtain ⟨⟨hl1, hl2⟩, hd⟩ := hparts
  have hAll : AllDigits cs := by
    intro c hc
    have := List.all_eq_true.mp hd c hc
    unfold isDg at this
    rw [Bool.and_eq_true, decide_eq_true_iff, decide_eq_true_iff] at this
    exact this
  have hread : PySem.intText? (tx cs) = some ((digitsVal cs : Nat) : Int) := intText_digits (x := tx cs) hAll (by intro q; rw [tx_cps] at q; rw [q] at hl1; simp at hl1) (by rw [tx_len]; omega)
  refine jss_cons (js_if (t := zeroed cs) (JT.to (jt_w (jw_and (jt_cm (j_ixS (n := cs.getD 0 0) (jv 0 rfl) j_int hz (atI_N 0 0 rfl (by rw [tx_cps]; omega))) j_str cd_eqS) (fun _ => jw_and1 (jt_cm (jv 0 rfl) j_str cd_neS)))) ?_) (fun h => ?_) (fun h => jss_nil ?_))
  · rw [show ("0" : Str) = tx [48] from by decide +kernel]
    unfold zeroed
    congr 1
    · exact decide_eq_decide.mpr ⟨fun q => by have := tx_inj (a := [cs.getD 0 0]) (b := [48]) q; simpa using this, fun q => by rw [q]; rfl⟩
    · congr 1
      exact decide_eq_decide.mpr ⟨fun q => tx_inj q, fun q => by rw [q]⟩
  · refine jss_cons (js_ret j_non ?_)
    unfold pNum
    rw [if_pos hok, if_pos h]
    rfl
  · refine jss_cons (js_ret (jb_intS T (ja_cons (jv 0 rfl) ja_nil) hread (by rw [tx_len]; omega)) ?_)
    unfold pNum
    rw [if_pos hok, if_neg (by rw [h]; decide)]
    rfl
theorem pNum_lt {cs : List Nat} {k n : Nat} (h : pNum cs k = some n) : n < 10 ^ k := by
  unfold pNum at h
  split at h
  · rename_i hok
    split at h
    · cases h
    · cases h
      unfold okNum at hok
      rw [Bool.and_eq_true, Bool.and_eq_true, decide_eq_true_iff, decide_eq_true_iff] at hok
      have hAll : AllDigits cs := by
        intro c hc
        have := List.all_eq_true.mp hok.2 c hc
        unfold isDg at this
        rw [Bool.and_eq_true, decide_eq_true_iff, decide_eq_true_iff] at this
        exact this
      exact Nat.lt_of_lt_of_le (val_lt cs hAll) (Nat.pow_le_pow_right (by decide) hok.1.2)
  · cases h
def wordsN (cs : List Nat) : List (List Nat) := (Txt.splitMax (tx cs) (tx [32]) 2).map fun z => z.cps.toList
theorem words_short {cs v : List Nat} (h : v ∈ wordsN cs) : v.length ≤ cs.length := by
  obtain ⟨z, hz, rfl⟩ := List.mem_map.mp h
  have := partMax_short hz
  rw [tx_len] at this
  rw [Array.length_toList]
  exact this
theorem words_str (cs : List Nat) : Txt.splitMax (tx cs) (tx [32]) 2 = (wordsN cs).map tx := by
  unfold wordsN
  rw [List.map_map]
  exact (List.map_id _).symm.trans (List.map_congr_left fun z _ => (tx_of z).symm)
def bodyOf (cs : List Nat) : List Nat := cut ((wordsN cs).getD 2 []) none (some (-7))
def sizeOf (cs : List Nat) : Option Nat := pNum ((wordsN cs).getD 0 []) 3
def numOf (cs : List Nat) : Option Nat := pNum ((wordsN cs).getD 1 []) 6
def readBad (cs : List Nat) : Bool := !decide (sizeOf cs = some (bodyOf cs).length) || ((numOf cs).isNone || !isB (bodyOf cs))
def readR (cs : List Nat) : Option (Nat × List Nat) :=
  if decide ((wordsN cs).length < 3) = true then none
  else if readBad cs = true then none
  else if decide (lineN (((numOf cs).getD 0 : Nat) : Int) (bodyOf cs) = cs) = true then some ((numOf cs).getD 0, bodyOf cs) else none
def recD : Option (Nat × List Nat) → D
  | none => .non
  | some (n, b) => .tup [.int (n : Int), .str (tx b)]
abbrev nRead : List Str := ["line", "words", "size", "number", "body"]
abbrev sRead : Stmt := top 54
theorem scRead : FnScope nRead ["line"] (defScope sRead) := ⟨rfl, rfl, rfl, by decide +kernel, rfl, by decide +kernel, by decide +kernel⟩
def gRead : List D → (D → Prop) → Prop := fun ds P => ∃ cs : List Nat, ds = [.str (tx cs)] ∧ cs.length ≤ 200000 ∧ P = fun d => d = recD (readR cs)
theorem optN_fit (o : Option Nat) (n : Nat) : fitD (n + 1) (optN o) = true := by cases o <;> rfl
theorem ne_size (o : Option Nat) (k : Nat) : (!eqvD (optN o) (.int (k : Int))) = !decide (o = some k) := by
  congr 1
  cases o with
  | none => rfl
  | some n =>
    show decide ((n : Int) = (k : Int)) = _
    exact decide_eq_decide.mpr ⟨fun h => by rw [Int.ofNat_inj.mp h], fun h => by cases h; rfl⟩
theorem isN_opt (o : Option Nat) : isNon (optN o) = o.isNone := by cases o <;> rfl
theorem ok_read {f : Addr} {fd : FuncData} (F : Fun K "read_record" "read_record" sRead f fd) (T : Bt mg) (G : Gb mg) (cN : PFn P w K mg base 1 "parse_number" 2 gNum) (cB : PFn P w K mg base 1 "is_body" 1 gIsB) (cR : PFn P w K mg base 2 "record_line" 2 gRec) : FnOk P w K mg base CX0 3 f fd ["line"] (spP K 1 gRead) := by
  refine fn_pure F scRead (by rintro ds Pd ⟨_, rfl, _⟩; rfl) fun cdv A outer s H E ds Pd hr hG => ?_
  obtain ⟨cs, rfl, hl, rfl⟩ := hG
  have nd := scRead.nd
  refine jss_cons (js_set (i := 1) (J.to (j_splitMax (jv 0 rfl) (ja_cons j_str (ja_cons j_int ja_nil)) (by decide +kernel) (by decide) (by decide) (by rw [tx_len]; exact le_size (by omega))) (d' := .lst ((wordsN cs).map fun v => D.str (tx v))) (by rw [show (" " : Str) = tx [32] from by decide +kernel, words_str, List.map_map]; rfl)) ?_ nd)
  refine jss_cons (js_if (t := decide ((wordsN cs).length < 3)) (JT.to (jt_cm (jb_len T (ja_cons (jv 1 rfl) ja_nil) rfl) j_int cd_ltI) (by rw [List.length_map]; exact decide_eq_decide.mpr (by omega))) (fun h => ?_) (fun h => jss_nil ?_))
  · refine jss_cons (js_ret j_non ?_)
    unfold readR
    rw [if_pos h]
    rfl
  have h3 : ¬ (wordsN cs).length < 3 := of_decide_eq_false h
  have w0 := words_short (cs := cs) (v := (wordsN cs).getD 0 []) (by rw [List.getD_eq_getElem?_getD, List.getElem?_eq_getElem (by omega)]; exact List.getElem_mem _)
  have w1 := words_short (cs := cs) (v := (wordsN cs).getD 1 []) (by rw [List.getD_eq_getElem?_getD, List.getElem?_eq_getElem (by omega)]; exact List.getElem_mem _)
  have w2 := words_short (cs := cs) (v := (wordsN cs).getD 2 []) (by rw [List.getD_eq_getElem?_getD, List.getElem?_eq_getElem (by omega)]; exact List.getElem_mem _)
  have wb : (bodyOf cs).length ≤ 200000 := Nat.le_trans (cut_len _ _ _) (by omega)
  refine jss_cons (js_set (i := 2) (J.to (j_call cN hr (ja_cons (j_ix (jv 1 rfl) j_int (ixd_L (atI_mapN (fun v => D.str (tx v)) [] 0 rfl (by omega)))) (ja_cons (j_gI G.sized) ja_nil)) ⟨_, 3, rfl, by omega, by decide, rfl⟩ (fun _ h => h)) (d' := optN (sizeOf cs)) rfl) ?_ nd)
  refine jss_cons (js_set (i := 3) (J.to (j_call cN hr (ja_cons (j_ix (jv 1 rfl) j_int (ixd_L (atI_mapN (fun v => D.str (tx v)) [] 1 rfl (by omega)))) (ja_cons (j_gI G.numd) ja_nil)) ⟨_, 6, rfl, by omega, by decide, rfl⟩ (fun _ h => h)) (d' := optN (numOf cs)) rfl) ?_ nd)
  refine jss_cons (js_set (i := 4) (J.to (j_slS (z := tx ((wordsN cs).getD 2 [])) (j_ix (jv 1 rfl) j_int (ixd_L (atI_mapN (fun v => D.str (tx v)) [] 2 rfl (by omega)))) (by rw [tx_len]; exact le_size (by omega)) jo_none (jo_some (j_neg (j_gI G.endn)))) (d' := .str (tx (bodyOf cs))) (by rw [cutS_tx]; rfl)) ?_ nd)
  refine jss_cons (js_if (t := readBad cs) (JT.to (jt_w (jw_or (jt_cm (jv 2 rfl) (jb_len T (ja_cons (jv 4 rfl) ja_nil) (lenS (by rw [tx_len]; exact le_size (by omega)))) (cd_neF 2 hr.units (optN_fit _ _) rfl)) (fun _ => jw_or (jt_cm (jv 3 rfl) j_non cd_isN) (fun _ => jw_or1 (jt_not (jt_val (j_call cB hr (ja_cons (jv 4 rfl) ja_nil) ⟨_, rfl, wb, rfl⟩ (fun _ h => h)))))))) ?_) (fun h' => ?_) (fun h' => jss_nil ?_))
  · rw [tx_len]
    show (!eqvD (optN (sizeOf cs)) (.int ((bodyOf cs).length : Int)) || (isNon (optN (numOf cs)) || !isB (bodyOf cs))) = _
    rw [ne_size, isN_opt]
    rfl
  · refine jss_cons (js_ret j_non ?_)
    unfold readR
    rw [if_neg (by rw [h]; decide), if_pos h']
    rfl
  have hq := h'
  unfold readBad at hq
  rw [Bool.or_eq_false_iff, Bool.or_eq_false_iff] at hq
  obtain ⟨n, hn⟩ : ∃ n, numOf cs = some n := by
    cases hn : numOf cs with
    | none => rw [hn] at hq; exact absurd hq.2.1 (by decide)
    | some n => exact ⟨n, rfl⟩
  have hlt : n < 10 ^ 6 := pNum_lt (k := 6) hn
  have hbl : (bodyOf cs).length ≤ 700 := by
    have := hq.2.2
    rw [Bool.not_eq_false'] at this
    unfold isB at this
    rw [Bool.and_eq_true, Bool.and_eq_true, decide_eq_true_iff, decide_eq_true_iff] at this
    exact this.1.2
  rw [hn]
  refine jss_cons (js_ret (j_ifExp (t := decide (lineN (n : Int) (bodyOf cs) = cs)) (JT.to (jt_cm (j_call cR hr (ja_cons (jv 3 rfl) (ja_cons (jv 4 rfl) ja_nil)) ⟨(n : Int), _, rfl, by omega, by omega, by omega, rfl⟩ (fun _ h => h)) (jv 0 rfl) cd_eqS) (decide_eq_decide.mpr ⟨fun q => tx_inj q, fun q => by rw [q]⟩)) (fun _ => j_tup (ja_cons (jv 3 rfl) (ja_cons (jv 4 rfl) ja_nil))) (fun _ => j_non)) ?_)
  unfold readR
  rw [if_neg (by rw [h]; decide), if_neg (by rw [h']; decide), hn]
  show _ = recD (if decide (lineN (n : Int) (bodyOf cs) = cs) = true then some (n, bodyOf cs) else none)
  split <;> rfl
end
end Toy.R39

namespace Toy.R39
open PySem PyProof.Rows L2 Pf Toy
open PySem.NumText (AllDigits digitsVal)
theorem numS_inj {n m : Nat} (h : numS (n : Int) = numS (m : Int)) : n = m := by rw [← numS_val n, ← numS_val m, h]
def stepO (cs : List Nat) (st : Array Nat × Nat) (i : Nat) : Array Nat × Nat := if (st.1.size < 2 ∧ st.2 ≤ i) ∧ cs[i]? = some 32 then (st.1.push i, i + 1) else st
theorem run_O (cs : List Nat) : ∀ (l : List Nat) (st : Array Nat × Nat), (forIn l st (StrLaws.occBody (tx cs) (tx [32]) (tx cs).length 2)).run = l.foldl (stepO cs) st
  | [], st => rfl
  | a :: l, st => by
    rw [List.forIn_cons, List.foldl_cons]
    have hs := StrLaws.subAt_one (tx cs) 32 a
    unfold StrLaws.occBody stepO
    by_cases q : ((st.fst.size < 2 ∧ st.snd ≤ a) ∧ a + (tx [32]).length ≤ (tx cs).length) ∧ Builtin.Str.subAt (tx cs) (tx [32]) a = true
    · rw [if_pos q, if_pos ⟨q.1.1, hs.mp ⟨q.1.2, q.2⟩⟩]
      exact run_O cs l _
    · rw [if_neg q, if_neg fun z => q ⟨⟨z.1, (hs.mpr z.2).1⟩, (hs.mpr z.2).2⟩]
      exact run_O cs l _
theorem skip_O (cs : List Nat) : ∀ (l : List Nat) (st : Array Nat × Nat), (2 ≤ st.1.size ∨ ∀ i ∈ l, cs[i]? ≠ some 32) → l.foldl (stepO cs) st = st
  | [], _, _ => rfl
  | a :: l, st, h => by
    have h1 : stepO cs st a = st := by
      unfold stepO
      refine if_neg fun z => ?_
      rcases h with h | h
      · omega
      · exact h a List.mem_cons_self z.2
    rw [List.foldl_cons, h1]
    exact skip_O cs l st (h.imp id fun h i hi => h i (List.mem_cons_of_mem _ hi))
theorem occ_two {A B C : List Nat} (hA : 32 ∉ A) (hB : 32 ∉ B) : Builtin.Str.occurrences (tx (A ++ 32 :: (B ++ 32 :: C))) (tx [32]) 0 (tx (A ++ 32 :: (B ++ 32 :: C))).length 2 = [A.length, A.length + 1 + B.length] := by
  generalize hcs : A ++ 32 :: (B ++ 32 :: C) = cs
  have hl : cs.length = A.length + 1 + B.length + 1 + C.length := by rw [← hcs]; simp; omega
  rw [StrLaws.occ_eq, run_O, tx_len, Nat.sub_zero]
  have e1 : List.range' 0 (cs.length + 1) = List.range' 0 A.length ++ (A.length :: (List.range' (A.length + 1) B.length ++ ((A.length + 1 + B.length) :: List.range' (A.length + 1 + B.length + 1) (C.length + 1)))) := by
    have r1 : (A.length + 1 + B.length) :: List.range' (A.length + 1 + B.length + 1) (C.length + 1) = List.range' (A.length + 1 + B.length) (C.length + 2) := rfl
    rw [r1, List.range'_append_1]
    have r2 : A.length :: List.range' (A.length + 1) (B.length + (C.length + 2)) = List.range' A.length (B.length + (C.length + 2) + 1) := rfl
    rw [r2]
    have r3 := List.range'_append_1 (s := 0) (m := A.length) (n := B.length + (C.length + 2) + 1)
    rw [Nat.zero_add] at r3
    rw [r3, hl]
    congr 1
    omega
  have gA : cs[A.length]? = some 32 := by rw [← hcs, List.getElem?_append_right (Nat.le_refl _), Nat.sub_self]; rfl
  have gB : cs[A.length + 1 + B.length]? = some 32 := by
    rw [← hcs, List.getElem?_append_right (by omega), show A.length + 1 + B.length - A.length = B.length + 1 by omega, List.getElem?_cons_succ, List.getElem?_append_right (Nat.le_refl _), Nat.sub_self]; rfl
  rw [e1, List.foldl_append, skip_O cs (List.range' 0 A.length) _ (.inr fun i hi q => ?_), List.foldl_cons]
  · rw [show stepO cs (#[], 0) A.length = (#[A.length], A.length + 1) from if_pos ⟨⟨by simp, Nat.zero_le _⟩, gA⟩]
    rw [List.foldl_append, skip_O cs (List.range' (A.length + 1) B.length) _ (.inr fun i hi q => ?_), List.foldl_cons]
    · rw [show stepO cs (#[A.length], A.length + 1) (A.length + 1 + B.length) = (#[A.length, A.length + 1 + B.length], A.length + 1 + B.length + 1) from if_pos ⟨⟨by simp, by simp⟩, gB⟩]
      rw [skip_O cs _ _ (.inl (by simp))]
    · obtain ⟨h1, h2⟩ := List.mem_range'_1.mp hi
      rw [← hcs, List.getElem?_append_right (by omega), show i - A.length = (i - A.length - 1) + 1 by omega, List.getElem?_cons_succ, List.getElem?_append_left (by omega)] at q
      exact hB (List.mem_of_getElem? q)
  · obtain ⟨h1, h2⟩ := List.mem_range'_1.mp hi
    rw [← hcs, List.getElem?_append_left (by omega)] at q
    exact hA (List.mem_of_getElem? q)
theorem sub_tx (cs : List Nat) (i j : Nat) : (Builtin.Str.strSub (tx cs) i j).cps.toList = (cs.drop i).take (j - i) := by
  unfold Builtin.Str.strSub tx
  simp [List.drop_take]
theorem dropA (A R : List Nat) : (A ++ 32 :: R).drop (A.length + 1) = R := by
  rw [show A ++ 32 :: R = (A ++ [32]) ++ R by simp]
  exact List.drop_left' (by simp)
theorem words_of {A B C : List Nat} (hA : 32 ∉ A) (hB : 32 ∉ B) : wordsN (A ++ 32 :: (B ++ 32 :: C)) = [A, B, C] := by
  unfold wordsN Txt.splitMax
  have ho := occ_two (C := C) hA hB
  rw [show limitOf (tx (A ++ 32 :: (B ++ 32 :: C))) 2 = 2 from rfl, ho]
  rw [if_neg, if_neg (by simp), StrLaws.partsBetween_eq]
  · show [(Builtin.Str.strSub _ 0 A.length).cps.toList, (Builtin.Str.strSub _ (A.length + 1) (A.length + 1 + B.length)).cps.toList, (Builtin.Str.strSub _ (A.length + 1 + B.length + 1) (tx _).length).cps.toList] = _
    rw [sub_tx, sub_tx, sub_tx, tx_len, List.drop_zero, Nat.sub_zero, List.take_left' rfl, dropA, show A.length + 1 + B.length - (A.length + 1) = B.length by omega, List.take_left' rfl]
    rw [show A.length + 1 + B.length + 1 = (A.length + 1) + (B.length + 1) by omega, ← List.drop_drop, dropA, dropA]
    rw [List.take_of_length_le (by simp; omega)]
  · rw [Bool.or_eq_true, decide_eq_true_iff, decide_eq_true_iff, tx_len, tx_len]
    have k1 : Builtin.Str.strKind (tx [32]) = 1 := by decide +kernel
    have k2 : 1 ≤ Builtin.Str.strKind (tx (A ++ 32 :: (B ++ 32 :: C))) := by
      unfold Builtin.Str.strKind
      split
      · exact Nat.le_refl _
      · split <;> decide
    rw [k1]
    simp
    omega
theorem no32 (m : Nat) : 32 ∉ numS (m : Int) := fun h => by have := numS_dig m 32 h; omega
theorem words_line (n : Nat) (b : List Nat) : wordsN (lineN (n : Int) b) = [numS (b.length : Int), numS (n : Int), b ++ 32 :: chkL (headN (n : Int) b)] := by
  rw [← words_of (no32 b.length) (no32 n)]
  unfold lineN
  conv => lhs; arg 1; unfold headN
  simp
  rfl
theorem readR_line {n : Nat} {b : List Nat} (hn : n < 1000000) (hb : isB b = true) : readR (lineN (n : Int) b) = some (n, b) := by
  have hbl : b.length ≤ 700 := by
    unfold isB at hb
    rw [Bool.and_eq_true, Bool.and_eq_true, decide_eq_true_iff, decide_eq_true_iff] at hb
    exact hb.1.2
  have hw := words_line n b
  have hbo : bodyOf (lineN (n : Int) b) = b := by
    unfold bodyOf
    rw [hw]
    show cut (b ++ 32 :: chkL (headN (n : Int) b)) none (some (-7)) = b
    unfold cut HT.sIx
    dsimp only
    rw [if_pos (by decide), List.drop_zero, Nat.sub_zero, List.length_append, List.length_cons, chk_len]
    rw [show (-7 + ((b.length + (6 + 1) : Nat) : Int)).toNat = b.length by omega]
    simp
  have hs : sizeOf (lineN (n : Int) b) = some b.length := by
    unfold sizeOf
    rw [hw]
    exact pNum_num (by decide) (by omega)
  have hnu : numOf (lineN (n : Int) b) = some n := by
    unfold numOf
    rw [hw]
    exact pNum_num (by decide) (by omega)
  have hbad : readBad (lineN (n : Int) b) = false := by
    unfold readBad
    rw [hs, hbo, hnu, hb, decide_eq_true rfl]
    rfl
  unfold readR
  rw [if_neg (by rw [hw]; exact fun q => absurd (of_decide_eq_true q) (Nat.lt_irrefl 3)), if_neg (by rw [hbad]; decide), hnu, hbo]
  rw [if_pos (show decide (lineN (((some n).getD 0 : Nat) : Int) b = lineN (n : Int) b) = true from decide_eq_true rfl)]
  rfl
theorem readR_some {cs : List Nat} {n : Nat} {b : List Nat} (h : readR cs = some (n, b)) : lineN (n : Int) b = cs ∧ n < 1000000 ∧ isB b = true := by
  unfold readR at h
  split at h
  · cases h
  · split at h
    · cases h
    · rename_i hbad
      split at h
      · rename_i q
        rw [Bool.not_eq_true] at hbad
        unfold readBad at hbad
        rw [Bool.or_eq_false_iff, Bool.or_eq_false_iff] at hbad
        cases hn : numOf cs with
        | none => rw [hn] at hbad; exact absurd hbad.2.1 (by decide)
        | some m =>
          rw [hn] at h q
          cases h
          refine ⟨of_decide_eq_true q, pNum_lt (k := 6) hn, ?_⟩
          have := hbad.2.2
          rwa [Bool.not_eq_false'] at this
      · cases h
end Toy.R39

namespace Toy.R39
open PySem PyProof.Rows L2 Pf Toy
open PySem.NumText (AllDigits digitsVal)
section
variable {P : Program} {w : World} {K : PySem.W.Frag} {mg : Str → Option Value} {base : Heap}
theorem sp_tx : (" " : Str) = tx [32] := by decide +kernel
theorem three_cut (m : Nat) (h : m < 997) : cut (48 :: 48 :: numS (m : Int)) (some (-3)) none = dig3 m := by
  rw [signs_of]
  exact (by decide +kernel : ∀ m : Nat, m < 997 → cut (48 :: 48 :: (Nat.toDigits 10 m).map Char.toNat) (some (-3)) none = dig3 m) m h
abbrev sThree : Stmt := top 68
theorem scThree : FnScope ["number"] ["number"] (defScope sThree) := ⟨rfl, rfl, rfl, by decide +kernel, rfl, by decide +kernel, by decide +kernel⟩
def gThree : List D → (D → Prop) → Prop := fun ds P => ∃ n : Nat, ds = [.int n] ∧ P = fun d => d = .str (tx (dig3 (n % 997)))
theorem ok_three {f : Addr} {fd : FuncData} (F : Fun K "_law_three" "_law_three" sThree f fd) (T : Bt mg) : FnOk P w K mg base CX0 1 f fd ["number"] (spP K 1 gThree) := by
  refine fn_pure F scThree (by rintro ds Pd ⟨_, rfl, _⟩; rfl) fun cdv A outer s H E ds Pd hr hG => ?_
  obtain ⟨n, rfl, rfl⟩ := hG
  have hm : n % 997 < 997 := Nat.mod_lt _ (by decide)
  have e1 : ((n : Int) % 997) = ((n % 997 : Nat) : Int) := by omega
  have hlen := numS_len (n := ((n % 997 : Nat) : Int)) (by omega) (by omega)
  refine jss_cons (js_ret (J.to (j_slS (z := tx (48 :: 48 :: numS ((n % 997 : Nat) : Int))) (J.to (j_bin j_str (jb_str T (ja_cons (J.to (j_bin (jb_int T (ja_cons (jv 0 rfl) ja_nil)) j_int (od_modI (by decide))) (congrArg D.int e1)) ja_nil) (log_of (by omega) (by omega))) (od_addS ?_)) ?_) (by rw [tx_len]; exact le_size (by simp only [List.length_cons]; omega)) (jo_some (j_neg j_int)) jo_none) (d' := .str (tx (dig3 (n % 997)))) ?_) rfl)
  · rw [numS_tx, show ("00" : Str) = tx [48, 48] from by decide +kernel, tx_len, tx_len]; exact le_size (by simp only [List.length_cons, List.length_nil]; omega)
  · rw [numS_tx, show ("00" : Str) = tx [48, 48] from by decide +kernel, tx_app]; rfl
  · rw [cutS_tx]
    exact congrArg (fun z => D.str (tx z)) (three_cut _ hm)
theorem sum_take (cs : List Nat) {k c : Nat} (h : cs[k]? = some c) : (cs.take (k + 1)).sum = (cs.take k).sum + c := by
  rw [List.take_add_one, h, List.sum_append]
  simp
theorem placed_take (cs : List Nat) {k c : Nat} (h : cs[k]? = some c) : placedN (cs.take (k + 1)) = placedN (cs.take k) + (1 + k) * c := by
  obtain ⟨hk, _⟩ := List.getElem?_eq_some_iff.mp h
  unfold placedN
  rw [List.take_add_one, h, List.zipIdx_append, List.map_append, List.sum_append]
  simp
  rw [Nat.min_eq_left (by omega)]
abbrev nDig : List Str := ["text", "plain", "placed", "k"]
abbrev sDig : Stmt := top 69
theorem scDig : FnScope nDig ["text"] (defScope sDig) := ⟨rfl, rfl, rfl, by decide +kernel, rfl, by decide +kernel, by decide +kernel⟩
theorem ok_dig {f : Addr} {fd : FuncData} (F : Fun K "_law_digits" "_law_digits" sDig f fd) (T : Bt mg) (ho : mg "ord" = none) (cT : PFn P w K mg base 1 "_law_three" 1 gThree) : FnOk P w K mg base CX0 2 f fd ["text"] (spP K 1 gChk) := by
  refine fn_pure F scDig (by rintro ds Pd ⟨_, rfl, _⟩; rfl) fun cdv A outer s H E ds Pd hr hG => ?_
  obtain ⟨cs, rfl, hl, rfl⟩ := hG
  have nd := scDig.nd
  have hz : (tx cs).length ≤ sizeLine := by rw [tx_len]; exact le_size (by omega)
  refine jss_cons (js_set (i := 1) j_int ?_ nd)
  refine jss_cons (js_set (i := 2) j_int ?_ nd)
  refine jss_mid (fun ρ => ∃ o, ρ = [some (.fz (.str (tx cs))), some (.fz (.int (cs.sum : Nat))), some (.fz (.int (placedN cs : Nat))), o])
    (js_range cs.length (i := 3) (fun k ρ => ∃ o, ρ = [some (.fz (.str (tx cs))), some (.fz (.int ((cs.take k).sum : Nat))), some (.fz (.int (placedN (cs.take k) : Nat))), o]) T (J.to (jb_len T (ja_cons (jv 0 rfl) ja_nil) (lenS hz)) (by rw [tx_len])) (by omega) nd ⟨none, rfl⟩ ?_ ?_) ?_
  · rintro k _ hk ⟨o, rfl⟩
    have hg : cs[k]? = some (cs.getD k 0) := by rw [List.getD_eq_getElem?_getD, List.getElem?_eq_getElem hk]; rfl
    refine jss_cons (js_set (i := 1) (J.to (j_bin (jv 1 rfl) (jb_ord ho (ja_cons (j_ixS (n := cs.getD k 0) (jv 0 rfl) (jv 3 rfl) hz (atI_N 0 k rfl hk)) ja_nil)) od_addI) (d' := .int ((cs.take (k + 1)).sum : Nat)) (by rw [sum_take cs hg]; exact congrArg D.int (by omega))) ?_ nd)
    refine jss_cons (js_set (i := 2) (J.to (j_bin (jv 2 rfl) (j_bin (j_bin (jv 3 rfl) j_int od_addI) (jb_ord ho (ja_cons (j_ixS (n := cs.getD k 0) (jv 0 rfl) (jv 3 rfl) hz (atI_N 0 k rfl hk)) ja_nil)) (od_mulI (cmulL (by show -(2 ^ 64) < ((k : Nat) : Int) + 1; omega) (by show ((k : Nat) : Int) + 1 < 2 ^ 64; omega)))) od_addI) (d' := .int (placedN (cs.take (k + 1)) : Nat)) (by rw [placed_take cs hg, Int.natCast_add, Int.natCast_mul, show ((1 + k : Nat) : Int) = ((k : Nat) : Int) + 1 by omega])) ?_ nd)
    exact jss_nil ⟨_, rfl⟩
  · rintro _ ⟨o, rfl⟩
    rw [List.take_length]
    exact ⟨_, rfl, o, rfl⟩
  rintro _ ⟨o, rfl⟩
  refine jss_cons (js_ret (J.to (j_bin (j_call cT hr (ja_cons (jv 1 rfl) ja_nil) ⟨_, rfl, rfl⟩ (fun _ h => h)) (j_call cT hr (ja_cons (jv 2 rfl) ja_nil) ⟨_, rfl, rfl⟩ (fun _ h => h)) (od_addS (by rw [tx_len, tx_len]; exact le_size (by show 3 + 3 ≤ 1000000; decide)))) (d' := .str (tx (chkL cs))) (by rw [tx_app]; rfl)) rfl)
def ckd (H : List Nat) : List Nat := H ++ 32 :: chkL H
theorem j_ckd {X : Cx} {ρ : Rho} {a c : Expr} {cs : List Nat} {k0 : Nat} {p1 p2 p3 : Pos} (h1 : J X a ρ (.str (tx cs))) (h2 : J X c ρ (.str (tx (chkL cs)))) (hl : cs.length ≤ 200000) : J X (.BinOp (.BinOp a .Add (.Constant (.str " ") k0 p1) p2) .Add c p3) ρ (.str (tx (ckd cs))) :=
  J.to (j_bin (j_bin h1 j_str (od_addS (by rw [sp_tx, tx_len, tx_len]; exact le_size (by simp; omega)))) h2 (od_addS (by rw [sp_tx, tx_app, tx_len, tx_len, chk_len, List.length_append]; exact le_size (by simp; omega)))) (by rw [sp_tx, tx_app, tx_app]; unfold ckd; rw [List.append_assoc]; rfl)
abbrev sLine : Stmt := top 70
theorem scLine : FnScope ["number", "body", "head"] ["number", "body"] (defScope sLine) := ⟨rfl, rfl, rfl, by decide +kernel, rfl, by decide +kernel, by decide +kernel⟩
/-- a + " " and a text behind it -/
theorem j_sp {X : Cx} {ρ : Rho} {a c : Expr} {as bs : List Nat} {k0 : Nat} {p1 p2 p3 : Pos} (h1 : J X a ρ (.str (tx as))) (h2 : J X c ρ (.str (tx bs))) (hl : as.length + bs.length ≤ 200000) : J X (.BinOp (.BinOp a .Add (.Constant (.str " ") k0 p1) p2) .Add c p3) ρ (.str (tx (as ++ 32 :: bs))) :=
  J.to (j_bin (j_bin h1 j_str (od_addS (by rw [sp_tx, tx_len, tx_len]; exact le_size (by simp; omega)))) h2 (od_addS (by rw [sp_tx, tx_app, tx_len, tx_len, List.length_append]; exact le_size (by simp; omega)))) (by rw [sp_tx, tx_app, tx_app]; rw [List.append_assoc]; rfl)
theorem j_num {X : Cx} {ρ : Rho} {e : Expr} {p pos : Pos} {n : Int} (T : Bt X.mg) (ha : JA X [e] ρ [.int n]) (h0 : 0 ≤ n) (h1 : n < 2000000) (hg : Gl X "str" := by rfl) (he : starEach [e] X.env = (false, eval e X.env) :: starEach [] X.env := by rfl) (hpl : (backTo pos (starEach [] X.env)).any (·.1) = false := by rfl) : J X (.Call (.Name "str" p) [e] [] pos) ρ (.str (tx (numS n))) :=
  J.to (jb_str T ha (log_of h0 h1) hg he hpl) (congrArg D.str (numS_tx n))
theorem ok_line {f : Addr} {fd : FuncData} (F : Fun K "_law_line" "_law_line" sLine f fd) (T : Bt mg) (cD : PFn P w K mg base 2 "_law_digits" 1 gChk) : FnOk P w K mg base CX0 3 f fd ["number", "body"] (spP K 2 gRec) := by
  refine fn_pure F scLine (by rintro ds Pd ⟨_, _, rfl, _⟩; rfl) fun cdv A outer s H E ds Pd hr hG => ?_
  obtain ⟨n, b, rfl, h0, h1, hb, rfl⟩ := hG
  have nd := scLine.nd
  have hh := head_len h0 h1 hb
  have k1 := numS_len (n := (b.length : Int)) (by omega) (by omega)
  have k2 := numS_len h0 h1
  have jl : ∀ {X : Cx} {ρ : Rho}, True := fun {_ _} => trivial
  refine jss_cons (js_set (i := 2) (J.to (j_sp (as := numS (b.length : Int) ++ 32 :: numS n) (bs := b) (j_sp (as := numS (b.length : Int)) (j_num T (ja_cons (J.to (jb_len T (ja_cons (jv 1 rfl) ja_nil) (lenS (by rw [tx_len]; exact le_size (by omega)))) (by rw [tx_len])) ja_nil) (by omega) (by omega)) (j_num T (ja_cons (jv 0 rfl) ja_nil) h0 h1) (by omega)) (jv 1 rfl) (by rw [List.length_append, List.length_cons]; omega)) (d' := .str (tx (headN n b))) (by unfold headN; simp)) ?_ nd)
  exact jss_cons (js_ret (j_ckd (jv 2 rfl) (j_call cD hr (ja_cons (jv 2 rfl) ja_nil) ⟨_, rfl, by omega, rfl⟩ (fun _ h => h)) (by omega)) rfl)
end
end Toy.R39

namespace Toy.R39
open PySem PyProof.Rows L2 Pf Toy
def splN (cs : List Nat) : List (List Nat) := TL.spl [10] 0 [] cs
def linesN (cs : List Nat) : List (List Nat) := (splN cs).dropLast
theorem sp_stop {acc r : List Nat} : TL.spl [10] 0 acc (10 :: r) = acc :: TL.spl [10] 0 [] r := by
  rw [TL.spl, if_pos (by unfold TL.pre; rfl)]
  rfl
theorem sp_step {acc r : List Nat} {c : Nat} (h : c ≠ 10) : TL.spl [10] 0 acc (c :: r) = TL.spl [10] 0 (acc ++ [c]) r := by
  rw [TL.spl, if_neg]
  unfold TL.pre
  simp
  exact h
theorem sp_end {l : List Nat} : ∀ {acc : List Nat}, 10 ∉ l → TL.spl [10] 0 acc l = [acc ++ l] := by
  induction l with
  | nil => intro acc _; rw [TL.spl, List.append_nil]
  | cons c l ih =>
    intro acc h
    rw [sp_step fun e => h (e ▸ List.mem_cons_self), ih fun e => h (List.mem_cons_of_mem _ e), List.append_assoc]
    rfl
theorem sp_line {l r : List Nat} : ∀ {acc : List Nat}, 10 ∉ l → TL.spl [10] 0 acc (l ++ 10 :: r) = (acc ++ l) :: TL.spl [10] 0 [] r := by
  induction l with
  | nil => intro acc _; rw [List.nil_append, sp_stop, List.append_nil]
  | cons c l ih =>
    intro acc h
    rw [List.cons_append, sp_step fun e => h (e ▸ List.mem_cons_self), ih fun e => h (List.mem_cons_of_mem _ e), List.append_assoc]
    rfl
theorem sp_small : ∀ {cs acc : List Nat}, (TL.spl [10] 0 acc cs).length ≤ cs.length + 1 ∧ ∀ l ∈ TL.spl [10] 0 acc cs, l.length ≤ acc.length + cs.length := by
  intro cs
  induction cs with
  | nil => intro acc; rw [TL.spl]; exact ⟨by simp, fun l h => by rw [List.mem_singleton.mp h]; simp⟩
  | cons c cs ih =>
    intro acc
    by_cases h : c = 10
    · subst h
      rw [sp_stop]
      obtain ⟨h1, h2⟩ := ih (acc := [])
      refine ⟨by simp; exact h1, fun l hl => ?_⟩
      rcases List.mem_cons.mp hl with rfl | q
      · simp
      · have := h2 l q; simp at this ⊢; omega
    · rw [sp_step h]
      obtain ⟨h1, h2⟩ := ih (acc := acc ++ [c])
      exact ⟨by simp; omega, fun l hl => by have := h2 l hl; simp at this ⊢; omega⟩
theorem lines_len (cs : List Nat) : (linesN cs).length ≤ cs.length := by
  have := (sp_small (cs := cs) (acc := [])).1
  unfold linesN splN
  rw [List.length_dropLast]
  omega
theorem lines_short {cs l : List Nat} (h : l ∈ linesN cs) : l.length ≤ cs.length := by
  have := (sp_small (cs := cs) (acc := [])).2 l (List.dropLast_subset _ h)
  simpa using this
/-- whole lines, and what stands behind them -/
def flatL (ls : List (List Nat)) : List Nat := (ls.map fun l => l ++ [10]).flatten
theorem flat_cons (l : List Nat) (ls : List (List Nat)) : flatL (l :: ls) = l ++ 10 :: flatL ls := by
  unfold flatL
  simp
theorem splN_flat : ∀ {ls : List (List Nat)} {r : List Nat}, (∀ l ∈ ls, 10 ∉ l) → 10 ∉ r → splN (flatL ls ++ r) = ls ++ [r]
  | [], r, _, h => by
    show TL.spl [10] 0 [] ([] ++ r) = _
    rw [List.nil_append, sp_end h]
    rfl
  | l :: ls, r, h, h2 => by
    rw [flat_cons]
    unfold splN
    rw [List.append_assoc, List.cons_append, sp_line (h l List.mem_cons_self)]
    have := splN_flat (ls := ls) (r := r) (fun l hl => h l (List.mem_cons_of_mem _ hl)) h2
    unfold splN at this
    rw [this]
    rfl
abbrev Rec : Type := Nat × List Nat
def recT (r : Rec) : D := .tup [.int (r.1 : Int), .str (tx r.2)]
def nextOk (acc : List Rec) (r : Rec) : Bool := match acc.getLast? with
  | none => true
  | some q => decide (r.1 = q.1 + 1)
def goW : List (List Nat) → List Rec → List Rec
  | [], acc => acc
  | l :: ls, acc => match readR l with
    | none => acc
    | some r => if nextOk acc r = true then goW ls (acc ++ [r]) else acc
def wholeN (cs : List Nat) : List Rec := goW (linesN cs) []
theorem goW_mem : ∀ {ls : List (List Nat)} {acc : List Rec} {r : Rec}, r ∈ goW ls acc → r ∈ acc ∨ ∃ l ∈ ls, readR l = some r
  | [], acc, r, h => .inl h
  | l :: ls, acc, r, h => by
    unfold goW at h
    cases e : readR l with
    | none => rw [e] at h; exact .inl h
    | some q =>
      rw [e] at h
      dsimp only at h
      split at h
      · rcases goW_mem h with z | ⟨l', z1, z2⟩
        · rcases List.mem_append.mp z with z | z
          · exact .inl z
          · rw [List.mem_singleton.mp z]; exact .inr ⟨l, List.mem_cons_self, e⟩
        · exact .inr ⟨l', List.mem_cons_of_mem _ z1, z2⟩
      · exact .inl h
theorem whole_mem {cs : List Nat} {r : Rec} (h : r ∈ wholeN cs) : r.1 < 1000000 ∧ isB r.2 = true := by
  rcases goW_mem h with z | ⟨l, _, e⟩
  · cases z
  · exact (readR_some (n := r.1) (b := r.2) e).2
theorem isB_len {b : List Nat} (h : isB b = true) : b.length ≤ 700 := by
  unfold isB at h
  rw [Bool.and_eq_true, Bool.and_eq_true, decide_eq_true_iff, decide_eq_true_iff] at h
  exact h.1.2
theorem isB_sign {b : List Nat} (h : isB b = true) : ∀ c ∈ b, 32 ≤ c ∧ c ≤ 126 := by
  unfold isB at h
  rw [Bool.and_eq_true] at h
  intro c hc
  have := List.all_eq_true.mp h.2 c hc
  unfold okSign at this
  rw [Bool.and_eq_true, decide_eq_true_iff, decide_eq_true_iff] at this
  exact this
section
variable {P : Program} {w : World} {K : PySem.W.Frag} {mg : Str → Option Value} {base : Heap}
abbrev nWh : List Str := ["text", "records", "line", "record"]
abbrev sWh : Stmt := top 55
theorem scWh : FnScope nWh ["text"] (defScope sWh) := ⟨rfl, rfl, rfl, by decide +kernel, rfl, by decide +kernel, by decide +kernel⟩
def gWh : List D → (List D → Prop) → Prop := fun ds P => ∃ cs : List Nat, ds = [.str (tx cs)] ∧ cs.length ≤ 190000 ∧ P = fun l => l = (wholeN cs).map recT
theorem at_last {acc : List Rec} {q : Rec} : atI ((acc ++ [q]).map recT) (-1) = some (recT q) := by
  unfold atI ixN
  rw [if_neg (by decide), List.map_append, List.length_append, List.length_map]
  simp only [List.map_cons, List.map_nil, List.length_cons, List.length_nil]
  rw [if_pos (by omega)]
  show (List.map recT acc ++ [recT q])[_]? = _
  rw [show (-1 + ((acc.length + (0 + 1) : Nat) : Int)).toNat = acc.length by omega, List.getElem?_append_right (by simp)]
  simp
theorem ok_wh {f : Addr} {fd : FuncData} (F : Fun K "whole_records" "whole_records" sWh f fd) (T : Bt mg) (cR : PFn P w K mg base 3 "read_record" 1 gRead) : FnOk P w K mg base CX0 4 f fd ["text"] (spN K 1 gWh) := by
  refine fn_newB F scWh (by rintro ds Pd ⟨_, rfl, _⟩; rfl) fun cdv A outer s H E ds Pd hr hG => ?_
  obtain ⟨cs, rfl, hl, rfl⟩ := hG
  have nd := scWh.nd
  have hll := lines_len cs
  refine jr_cons (js_setN (i := 1) (jn_lst ja_nil) ?_ nd)
  refine jr_mid (fun ρ => ∃ o2 o3 : Option SV, ρ = [some (.fz (.str (tx cs))), some (.ow (.lst ((wholeN cs).map recT))), o2, o3])
    (js_each (i := 2) (linesN cs) (fun l => D.str (tx l)) (fun k ρ => ∃ (acc : List Rec) (o2 o3 : Option SV), ρ = [some (.fz (.str (tx cs))), some (.ow (.lst (acc.map recT))), o2, o3] ∧ acc.length ≤ k ∧ goW ((linesN cs).drop k) acc = wholeN cs)
      (ji_list (J.to (j_sl (j_split (jv 0 rfl) (ja_cons j_str ja_nil) (by decide +kernel) (by rw [tx_len]; exact le_size (by omega))) jo_none (jo_some (j_neg j_int)) sld_L) (d' := .lst ((linesN cs).map fun l => D.str (tx l))) ?_)) nd ⟨[], none, none, rfl, Nat.le_refl _, rfl⟩ ?_ ?_) ?_
  · rw [show ("\n" : Str) = tx [10] from by decide +kernel, show Txt.split (tx cs) (tx [10]) = (splN cs).map tx from SX.split_S (by simp) (by decide), cut_init]
    unfold linesN
    rw [List.map_map, ← List.map_dropLast]
    rfl
  · rintro k l _ hk ⟨acc, o2, o3, rfl, hal, he⟩
    obtain ⟨hkl, hke⟩ := List.getElem?_eq_some_iff.mp hk
    have hdr : (linesN cs).drop k = l :: (linesN cs).drop (k + 1) := by rw [List.drop_eq_getElem_cons hkl, hke]
    have hsl : l.length ≤ cs.length := lines_short (hke ▸ List.getElem_mem hkl)
    rw [hdr] at he
    unfold goW at he
    refine jss_cons (js_set (i := 3) (j_call cR hr (ja_cons (jv 2 rfl) ja_nil) ⟨l, rfl, by omega, rfl⟩ (fun _ h => h)) ?_ nd)
    cases e : readR l with
    | none =>
      rw [e] at he
      exact jss_cons (js_ifT (jt_w (jw_orT (JT.to (jt_cm (jv 3 rfl) j_non cd_isN) rfl))) (jss_cons (js_break ⟨_, rfl, _, _, by rw [← he]; rfl⟩)))
    | some r =>
      rw [e] at he
      dsimp only at he
      refine jss_cons (js_if (t := !nextOk acc r) (JT.to (jt_w (jw_or (t := false) (JT.to (jt_cm (jv 3 rfl) j_non cd_isN) rfl) (fun _ => jw_or1 (?_ : JT _ _ _ (!nextOk acc r))))) rfl) (fun h => ?_) (fun h => jss_nil ?_))
      · rcases List.eq_nil_or_concat acc with rfl | ⟨acc', q, hq⟩
        · exact jt_w (jw_andF (jt_truth (jv 1 rfl) rfl))
        · rw [List.concat_eq_append] at hq
          subst hq
          refine JT.to (jt_w (jw_and (t := true) (jt_truth (jv 1 rfl) ?_) (fun _ => jw_and1 (jt_cm (j_ix (jv 3 rfl) j_int (ixd_T (i := 0) (d := .int (r.1 : Int)) rfl)) (j_bin (j_ix (j_ix (jv 1 rfl) (j_neg j_int) (ixd_L (at_last (acc := acc') (q := q)))) j_int (ixd_T (ds := [.int (q.1 : Int), .str (tx q.2)]) (i := 0) (d := .int (q.1 : Int)) rfl)) j_int od_addI) cd_neI)))) ?_
          · rw [List.map_append]
            show truth (.lst (List.map recT acc' ++ [recT q])) = _
            cases List.map recT acc' <;> rfl
          · unfold nextOk
            rw [List.getLast?_append, Bool.true_and]
            show (!decide _) = !decide (r.1 = q.1 + 1)
            congr 1
            exact decide_eq_decide.mpr (by omega)
      · rw [Bool.not_eq_true'] at h
        rw [h] at he
        exact jss_cons (js_break ⟨_, rfl, _, _, by rw [← he]; rfl⟩)
      · rw [Bool.not_eq_false'] at h
        rw [h, if_pos rfl] at he
        refine jss_cons (js_append (i := 1) (ds := acc.map recT) rfl (jv 3 rfl) (by rw [List.length_map]; exact lt_size (by omega)) ?_)
        exact jss_nil ⟨acc ++ [r], _, _, by rw [List.map_append]; rfl, by simp; omega, he⟩
  · rintro _ ⟨acc, o2, o3, rfl, hal, he⟩
    rw [List.drop_length] at he
    exact ⟨_, rfl, _, _, by rw [← he]; rfl⟩
  rintro _ ⟨o2, o3, rfl⟩
  exact jr_retO (i := 1) rfl (by intro d hd; obtain ⟨r, _, rfl⟩ := List.mem_map.mp hd; rfl) rfl
end
end Toy.R39

namespace Toy.R39
open PySem PyProof.Rows L2 Pf Toy
open PySem.NumText (AllDigits digitsVal)
theorem isB_of {b : List Nat} (h1 : 1 ≤ b.length) (h2 : b.length ≤ 700) (h : ∀ c ∈ b, 32 ≤ c ∧ c ≤ 126) : isB b = true := by
  unfold isB
  rw [Bool.and_eq_true, Bool.and_eq_true, decide_eq_true_iff, decide_eq_true_iff]
  refine ⟨⟨h1, h2⟩, List.all_eq_true.mpr fun c hc => ?_⟩
  unfold okSign
  rw [Bool.and_eq_true, decide_eq_true_iff, decide_eq_true_iff]
  exact h c hc
theorem line_eq (n : Nat) (b : List Nat) : lineN (n : Int) b = numS (b.length : Int) ++ 32 :: (numS (n : Int) ++ 32 :: (b ++ 32 :: chkL (headN (n : Int) b))) := by
  unfold lineN
  conv => lhs; arg 1; unfold headN
  simp
theorem line_sign {n : Nat} {b : List Nat} (hb : ∀ c ∈ b, 32 ≤ c ∧ c ≤ 126) : ∀ c ∈ lineN (n : Int) b, 32 ≤ c := by
  intro c hc
  rw [line_eq] at hc
  have hd : ∀ m : Nat, ∀ c ∈ numS (m : Int), 32 ≤ c := fun m c h => by have := numS_dig m c h; omega
  have hk : ∀ L : List Nat, ∀ c ∈ chkL L, 32 ≤ c := by
    intro L c h
    unfold chkL dig3 at h
    simp only [List.cons_append, List.nil_append, List.mem_cons, List.not_mem_nil, or_false] at h
    omega
  simp only [List.mem_append, List.mem_cons] at hc
  rcases hc with h | h | h | h | h | h | h
  · exact hd _ c h
  · omega
  · exact hd _ c h
  · omega
  · exact (hb c h).1
  · omega
  · exact hk _ c h
section
variable {P : Program} {w : World} {K : PySem.W.Frag} {mg : Str → Option Value} {base : Heap}
end
end Toy.R39

namespace Toy.R39
open PySem PyProof.Rows L2 Pf Toy
theorem join_many (x : PySem.Str) (hx : x.cps = #[]) (Ls : List (List Nat)) : Txt.join x (Ls.map tx) = tx Ls.flatten := by
  have key : ∀ (L : List (List Nat)) (acc : Array Nat), (L.map tx).foldl (fun acc p => acc ++ x.cps ++ p.cps) acc = acc ++ L.flatten.toArray := by
    intro L
    induction L with
    | nil => intro acc; simp
    | cons c L ih =>
      intro acc
      rw [List.map_cons, List.foldl_cons, ih, hx]
      simp [tx]
  unfold Txt.join Builtin.Str.glued
  cases Ls with
  | nil => rfl
  | cons c L =>
    show (⟨List.foldl _ (tx c).cps (L.map tx)⟩ : PySem.Str) = _
    rw [key]
    unfold tx
    simp
end Toy.R39

namespace Toy
open PySem PyProof.Rows L2 Pf
inductive Bd where
  | en (e : En)
  | vw (v : View)
  | hd (h : Hd4)
  | row (r : Row)
def bdD : Bd → D
  | .en e => .tup [.str "entry", enD e]
  | .vw v => .tup [.str "view", viewD v]
  | .hd h => .tup [.str "keep", .tup (hdL h)]
  | .row r => .tup [.str "key", rowD r]
structure OkHd (h : Hd4) : Prop where
  a : h.1 < 1000000
  b : h.2.1 < 1000000
  m : ∀ n, h.2.2.1 = some n → n ≤ 1000000000
  v : ∀ v, h.2.2.2 = some v → GdV v
def OkBd : Bd → Prop
  | .en e => OkEn e
  | .vw v => GdV v
  | .hd h => OkHd h
  | .row r => OkRow r
def optB : Option Bd → D
  | none => .non
  | some b => bdD b
theorem numW_lt {z : Str} {k n : Nat} (h : numW z k = some n) : n < 10 ^ k := R39.pNum_lt h
theorem viewO_typed (ws : List Str) : viewO ws = .non ∨ ∃ v : View, viewO ws = viewD v ∧ GdV v := by
  unfold viewO
  split
  · exact .inl rfl
  split
  · exact .inl rfl
  split
  · rename_i hb
    right
    unfold viewB at hb
    rw [Bool.and_eq_true, Bool.and_eq_true, Bool.and_eq_true, Bool.and_eq_true, Bool.and_eq_true] at hb
    obtain ⟨⟨h1, h2⟩, ⟨⟨h3, h4⟩, h5⟩, h6⟩ := hb
    have h3 := of_decide_eq_true h3
    have h4 := of_decide_eq_true h4
    have h6 := of_decide_eq_true h6
    obtain ⟨a, ha⟩ : ∃ a, numW (ws.getD 0 "") 6 = some a := by
      cases q : numW (ws.getD 0 "") 6 with
      | none => rw [q] at h1; cases h1
      | some a => exact ⟨a, rfl⟩
    have hn : ∀ z ∈ ws.drop 2, isNm z = true := by
      rw [List.all_map, List.all_eq_true] at h5
      exact fun z hz => h5 z hz
    refine ⟨(a, numW (ws.getD 1 "") 6, ws.drop 2), by rw [ha]; rfl, ⟨⟨numW_lt ha, fun n h => numW_lt h, fun z hz => nm_len (hn z hz), by show (ws.drop 2).length ≤ 20; omega⟩, ⟨hn, ddL_all.mp h6⟩, h3, h4⟩⟩
  · exact .inl rfl
theorem headO_typed (ws : List Str) : headO ws = .non ∨ ∃ h : Hd4, headO ws = .tup (hdL h) ∧ OkHd h := by
  unfold headO
  split
  · exact .inl rfl
  split
  · exact .inl rfl
  rename_i hb
  split
  · exact .inl rfl
  rename_i hv
  right
  unfold headBad at hb
  rw [Bool.not_eq_true, Bool.or_eq_false_iff, Bool.or_eq_false_iff] at hb
  obtain ⟨h1, h2, h3⟩ := hb
  obtain ⟨a, ha⟩ : ∃ a, numW (ws.getD 0 "") 6 = some a := by
    cases q : numW (ws.getD 0 "") 6 with
    | none => rw [q] at h1; cases h1
    | some a => exact ⟨a, rfl⟩
  obtain ⟨b, hb⟩ : ∃ b, numW (ws.getD 1 "") 6 = some b := by
    cases q : numW (ws.getD 1 "") 6 with
    | none => rw [q] at h2; cases h2
    | some a => exact ⟨a, rfl⟩
  have hm : ∀ n, numW (ws.getD 2 "") 10 = some n → n ≤ 1000000000 := by
    intro n q
    rw [Bool.not_eq_false', Bool.or_eq_true, decide_eq_true_iff] at h3
    rcases h3 with z | z
    · rw [q] at z
      have z : (decide ((0 : Int) ≤ (n : Int)) && decide ((n : Int) ≤ 1000000000)) = true := z
      rw [Bool.and_eq_true, decide_eq_true_iff, decide_eq_true_iff] at z
      omega
    · rw [z, show numW ("none" : Str) 10 = none from by decide +kernel] at q
      cases q
  rcases viewO_typed (ws.drop 3) with z | ⟨v, z, g⟩
  · refine ⟨(a, b, numW (ws.getD 2 "") 10, none), by rw [ha, hb, z]; rfl, numW_lt ha, numW_lt hb, hm, fun v q => by cases q⟩
  · refine ⟨(a, b, numW (ws.getD 2 "") 10, some v), by rw [ha, hb, z]; rfl, numW_lt ha, numW_lt hb, hm, fun u q => by cases q; exact g⟩
theorem decO_typed {ws : List Str} {m : Nat} {ds : List D} (h : decO ws m = some ds) (hm : m ≤ 1000000000) : ∃ (lk : List Str) (e : Option Nat) (b : Bool), ds = [.tup (lk.map D.str), optN e, .bl b] ∧ (∀ z ∈ lk, isNm z = true) ∧ lk.length ≤ 8 ∧ ∀ n, e = some n → n < 1000000000000 := by
  unfold decO at h
  split at h
  · cases h
    exact ⟨[], some m, _, rfl, (fun z q => by cases q), by decide, fun n q => by cases q; omega⟩
  split at h
  · cases h
  split at h
  · cases h
  split at h
  · cases h
  · rename_i hb
    cases h
    unfold namesBad at hb
    rw [Bool.not_eq_true, Bool.or_eq_false_iff, Bool.or_eq_false_iff] at hb
    obtain ⟨h1, h2, _⟩ := hb
    have h1 := of_decide_eq_false h1
    rw [Bool.not_eq_false', List.all_map, List.all_eq_true] at h2
    exact ⟨_, _, _, rfl, fun z hz => h2 z hz, by omega, fun n q => numW_lt q⟩
theorem rowO_typed (ws : List Str) : rowO ws = none ∨ ∃ r : Row, rowO ws = some [.str r.key, .str r.grp, .int (r.cost : Int), .int (r.mom : Int), .tup (r.lack.map D.str), optN r.ear, .bl r.rel] ∧ OkRow r := by
  unfold rowO
  split
  · rename_i k g c t d r
    split
    · rename_i hk
      unfold rowOk at hk
      rw [Bool.and_eq_true, Bool.and_eq_true, Bool.and_eq_true] at hk
      obtain ⟨⟨h1, h2, h3⟩, h4⟩ := hk
      obtain ⟨n, hn⟩ : ∃ n, numW c 4 = some n := by
        cases q : numW c 4 with
        | none => rw [q] at h3; cases h3
        | some a => exact ⟨a, rfl⟩
      obtain ⟨m, hm⟩ : ∃ n, numW t 10 = some n := by
        cases q : numW t 10 with
        | none => rw [q] at h4; cases h4
        | some a => exact ⟨a, rfl⟩
      rw [hn] at h3
      rw [hm] at h4
      have h3 : (decide ((1 : Int) ≤ (n : Int)) && decide ((n : Int) ≤ 1000)) = true := h3
      have h4 : (decide ((0 : Int) ≤ (m : Int)) && decide ((m : Int) ≤ 1000000000)) = true := h4
      rw [Bool.and_eq_true, decide_eq_true_iff, decide_eq_true_iff] at h3 h4
      rw [hn, hm, show (some m).getD 0 = m from rfl]
      cases q : decO (d :: r) m with
      | none => exact .inl rfl
      | some ds =>
        right
        obtain ⟨lk, e, b, rfl, k1, k2, k3⟩ := decO_typed q (by omega)
        exact ⟨⟨k, g, n, m, lk, e, b⟩, rfl, h1, h2, ⟨by show 1 ≤ n; omega, by show n ≤ 1000; omega⟩, by show m ≤ _; omega, k1, k2, k3⟩
    · exact .inl rfl
  · exact .inl rfl
theorem bodyO_typed (z : Str) : ∃ o : Option Bd, bodyO z = optB o ∧ ∀ b, o = some b → OkBd b := by
  unfold bodyO
  split
  · exact ⟨none, rfl, fun b h => by cases h⟩
  · rename_i x r e
    by_cases h1 : x = "view"
    · subst h1
      have ek : kindO "view" = "view" := by decide +kernel
      rw [show toldO "view" r z = viewO r from if_pos rfl, ek]
      rcases viewO_typed r with q | ⟨v, q, g⟩
      · rw [q]; exact ⟨none, rfl, fun b h => by cases h⟩
      · rw [q]; exact ⟨some (.vw v), rfl, fun b h => by cases h; exact g⟩
    by_cases h2 : x = "keep"
    · subst h2
      have ek : kindO "keep" = "keep" := by decide +kernel
      rw [show toldO "keep" r z = headO r from by unfold toldO; rw [if_neg h1, if_pos rfl], ek]
      rcases headO_typed r with q | ⟨v, q, g⟩
      · rw [q]; exact ⟨none, rfl, fun b h => by cases h⟩
      · rw [q]; exact ⟨some (.hd v), rfl, fun b h => by cases h; exact g⟩
    by_cases h3 : x = "key"
    · subst h3
      have ek : kindO "key" = "key" := by decide +kernel
      rw [show toldO "key" r z = optT (rowO r) from by unfold toldO; rw [if_neg h1, if_neg h2, if_pos rfl], ek]
      rcases rowO_typed r with q | ⟨v, q, g⟩
      · rw [q]; exact ⟨none, rfl, fun b h => by cases h⟩
      · rw [q]; exact ⟨some (.row v), rfl, fun b h => by cases h; exact g⟩
    · have ek : kindO x = "entry" := by unfold kindO; rw [if_neg h1, if_neg h2, if_neg h3]
      rw [show toldO x r z = entO (parE z) from by unfold toldO; rw [if_neg h1, if_neg h2, if_neg h3], ek]
      unfold entO
      by_cases h4 : entD (parE z) = true
      · obtain ⟨en, he, ho⟩ := en_of h4
        rw [if_pos h4, he]
        exact ⟨some (.en en), rfl, fun b h => by cases h; exact ho⟩
      · rw [if_neg h4]
        exact ⟨none, rfl, fun b h => by cases h⟩
theorem askL_inj {a b : Ask} (h : askL a = askL b) : a = b := by
  obtain ⟨a1, a2, a3, a4⟩ := a
  obtain ⟨b1, b2, b3, b4⟩ := b
  have h : [D.str a1, .str a2, .int (a3 : Int), .int (a4 : Int)] = [D.str b1, .str b2, .int (b3 : Int), .int (b4 : Int)] := h
  simp only [List.cons.injEq, D.str.injEq, D.int.injEq, Int.ofNat_inj, and_true] at h
  obtain ⟨rfl, rfl, rfl, rfl⟩ := h
  rfl
theorem enL_inj {a b : En} (h : enL a = enL b) : a = b := by
  cases a with
  | ask a => cases b with
    | ask b =>
      injection h with _ h
      rw [askL_inj h]
    | rel k m => exact absurd (congrArg List.length h) (by simp [enL, askL])
  | rel k m => cases b with
    | ask b => exact absurd (congrArg List.length h) (by simp [enL, askL])
    | rel k' m' =>
      have h : [D.str "release", .str k, .int (m : Int)] = [D.str "release", .str k', .int (m' : Int)] := h
      simp only [List.cons.injEq, D.str.injEq, D.int.injEq, Int.ofNat_inj, and_true, true_and] at h
      obtain ⟨rfl, rfl⟩ := h
      rfl
theorem strs_inj {xs ys : List Str} (h : xs.map D.str = ys.map D.str) : xs = ys := List.map_inj_right (fun _ _ e => by cases e; rfl) |>.mp h
theorem optN_inj {a b : Option Nat} (h : optN a = optN b) : a = b := by
  have := eqv_opt a b
  have e2 : eqvD (optN a) (optN b) = true := by rw [h]; cases b <;> simp [optN, eqvD]
  rw [e2] at this
  exact of_decide_eq_true this.symm
theorem viewD_inj {a b : View} (h : viewD a = viewD b) : a = b := by
  obtain ⟨a1, a2, a3⟩ := a
  obtain ⟨b1, b2, b3⟩ := b
  have h : D.tup [.int (a1 : Int), optN a2, .tup (a3.map D.str)] = D.tup [.int (b1 : Int), optN b2, .tup (b3.map D.str)] := h
  simp only [D.tup.injEq, List.cons.injEq, D.int.injEq, Int.ofNat_inj, and_true] at h
  obtain ⟨rfl, h2, h3⟩ := h
  rw [optN_inj h2, strs_inj h3]
theorem viewN_inj {a b : Option View} (h : viewN a = viewN b) : a = b := by
  cases a with
  | none => cases b with
    | none => rfl
    | some b => exact absurd (congrArg Pf.isNon h) (by show ¬ true = false; decide)
  | some a => cases b with
    | none => exact absurd (congrArg Pf.isNon h) (by show ¬ false = true; decide)
    | some b => rw [viewD_inj (show viewD a = viewD b from h)]
theorem hdL_inj {a b : Hd4} (h : hdL a = hdL b) : a = b := by
  obtain ⟨a1, a2, a3, a4⟩ := a
  obtain ⟨b1, b2, b3, b4⟩ := b
  have h : [D.int (a1 : Int), .int (a2 : Int), optN a3, viewN a4] = [D.int (b1 : Int), .int (b2 : Int), optN b3, viewN b4] := h
  simp only [List.cons.injEq, D.int.injEq, Int.ofNat_inj, and_true] at h
  obtain ⟨rfl, rfl, h3, h4⟩ := h
  rw [optN_inj h3, viewN_inj h4]
theorem rowD_inj {a b : Row} (h : rowD a = rowD b) : a = b := by
  obtain ⟨a1, a2, a3, a4, a5, a6, a7⟩ := a
  obtain ⟨b1, b2, b3, b4, b5, b6, b7⟩ := b
  have h : D.tup [.str a1, .str a2, .int (a3 : Int), .int (a4 : Int), .tup (a5.map D.str), optN a6, .bl a7] = D.tup [.str b1, .str b2, .int (b3 : Int), .int (b4 : Int), .tup (b5.map D.str), optN b6, .bl b7] := h
  simp only [D.tup.injEq, List.cons.injEq, D.str.injEq, D.int.injEq, D.bl.injEq, Int.ofNat_inj, and_true] at h
  obtain ⟨rfl, rfl, rfl, rfl, h5, h6, rfl⟩ := h
  rw [strs_inj h5, optN_inj h6]
theorem bdD_inj {a b : Bd} (h : bdD a = bdD b) : a = b := by
  have no : ∀ {x y : Str} {d e : D}, D.tup [.str x, d] = D.tup [.str y, e] → x = y ∧ d = e := fun h => by
    simp only [D.tup.injEq, List.cons.injEq, D.str.injEq, and_true] at h
    exact h
  cases a with
  | en a => cases b with
    | en b => have := (no h).2; injection this with this; rw [enL_inj this]
    | vw b => exact absurd (no h).1 (by decide +kernel)
    | hd b => exact absurd (no h).1 (by decide +kernel)
    | row b => exact absurd (no h).1 (by decide +kernel)
  | vw a => cases b with
    | en b => exact absurd (no h).1 (by decide +kernel)
    | vw b => rw [viewD_inj (no h).2]
    | hd b => exact absurd (no h).1 (by decide +kernel)
    | row b => exact absurd (no h).1 (by decide +kernel)
  | hd a => cases b with
    | en b => exact absurd (no h).1 (by decide +kernel)
    | vw b => exact absurd (no h).1 (by decide +kernel)
    | hd b => have := (no h).2; injection this with this; rw [hdL_inj this]
    | row b => exact absurd (no h).1 (by decide +kernel)
  | row a => cases b with
    | en b => exact absurd (no h).1 (by decide +kernel)
    | vw b => exact absurd (no h).1 (by decide +kernel)
    | hd b => exact absurd (no h).1 (by decide +kernel)
    | row b => rw [rowD_inj (no h).2]
theorem optB_inj {a b : Option Bd} (h : optB a = optB b) : a = b := by
  cases a with
  | none => cases b with
    | none => rfl
    | some b => cases b <;> cases h
  | some a => cases b with
    | none => cases a <;> cases h
    | some b => rw [bdD_inj (show bdD a = bdD b from h)]
noncomputable def bdOf (z : Str) : Option Bd := (bodyO_typed z).choose
theorem bdOf_eq (z : Str) : bodyO z = optB (bdOf z) := (bodyO_typed z).choose_spec.1
theorem bdOf_ok {z : Str} {b : Bd} (h : bdOf z = some b) : OkBd b := (bodyO_typed z).choose_spec.2 b h
theorem bdOf_of {z : Str} {b : Bd} (h : bodyO z = bdD b) : bdOf z = some b := optB_inj (by rw [← bdOf_eq, h]; rfl)
abbrev Rec : Type := Nat × List Nat
def rcD (r : Rec) : D := .tup [.int (r.1 : Int), .str (tx r.2)]
noncomputable def bdR (r : Rec) : Option Bd := bdOf (tx r.2)
def rowB : Option Bd → Option Row
  | some (.row r) => some r
  | _ => none
noncomputable def unitB : Option Bd → List Rec → Option (Tk × Nat)
  | some (.en e), _ => some (.en e, 1)
  | some (.vw v), _ => some (.vw v, 1)
  | some (.hd h), rest => if ((rest.take h.1).length < h.1 ∨ ((rest.take h.1).map fun q => (rowB (bdR q)).isSome).all id = false) then none else some (.kp h ((rest.take h.1).filterMap fun q => rowB (bdR q)), 1 + h.1)
  | _, _ => none
noncomputable def unitL : List Rec → Option (Tk × Nat)
  | [] => none
  | r :: rest => unitB (bdR r) rest
end Toy

namespace Toy
open PySem PyProof.Rows L2 Pf
theorem cut_midN {α : Type} (xs : List α) (a b : Nat) (h : a ≤ b) : cut xs (some (a : Int)) (some (b : Int)) = (xs.drop a).take (b - a) := by
  unfold cut
  rw [HT.sIx_nat, HT.sIx_nat]
  by_cases h1 : b ≤ xs.length
  · rw [Nat.min_eq_left (by omega), Nat.min_eq_left (by omega)]
  · rw [Nat.min_eq_right (a := b) (by omega)]
    by_cases h2 : a ≤ xs.length
    · rw [Nat.min_eq_left h2, List.take_of_length_le (by rw [List.length_drop]; omega), List.take_of_length_le (by rw [List.length_drop]; omega)]
    · rw [Nat.min_eq_right (by omega), List.drop_of_length_le (Nat.le_refl _), List.drop_of_length_le (by omega)]
      simp
def unitD : Option (Tk × Nat) → D
  | none => .non
  | some (t, m) => .tup [.str (tkW t), tkD t, .int (m : Int)]
def OkRecs (rs : List Rec) : Prop := ∀ r ∈ rs, R39.isB r.2 = true
theorem rec_z {b : List Nat} (h : R39.isB b = true) : (tx b).length ≤ 900 ∧ PySem.PyData.strOk (tx b) = true := by
  refine ⟨?_, (strOk_iff _).mpr fun c hc => ?_⟩
  · have := R39.isB_len h
    rw [tx_len]; omega
  · have := R39.isB_sign h c (by simpa [tx] using hc)
    omega
theorem rowB_ok {o : Option Bd} {r : Row} (h : rowB o = some r) (ho : ∀ b, o = some b → OkBd b) : OkRow r := by
  cases o with
  | none => cases h
  | some b => cases b with
    | row r' => cases h; exact ho _ rfl
    | en e => cases h
    | vw v => cases h
    | hd h' => cases h
theorem bdR_ok {q : Rec} {b : Bd} (h : bdR q = some b) : OkBd b := bdOf_ok h
theorem fm_len {α β : Type} {f : α → Option β} : ∀ {xs : List α}, (xs.map fun x => (f x).isSome).all id = true → (xs.filterMap f).length = xs.length
  | [], _ => rfl
  | x :: xs, h => by
    rw [List.map_cons, List.all_cons, Bool.and_eq_true] at h
    obtain ⟨y, hy⟩ := Option.isSome_iff_exists.mp h.1
    rw [List.filterMap_cons, hy]
    show (y :: List.filterMap f xs).length = _
    rw [List.length_cons, fm_len h.2, List.length_cons]
structure UnitOk (rs : List Rec) (t : Tk) (m : Nat) : Prop where
  tk : OkTk t
  pos : 1 ≤ m
  le : m ≤ rs.length
  cnt : ∀ h q, t = .kp h q → q.length < m
theorem unitL_ok {rs : List Rec} {t : Tk} {m : Nat} (h : unitL rs = some (t, m)) (hl : rs.length ≤ 4000) : UnitOk rs t m := by
  cases rs with
  | nil => cases h
  | cons r rest =>
    have h : unitB (bdR r) rest = some (t, m) := h
    cases hb : bdR r with
    | none => rw [hb] at h; cases h
    | some b =>
      rw [hb] at h
      cases b with
      | en e => cases h; exact ⟨bdR_ok hb, Nat.le_refl _, by simp, fun _ _ z => by cases z⟩
      | vw v => cases h; exact ⟨bdR_ok hb, Nat.le_refl _, by simp, fun _ _ z => by cases z⟩
      | row r' => cases h
      | hd e =>
        have h : (if ((rest.take e.1).length < e.1 ∨ ((rest.take e.1).map fun q => (rowB (bdR q)).isSome).all id = false) then none else some (Tk.kp e ((rest.take e.1).filterMap fun q => rowB (bdR q)), 1 + e.1)) = some (t, m) := h
        split at h
        · cases h
        · rename_i hc
          cases h
          have hc1 : ¬ (rest.take e.1).length < e.1 := fun z => hc (.inl z)
          have hc2 : ((rest.take e.1).map fun q => (rowB (bdR q)).isSome).all id = true := by
            cases z : ((rest.take e.1).map fun q => (rowB (bdR q)).isSome).all id with
            | true => rfl
            | false => exact absurd (.inr z) hc
          rw [List.length_take] at hc1
          rw [List.length_cons] at hl
          have hlen := fm_len hc2
          rw [List.length_take, Nat.min_eq_left (by omega)] at hlen
          have ho : OkHd e := bdR_ok hb
          refine ⟨⟨fun r hr => ?_, hlen.symm, by omega, ho.m, ho.v⟩, by omega, by rw [List.length_cons]; omega, fun h q z => by cases z; omega⟩
          obtain ⟨q, _, hq⟩ := List.mem_filterMap.mp hr
          exact rowB_ok hq fun b => bdR_ok
theorem fm_rows : ∀ {xs : List Rec}, (xs.map fun x => (rowB (bdR x)).isSome).all id = true → xs.map (fun q => optB (bdR q)) = (xs.filterMap fun q => rowB (bdR q)).map fun r => D.tup [.str "key", rowD r]
  | [], _ => rfl
  | x :: xs, h => by
    rw [List.map_cons, List.all_cons, Bool.and_eq_true] at h
    obtain ⟨y, hy⟩ := Option.isSome_iff_exists.mp h.1
    rw [List.filterMap_cons, hy]
    have : bdR x = some (.row y) := by
      cases q : bdR x with
      | none => rw [q] at hy; cases hy
      | some b => rw [q] at hy; cases b <;> cases hy; rfl
    show optB (bdR x) :: List.map _ xs = D.tup [.str "key", rowD y] :: List.map _ (List.filterMap _ xs)
    rw [fm_rows h.2, this]; rfl
section
variable {P : Program} {w : World} {K : PySem.W.Frag} {mg : Str → Option Value} {base : Heap}
abbrev nRu : List Str := ["records", "at", "word", "told", "end", "rows", "number", "body", "row"]
abbrev sRu : Stmt := top 57
theorem scRu : FnScope nRu ["records", "at"] (defScope sRu) := ⟨rfl, rfl, rfl, by decide +kernel, rfl, by decide +kernel, by decide +kernel⟩
def gRu : List D → (D → Prop) → Prop := fun ds P => ∃ (rs : List Rec) (n : Nat), ds = [.lst (rs.map rcD), .int (n : Nat)] ∧ OkRecs rs ∧ n < rs.length ∧ rs.length ≤ 4000 ∧ P = fun d => d = unitD (unitL (rs.drop n))
theorem drop_at {α : Type} {xs : List α} {n : Nat} (h : n < xs.length) : ∃ x, xs[n]? = some x ∧ xs.drop n = x :: xs.drop (n + 1) := ⟨xs[n], by simp [h], List.drop_eq_getElem_cons h⟩
theorem at_rec {rs : List Rec} {n : Nat} {r : Rec} (h : rs[n]? = some r) : atI (rs.map rcD) (n : Int) = some (rcD r) := by
  have hn := (List.getElem?_eq_some_iff.mp h).1
  rw [atI_mapN rcD (0, []) n rfl hn]
  rw [List.getD_eq_getElem?_getD, h]; rfl
theorem ok_ru {f : Addr} {fd : FuncData} (F : Fun K "read_unit" "read_unit" sRu f fd) (T : Bt mg) (cB : PFn P w K mg base 6 "read_body" 1 gRb) : FnOk P w K mg base CX0 7 f fd ["records", "at"] (spP K 2 gRu) := by
  refine fn_pure F scRu (by rintro ds Pd ⟨_, _, rfl, _⟩; rfl) fun cdv A outer s H E ds Pd hr hG => ?_
  obtain ⟨rs, n, rfl, hok, hn, hl, rfl⟩ := hG
  have nd := scRu.nd
  obtain ⟨r, hx, hd⟩ := drop_at hn
  obtain ⟨z1, z2⟩ := rec_z (hok r (List.mem_of_getElem? hx))
  rw [hd]
  have hbd : bodyO (tx r.2) = optB (bdR r) := bdOf_eq _
  have htr : truth (optB (bdR r)) = some (bdR r).isSome := by cases bdR r with
    | none => rfl
    | some b => cases b <;> rfl
  -- word, told = read_body(..) or ("none", None)
  have first : ∀ {Φ : Out → Prop} {ss : List Stmt} (wd : Str) (td : D), (if (bdR r).isSome = true then optB (bdR r) else .tup [.str "none", .non]) = .tup [.str wd, td] → JSs (cxOf CX0 P w K mg base nRu "read_unit" (defScope sRu) f cdv A outer s H E).nox [] (defBody sRu).tail [some (.fz (.lst (rs.map rcD))), some (.fz (.int (n : Nat))), some (.fz (.str wd)), some (.fz td), none, none, none, none, none] (fin fun d => d = unitD (unitL (r :: rs.drop (n + 1)))) → JSs (cxOf CX0 P w K mg base nRu "read_unit" (defScope sRu) f cdv A outer s H E).nox [] (defBody sRu) [some (.fz (.lst (rs.map rcD))), some (.fz (.int (n : Nat))), none, none, none, none, none, none, none] (fin fun d => d = unitD (unitL (r :: rs.drop (n + 1)))) := by
    intro Φ ss wd td e k
    refine jss_cons (js_pat (pat := .tp [2, 3]) (J.to (j_orT (t := (bdR r).isSome) (d1 := optB (bdR r)) (d2 := .tup [.str "none", .non]) (J.to (j_call cB hr (ja_cons (j_ix (j_ix (jv 0 rfl) (jv 1 rfl) (ixd_L (at_rec hx))) j_int (ixd_T (d := .str (tx r.2)) rfl)) ja_nil) ⟨tx r.2, rfl, z1, z2, rfl⟩ (fun _ h => h)) hbd) htr (fun _ => j_one (j_tup (ja_cons j_str (ja_cons j_non ja_nil))))) e) rfl ?_ (pg_tup rfl (pgs_cons (pg_name nd rfl (Or.inl rfl)) (pgs_cons (pg_name nd rfl (Or.inl rfl)) pgs_nil))))
    exact k
  have no : ∀ {a b : Str}, a ≠ b → decide (a = b) = false := fun h => decide_eq_false h
  cases hb : bdR r with
  | none =>
    refine first (Φ := fun _ => True) (ss := []) "none" .non (by rw [hb]; rfl) ?_
    refine jss_cons (js_ifF (JT.to (jt_w (jw_or (t := false) (JT.to (jt_cm (jv 2 rfl) j_str cd_eqS) (no (by decide +kernel))) (fun _ => jw_or1 (t := false) (JT.to (jt_cm (jv 2 rfl) j_str cd_eqS) (no (by decide +kernel)))))) rfl) (jss_nil ?_))
    refine jss_cons (js_ifT (JT.to (jt_cm (jv 2 rfl) j_str cd_neS) (by rw [no (by decide +kernel)]; rfl)) (jss_cons (js_ret j_non ?_)))
    show D.non = unitD (unitL (r :: rs.drop (n + 1)))
    show _ = unitD (unitB (bdR r) _)
    rw [hb]; rfl
  | some b =>
    cases b with
    | en e =>
      refine first (Φ := fun _ => True) (ss := []) "entry" (enD e) (by rw [hb]; rfl) ?_
      refine jss_cons (js_ifT (JT.to (jt_w (jw_orT (JT.to (jt_cm (jv 2 rfl) j_str cd_eqS) (decide_eq_true rfl)))) rfl) (jss_cons (js_ret (j_tup (ja_cons (jv 2 rfl) (ja_cons (jv 3 rfl) (ja_cons j_int ja_nil)))) ?_)))
      show _ = unitD (unitL (r :: rs.drop (n + 1)))
      show _ = unitD (unitB (bdR r) _)
      rw [hb]; rfl
    | vw e =>
      refine first (Φ := fun _ => True) (ss := []) "view" (viewD e) (by rw [hb]; rfl) ?_
      refine jss_cons (js_ifT (JT.to (jt_w (jw_or (t := false) (JT.to (jt_cm (jv 2 rfl) j_str cd_eqS) (no (by decide +kernel))) (fun _ => jw_or1 (t := true) (JT.to (jt_cm (jv 2 rfl) j_str cd_eqS) (decide_eq_true rfl))))) rfl) (jss_cons (js_ret (j_tup (ja_cons (jv 2 rfl) (ja_cons (jv 3 rfl) (ja_cons j_int ja_nil)))) ?_)))
      show _ = unitD (unitL (r :: rs.drop (n + 1)))
      show _ = unitD (unitB (bdR r) _)
      rw [hb]; rfl
    | row e =>
      refine first (Φ := fun _ => True) (ss := []) "key" (rowD e) (by rw [hb]; rfl) ?_
      refine jss_cons (js_ifF (JT.to (jt_w (jw_or (t := false) (JT.to (jt_cm (jv 2 rfl) j_str cd_eqS) (no (by decide +kernel))) (fun _ => jw_or1 (t := false) (JT.to (jt_cm (jv 2 rfl) j_str cd_eqS) (no (by decide +kernel)))))) rfl) (jss_nil ?_))
      refine jss_cons (js_ifT (JT.to (jt_cm (jv 2 rfl) j_str cd_neS) (by rw [no (by decide +kernel)]; rfl)) (jss_cons (js_ret j_non ?_)))
      show D.non = unitD (unitL (r :: rs.drop (n + 1)))
      show _ = unitD (unitB (bdR r) _)
      rw [hb]; rfl
    | hd h =>
      have ho : OkHd h := bdR_ok hb
      have ha := ho.a
      refine first (Φ := fun _ => True) (ss := []) "keep" (.tup (hdL h)) (by rw [hb]; rfl) ?_
      refine jss_cons (js_ifF (JT.to (jt_w (jw_or (t := false) (JT.to (jt_cm (jv 2 rfl) j_str cd_eqS) (no (by decide +kernel))) (fun _ => jw_or1 (t := false) (JT.to (jt_cm (jv 2 rfl) j_str cd_eqS) (no (by decide +kernel)))))) rfl) (jss_nil ?_))
      refine jss_cons (js_ifF (JT.to (jt_cm (jv 2 rfl) j_str cd_neS) (by rw [show decide (("keep" : Str) = "keep") = true from decide_eq_true rfl]; rfl)) (jss_nil ?_))
      refine jss_cons (js_set (i := 4) (j_bin (j_bin (jv 1 rfl) j_int od_addI) (j_ix (jv 3 rfl) j_int (ixd_T (d := .int (h.1 : Nat)) rfl)) od_addI) ?_ nd)
      have ecut : cut (rs.map rcD) (some ((n : Int) + 1)) (some ((n : Int) + 1 + (h.1 : Int))) = ((rs.drop (n + 1)).take h.1).map rcD := by
        have := cut_midN rs (n + 1) (n + 1 + h.1) (by omega)
        rw [cut_map]
        rw [show ((n + 1 : Nat) : Int) = (n : Int) + 1 from by omega, show ((n + 1 + h.1 : Nat) : Int) = (n : Int) + 1 + (h.1 : Int) from by omega] at this
        rw [this, show n + 1 + h.1 - (n + 1) = h.1 from by omega]
      have hok2 : ∀ q ∈ (rs.drop (n + 1)).take h.1, R39.isB q.2 = true := fun q hq => hok q (List.mem_of_mem_drop (List.mem_of_mem_take hq))
      have hl2 : ((rs.drop (n + 1)).take h.1).length ≤ 4000 := by rw [List.length_take, List.length_drop]; omega
      have eun : unitL (r :: rs.drop (n + 1)) = if (((rs.drop (n + 1)).take h.1).length < h.1 ∨ (((rs.drop (n + 1)).take h.1).map fun q => (rowB (bdR q)).isSome).all id = false) then none else some (.kp h (((rs.drop (n + 1)).take h.1).filterMap fun q => rowB (bdR q)), 1 + h.1) := by
        show unitB (bdR r) _ = _
        rw [hb]; rfl
      rw [eun]
      generalize (rs.drop (n + 1)).take h.1 = qs at ecut hok2 hl2
      refine jss_cons (js_setLc (i := 5) (own := [("number", 6), ("body", 7)]) (pat := .tp [6, 7]) (its := qs.map fun q => (rcD q, some (optB (bdR q)))) (ji_list (J.to (j_sl (jv 0 rfl) (jo_some (j_bin (jv 1 rfl) j_int od_addI)) (jo_some (jv 4 rfl)) sld_L) (by rw [List.map_map]; exact congrArg D.lst ecut))) (blkOk_by (N := nRu) (sc := defScope sRu) (by decide +kernel)) (fun _ _ _ _ _ => pg_tup rfl (pgs_cons (pg_name nd rfl (Or.inl rfl)) (pgs_cons (pg_name nd rfl (Or.inl rfl)) pgs_nil))) (by decide) (by rw [List.length_map]; exact lt_size (by omega)) (fun q hq => ?_) ?_ nd (by rfl))
      · obtain ⟨y, hy, rfl⟩ := List.mem_map.mp hq
        obtain ⟨y1, y2⟩ := rec_z (hok2 y hy)
        exact ⟨_, rfl, fun _ _ _ _ _ => ⟨jts_nil, J.to (j_call cB hr (ja_cons (jv 7 rfl) ja_nil) ⟨tx y.2, rfl, y1, y2, rfl⟩ (fun _ h => h)) (bdOf_eq _)⟩⟩
      have erow : (qs.map fun q => (rcD q, some (optB (bdR q)))).filterMap (·.2) = qs.map fun q => optB (bdR q) := by
        rw [List.filterMap_map]
        exact List.filterMap_eq_map.symm ▸ rfl
      rw [erow]
      have lenQ : lenD (.lst (qs.map fun q => optB (bdR q))) = some qs.length := by show some _ = _; rw [List.length_map]
      refine jss_cons (js_if (t := decide (qs.length < h.1) || !(qs.map fun q => (rowB (bdR q)).isSome).all id) (JT.to (jt_w (jw_or (jt_cm (jb_len T (ja_cons (jv 5 rfl) ja_nil) lenQ) (j_ix (jv 3 rfl) j_int (ixd_T (d := .int (h.1 : Nat)) rfl)) cd_ltI) (fun _ => jw_or1 (jt_not (jt_val (jb_all T (bs := qs.map fun q => (rowB (bdR q)).isSome) (ja_cons (J.to (j_lcM (own := [("row", 8)]) (i := 8) qs (fun q => optB (bdR q)) (fun q => D.bl (rowB (bdR q)).isSome) (ji_list (jv 5 rfl)) (blkOk_by (N := nRu) (sc := defScope sRu) (by decide +kernel)) (fun _ _ _ _ _ => pg_name nd rfl (Or.inl rfl)) (lt_size (by omega)) (fun q hm _ _ _ _ _ => ?_) nd) (by rw [List.map_map]; rfl)) ja_nil))))))) (by rw [show decide (((qs.length : Nat) : Int) < ((h.1 : Nat) : Int)) = decide (qs.length < h.1) from decide_eq_decide.mpr ⟨fun q => by omega, fun q => by omega⟩])) (fun h1 => ?_) (fun h1 => jss_nil ?_))
      · cases e : bdR q with
        | none => exact J.to (j_andFa (J.to (j_cm (J.to (jv 8 rfl) (d' := .non) rfl) j_non cd_notN) rfl)) rfl
        | some b =>
          cases b with
          | en e' => exact J.to (j_and (t := true) (u := false) (J.to (j_cm (J.to (jv 8 rfl) (d' := .tup [.str "entry", enD e']) rfl) j_non cd_notN) rfl) (fun _ => j_one (J.to (j_cm (j_ix (J.to (jv 8 rfl) (d' := .tup [.str "entry", enD e']) rfl) j_int (ixd_T (d := .str "entry") rfl)) j_str cd_eqS) (congrArg D.bl (no (by decide +kernel)))))) rfl
          | vw e' => exact J.to (j_and (t := true) (u := false) (J.to (j_cm (J.to (jv 8 rfl) (d' := .tup [.str "view", viewD e']) rfl) j_non cd_notN) rfl) (fun _ => j_one (J.to (j_cm (j_ix (J.to (jv 8 rfl) (d' := .tup [.str "view", viewD e']) rfl) j_int (ixd_T (d := .str "view") rfl)) j_str cd_eqS) (congrArg D.bl (no (by decide +kernel)))))) rfl
          | hd e' => exact J.to (j_and (t := true) (u := false) (J.to (j_cm (J.to (jv 8 rfl) (d' := .tup [.str "keep", .tup (hdL e')]) rfl) j_non cd_notN) rfl) (fun _ => j_one (J.to (j_cm (j_ix (J.to (jv 8 rfl) (d' := .tup [.str "keep", .tup (hdL e')]) rfl) j_int (ixd_T (d := .str "keep") rfl)) j_str cd_eqS) (congrArg D.bl (no (by decide +kernel)))))) rfl
          | row e' => exact J.to (j_and (t := true) (u := true) (J.to (j_cm (J.to (jv 8 rfl) (d' := .tup [.str "key", rowD e']) rfl) j_non cd_notN) rfl) (fun _ => j_one (J.to (j_cm (j_ix (J.to (jv 8 rfl) (d' := .tup [.str "key", rowD e']) rfl) j_int (ixd_T (d := .str "key") rfl)) j_str cd_eqS) (congrArg D.bl (decide_eq_true rfl))))) rfl
      · refine jss_cons (js_ret j_non ?_)
        show D.non = unitD _
        rw [Bool.or_eq_true, decide_eq_true_iff, Bool.not_eq_true'] at h1
        rw [if_pos h1]; rfl
      · rw [Bool.or_eq_false_iff, decide_eq_false_iff_not, Bool.not_eq_false'] at h1
        have efm := fm_rows h1.2
        refine jss_cons (js_ret (j_tup (ja_cons (jv 2 rfl) (ja_cons (j_tup (ja_cons (jv 3 rfl) (ja_cons (j_lcM (own := [("row", 8)]) (i := 8) (qs.filterMap fun q => rowB (bdR q)) (fun r => D.tup [.str "key", rowD r]) rowD (ji_list (J.to (jv 5 rfl) (congrArg D.lst efm))) (blkOk_by (N := nRu) (sc := defScope sRu) (by decide +kernel)) (fun _ _ _ _ _ => pg_name nd rfl (Or.inl rfl)) (lt_size (by have := fm_len h1.2; omega)) (fun q hm _ _ _ _ _ => j_ix (jv 8 rfl) j_int (ixd_T (d := rowD q) rfl)) nd) ja_nil))) (ja_cons (j_bin j_int (j_ix (jv 3 rfl) j_int (ixd_T (d := .int (h.1 : Nat)) rfl)) od_addI) ja_nil)))) ?_)
        show _ = unitD _
        rw [if_neg (by rintro (z | z); exact h1.1 z; rw [h1.2] at z; cases z)]
        show D.tup [.str "keep", .tup [.tup (hdL h), .lst ((qs.filterMap fun q => rowB (bdR q)).map rowD)], .int (1 + (h.1 : Int))] = D.tup [.str "keep", .tup [.tup (hdL h), .lst ((qs.filterMap fun q => rowB (bdR q)).map rowD)], .int ((1 + h.1 : Nat) : Int)]
        rw [show ((1 + h.1 : Nat) : Int) = 1 + (h.1 : Int) from by omega]
end
end Toy

namespace Toy
open PySem PyProof.Rows L2 Pf
structure JS where
  first : Nat
  bods : List (List Nat)
  ents : List En
  past : PS
  lines : List (List Nat)
  last : Nat
def js0 : JS := ⟨0, [], [], ps0, [], 0⟩
abbrev strsD (bs : List (List Nat)) : D := .lst (bs.map fun b => .str (tx b))
def jsF (CP : Addr) (s : JS) : List (Str × D) := [("_first", .int (s.first : Int)), ("_bodies", strsD s.bods), ("_entries", .lst (s.ents.map enD)), ("_past", psD CP s.past), ("_lines", strsD s.lines), ("_last_head", .int (s.last : Int))]
def jsD (C CP : Addr) (s : JS) : D := .ins C (jsF CP s)
structure Kj (K : PySem.W.Frag) (mg : Str → Option Value) (C : Addr) : Prop where
  cl : Cls K C
  n0 : NoAttr K C "_first"
  n1 : NoAttr K C "_bodies"
  n2 : NoAttr K C "_entries"
  n3 : NoAttr K C "_past"
  n4 : NoAttr K C "_lines"
  n5 : NoAttr K C "_last_head"
  mgC : mg "Journal" = some (.ref C)
theorem lkJ {CP : Addr} {s : JS} {m : Str} (h : ((((((m == ("_first" : Str)) || (m == ("_bodies" : Str))) || (m == ("_entries" : Str))) || (m == ("_past" : Str))) || (m == ("_lines" : Str))) || (m == ("_last_head" : Str))) = false) : (jsF CP s).lookup m = none := by
  simp only [Bool.or_eq_false_iff] at h
  obtain ⟨⟨⟨⟨⟨h0, h1⟩, h2⟩, h3⟩, h4⟩, h5⟩ := h
  unfold jsF
  rw [List.lookup_cons, h0, List.lookup_cons, h1, List.lookup_cons, h2, List.lookup_cons, h3, List.lookup_cons, h4, List.lookup_cons, h5]; rfl
def isKp : Tk → Bool
  | .kp _ _ => true
  | _ => false
def entT : Tk → List En
  | .en e => [e]
  | _ => []
def putJ (s : JS) (t : Tk) (bs : List (List Nat)) : JS := ⟨s.first, s.bods ++ bs, s.ents ++ entT t, takeP s.past t, s.lines, if isKp t = true then s.bods.length else s.last⟩
noncomputable def takeL : Nat → List Rec → Bool → JS → JS
  | 0, _, _, s => s
  | n + 1, rs, fst, s => match unitL rs with
    | none => s
    | some (t, m) => if fitsP s.past t = true then (if (fst && (!isKp t && !decide (((rs.head?.map (·.1)).getD 0) = 0))) = true then s else
        takeL n (rs.drop m) false (putJ (if fst = true then { s with first := (rs.head?.map (·.1)).getD 0 } else s) t ((rs.take m).map (·.2)))) else s
noncomputable def journalOf (rs : List Rec) : JS := takeL rs.length rs true js0
structure OkJ (s : JS) (b : Nat) : Prop where
  past : OkPs s.past
  a : s.past.asked.length ≤ b
  w : s.past.was.length ≤ b
  r : s.past.rel.length ≤ b
  e : s.ents.length ≤ b
  es : ∀ e ∈ s.ents, OkEn e
  bods : s.bods.length ≤ b
  bok : ∀ x ∈ s.bods, R39.isB x = true
theorem ps0_ok : OkPs ps0 := ⟨fun _ h => (by cases h), fun _ h => (by cases h), by decide, by decide, by decide⟩
theorem js0_ok : OkJ js0 0 := ⟨ps0_ok, Nat.le_refl _, Nat.le_refl _, Nat.le_refl _, Nat.le_refl _, fun _ h => (by cases h), Nat.le_refl _, fun _ h => (by cases h)⟩
theorem OkPs.takeRs : ∀ {rs : List Row} {p : PS}, (∀ r ∈ rs, OkRow r) → (∀ a ∈ p.asked, OkAsk a) → ∀ a ∈ (rs.foldl takeR p).asked, OkAsk a
  | [], p, _, h => h
  | r :: rs, p, ho, h => by
    rw [List.foldl_cons]
    refine OkPs.takeRs (fun x hx => ho x (List.mem_cons_of_mem _ hx)) fun a ha => ?_
    rcases setK_mem (f := fun a : Ask => a.1) (xs := p.asked) (a := rAsk r) ha with q | q
    · rw [q]; exact rAsk_ok (ho r List.mem_cons_self)
    · exact h a q
theorem takeRs_view : ∀ (rs : List Row) (p : PS), (rs.foldl takeR p).view = p.view ∧ (rs.foldl takeR p).mom = p.mom ∧ (rs.foldl takeR p).many = p.many ∧ (rs.foldl takeR p).drop = p.drop ∧ (rs.foldl takeR p).blank = p.blank
  | [], p => ⟨rfl, rfl, rfl, rfl, rfl⟩
  | r :: rs, p => by rw [List.foldl_cons]; exact takeRs_view rs (takeR p r)
theorem OkJ.put {s : JS} {b m : Nat} {t : Tk} {bs : List (List Nat)} (h : OkJ s b) (ht : OkTk t) (hm : 1 ≤ m) (hc : ∀ hd q, t = .kp hd q → q.length < m) (hb : bs.length ≤ m) (hbo : ∀ x ∈ bs, R39.isB x = true) (hl : b + m ≤ 10000) : OkJ (putJ s t bs) (b + m) := by
  have hp := h.past
  have ha := h.a
  have hw := h.w
  have hr := h.r
  have he := h.e
  have hbd := h.bods
  have b1 : (s.bods ++ bs).length ≤ b + m := by rw [List.length_append]; omega
  have b2 : ∀ x ∈ s.bods ++ bs, R39.isB x = true := fun x hx => (List.mem_append.mp hx).elim (h.bok x) (hbo x)
  cases t with
  | en e =>
    have k1 : (takeE s.past e).asked.length ≤ b + 1 ∧ (takeE s.past e).was.length ≤ b + 1 ∧ (takeE s.past e).rel.length ≤ b + 1 := by
      cases e with
      | ask a => have := setK_len (fun a : Ask => a.1) s.past.asked a; exact ⟨by show (setK _ _ _).length ≤ _; omega, by show s.past.was.length ≤ _; omega, by show s.past.rel.length ≤ _; omega⟩
      | rel k mm => have := setK_len id s.past.rel k; exact ⟨by show s.past.asked.length ≤ _; omega, by show s.past.was.length ≤ _; omega, by show (setK _ _ _).length ≤ _; omega⟩
    exact ⟨hp.takeE ht (by omega) (by omega), by show (takeE s.past e).asked.length ≤ _; omega, by show (takeE s.past e).was.length ≤ _; omega, by show (takeE s.past e).rel.length ≤ _; omega, by show (s.ents ++ [e]).length ≤ _; rw [List.length_append, List.length_singleton]; omega, fun x hx => (List.mem_append.mp hx).elim (h.es x) fun q => by rw [List.mem_singleton.mp q]; exact ht, b1, b2⟩
  | vw v =>
    exact ⟨⟨hp.asked, fun x q => by cases q; exact ht, hp.fewA, hp.fewW, hp.fewR⟩, by show s.past.asked.length ≤ _; omega, by show s.past.was.length ≤ _; omega, by show s.past.rel.length ≤ _; omega, by show (s.ents ++ []).length ≤ _; rw [List.append_nil]; omega, by show ∀ e ∈ s.ents ++ [], _; rw [List.append_nil]; exact h.es, b1, b2⟩
  | kp hd rs =>
    have ht : OkKp hd rs := ht
    have hq := hc hd rs rfl
    obtain ⟨k1, k2, k3⟩ := takeRs_len rs (takeH s.past hd)
    have k1 : (rs.foldl takeR (takeH s.past hd)).asked.length ≤ s.past.asked.length + rs.length := k1
    have k2 : (rs.foldl takeR (takeH s.past hd)).was.length ≤ s.past.was.length + rs.length := k2
    have k3 : (rs.foldl takeR (takeH s.past hd)).rel.length ≤ s.past.rel.length + rs.length := k3
    obtain ⟨v1, v2, v3, v4, v5⟩ := takeRs_view rs (takeH s.past hd)
    refine ⟨⟨OkPs.takeRs ht.rows hp.asked, fun v q => ht.view v ?_, ?_, ?_, ?_⟩, ?_, ?_, ?_, ?_, by show ∀ e ∈ s.ents ++ [], _; rw [List.append_nil]; exact h.es, b1, b2⟩
    · rw [← q]; exact v1.symm
    · show (rs.foldl takeR (takeH s.past hd)).asked.length ≤ _; omega
    · show (rs.foldl takeR (takeH s.past hd)).was.length ≤ _; omega
    · show (rs.foldl takeR (takeH s.past hd)).rel.length ≤ _; omega
    · show (rs.foldl takeR (takeH s.past hd)).asked.length ≤ _; omega
    · show (rs.foldl takeR (takeH s.past hd)).was.length ≤ _; omega
    · show (rs.foldl takeR (takeH s.past hd)).rel.length ≤ _; omega
    · show (s.ents ++ []).length ≤ _; rw [List.append_nil]; omega
theorem le_big {n : Nat} (h : n ≤ 3000000) : n ≤ sizeLine := Nat.le_of_lt (lt_big h)
theorem l4 : (4 : Nat) < 1000 := by decide
theorem l5 : (5 : Nat) < 1000 := by decide
theorem l6 : (6 : Nat) < 1000 := by decide
section
variable {P : Program} {w : World} {K : PySem.W.Frag} {mg : Str → Option Value} {base : Heap}
abbrev sJi : Stmt := inClass (top 58) 0
theorem scJi : FnScope ["self"] ["self"] (defScope sJi) := ⟨rfl, rfl, rfl, by decide +kernel, rfl, by decide +kernel, by decide +kernel⟩
def gJi (C CP : Addr) : D → List D → (D → D → Prop) → Prop := fun d ds P => d = .ins C [] ∧ ds = [] ∧ P = fun v d' => v = .non ∧ d' = jsD C CP js0
theorem ok_ji {C CP : Addr} {f : Addr} {fd : FuncData} (F : Fun K "__init__" "Journal.__init__" sJi f fd) (X : Kj K mg C) (mP : MMake P w K mg base 1 "Past" CP 1 (gPi CP)) : FnOk P w K mg base CX0 3 f fd ["self"] (spM K 1 (gJi C CP)) := by
  refine fn_meth F scJi (by rintro d ds Pd ⟨rfl, rfl, _⟩; rfl) fun cdv A outer s H E d ds Pd hr hG => ?_
  obtain ⟨rfl, rfl, rfl⟩ := hG
  refine jss_cons (js_fld (i := 0) rfl j_int X.cl X.n0 (by decide) ?_)
  refine jss_cons (js_fldL0 (i := 0) rfl X.cl X.n1 (by decide) ?_)
  refine jss_cons (js_fldL0 (i := 0) rfl X.cl X.n2 (by decide) ?_)
  refine jss_cons (js_fldO (i := 0) (Pd := fun d => d = psD CP ps0) rfl ((jo_make0 (P := fun v d' => v = .non ∧ d' = psD CP ps0) mP hr ⟨rfl, rfl, rfl⟩ (fun _ _ h => h.1)).imp fun d h => by obtain ⟨_, _, h⟩ := h; exact h) X.cl X.n3 (by decide) ?_)
  rintro _ rfl
  refine jss_cons (js_fldL0 (i := 0) rfl X.cl X.n4 l4 ?_)
  refine jss_cons (js_fld (i := 0) rfl j_int X.cl X.n5 l5 ?_)
  exact jss_nil ⟨_, rfl, rfl, rfl⟩
abbrev sJe : Stmt := inClass (top 58) 6
theorem scJe : FnScope ["self"] ["self"] (defScope sJe) := ⟨rfl, rfl, rfl, by decide +kernel, rfl, by decide +kernel, by decide +kernel⟩
def gJe (C CP : Addr) : List D → (D → Prop) → Prop := fun ds P => ∃ s : JS, ds = [jsD C CP s] ∧ P = fun d => d = .lst (s.ents.map enD)
theorem ok_je {C CP : Addr} {f : Addr} {fd : FuncData} (F : Fun K "entries" "Journal.entries" sJe f fd) (T : Bt mg) (X : Kj K mg C) : FnOk P w K mg base CX0 1 f fd ["self"] (spP K 1 (gJe C CP)) := by
  refine fn_pure F scJe (by rintro ds Pd ⟨_, rfl, _⟩; rfl) fun cdv A outer s H E ds Pd hr hG => ?_
  obtain ⟨s, rfl, rfl⟩ := hG
  exact jss_cons (js_ret (jb_listL T (ja_cons (j_fld (jv 0 rfl) rfl X.cl X.n2) ja_nil)) rfl)
abbrev sJf : Stmt := inClass (top 58) 7
theorem scJf : FnScope ["self"] ["self"] (defScope sJf) := ⟨rfl, rfl, rfl, by decide +kernel, rfl, by decide +kernel, by decide +kernel⟩
def gJf (C CP : Addr) : List D → (D → Prop) → Prop := fun ds P => ∃ s : JS, ds = [jsD C CP s] ∧ P = fun d => d = .int (s.past.drop : Nat)
theorem ok_jf {C CP : Addr} {f : Addr} {fd : FuncData} (F : Fun K "first_entry" "Journal.first_entry" sJf f fd) (X : Kj K mg C) (Y : Kp K mg CP) : FnOk P w K mg base CX0 1 f fd ["self"] (spP K 1 (gJf C CP)) := by
  refine fn_pure F scJf (by rintro ds Pd ⟨_, rfl, _⟩; rfl) fun cdv A outer s H E ds Pd hr hG => ?_
  obtain ⟨s, rfl, rfl⟩ := hG
  exact jss_cons (js_ret (j_fld (J.to (j_fld (jv 0 rfl) rfl X.cl X.n3) (d' := .ins CP (psF s.past)) rfl) rfl Y.cl Y.n1) rfl)
abbrev sJp : Stmt := inClass (top 58) 14
theorem scJp : FnScope ["self", "word", "told", "bodies"] ["self", "word", "told", "bodies"] (defScope sJp) := ⟨rfl, rfl, rfl, by decide +kernel, rfl, by decide +kernel, by decide +kernel⟩
def gJp (C CP : Addr) : D → List D → (D → D → Prop) → Prop := fun d ds P => ∃ (s : JS) (t : Tk) (bs : List (List Nat)), d = jsD C CP s ∧ ds = [.str (tkW t), tkD t, strsD bs] ∧ OkTk t ∧ OkJ s 10000 ∧ bs.length ≤ 10000 ∧ P = fun v d' => v = .non ∧ d' = jsD C CP (putJ s t bs)
theorem past_mut (CP : Addr) (p : PS) : mutD (psD CP p) = true := rfl
theorem ok_jp {C CP : Addr} {f : Addr} {fd : FuncData} (F : Fun K "_put" "Journal._put" sJp f fd) (T : Bt mg) (X : Kj K mg C) (Y : Kp K mg CP) (mT : MMeth P w K mg base 2 CP "take" 3 (gTk CP)) : FnOk P w K mg base CX0 3 f fd ["self", "word", "told", "bodies"] (spM K 4 (gJp C CP)) := by
  refine fn_meth F scJp (by rintro d ds Pd ⟨_, _, _, rfl, rfl, _⟩; rfl) fun cdv A outer s H E d ds Pd hr hG => ?_
  obtain ⟨s, t, bs, rfl, rfl, ht, hs, hb, rfl⟩ := hG
  have nd := scJp.nd
  have fa := hs.a
  have fw := hs.w
  have fr := hs.r
  have fe := hs.e
  have fb := hs.bods
  refine jss_cons (js_dropM (jm_methF (i := 0) mT X.cl Y.cl X.n3 hr rfl (g := "_past") (fds2 := psF s.past) rfl (past_mut CP s.past) (lkP (by decide +kernel)) (ja_cons (jv 1 rfl) (ja_cons (jv 2 rfl) ja_nil)) ⟨s.past, t, rfl, rfl, ht, ⟨by omega, by omega, by omega⟩, rfl⟩) ?_)
  rintro _ _ ⟨_, ⟨_, rfl⟩, rfl⟩
  show JSs _ [0] _ [some (.ow (jsD C CP { s with past := takeP s.past t })), some (.fz (.str (tkW t))), some (.fz (tkD t)), some (.fz (strsD bs))] _
  have lenB : lenD (strsD s.bods) = some s.bods.length := by show some _ = _; rw [List.length_map]
  refine jss_mid (fun ρ => ρ = [some (.ow (jsD C CP ⟨s.first, s.bods, s.ents ++ entT t, takeP s.past t, s.lines, if isKp t = true then s.bods.length else s.last⟩)), some (.fz (.str (tkW t))), some (.fz (tkD t)), some (.fz (strsD bs))]) ?_ ?_
  · generalize takeP s.past t = p2
    cases t with
    | en e =>
      refine js_ifT (JT.to (jt_cm (jv 1 rfl) j_str cd_eqS) (decide_eq_true rfl)) (jss_cons (js_appendF (i := 0) rfl (f := "_entries") (ds := s.ents.map enD) (d := enD e) rfl (jv 2 rfl) (by rw [List.length_map]; exact lt_size (by omega)) X.cl X.n2 (jss_nil ⟨_, rfl, ?_⟩)))
      show [some (SV.ow (.ins C [("_first", .int (s.first : Int)), ("_bodies", strsD s.bods), ("_entries", .lst (s.ents.map enD ++ [enD e])), ("_past", psD CP p2), ("_lines", strsD s.lines), ("_last_head", .int (s.last : Int))])), _, _, _] = _
      rw [show s.ents.map enD ++ [enD e] = (s.ents ++ [e]).map enD from by rw [List.map_append]; rfl]
      rfl
    | vw v =>
      refine js_ifF (JT.to (jt_cm (jv 1 rfl) j_str cd_eqS) (decide_eq_false (show ¬ ("view" : Str) = "entry" from by decide +kernel))) (jss_cons (js_ifF (JT.to (jt_cm (jv 1 rfl) j_str cd_eqS) (decide_eq_false (show ¬ ("view" : Str) = "keep" from by decide +kernel))) (jss_nil (jss_nil ⟨_, rfl, ?_⟩))))
      rw [show s.ents ++ entT (.vw v) = s.ents from List.append_nil _]
      rfl
    | kp h rs =>
      refine js_ifF (JT.to (jt_cm (jv 1 rfl) j_str cd_eqS) (decide_eq_false (show ¬ ("keep" : Str) = "entry" from by decide +kernel))) (jss_cons (js_ifT (JT.to (jt_cm (jv 1 rfl) j_str cd_eqS) (decide_eq_true rfl)) (jss_cons (js_fldS (i := 0) rfl (jb_len T (ja_cons (j_fld (jv 0 rfl) rfl X.cl X.n1) ja_nil) lenB) rfl X.cl X.n5 l6 (jss_nil (jss_nil ⟨_, rfl, ?_⟩))))))
      rw [show s.ents ++ entT (.kp h rs) = s.ents from List.append_nil _]
      rfl
  · rintro _ rfl
    refine jss_cons (js_extendF (i := 0) rfl (f := "_bodies") (ds := s.bods.map fun b => .str (tx b)) rfl (jv 3 rfl) (by rw [List.length_map, List.length_map]; exact le_big (by omega)) X.cl X.n1 ?_)
    refine jss_nil ⟨_, rfl, rfl, ?_⟩
    show D.ins C [("_first", .int (s.first : Int)), ("_bodies", .lst ((s.bods.map fun b => .str (tx b)) ++ bs.map fun b => .str (tx b))), _, _, _, _] = _
    rw [← List.map_append]; rfl
end
end Toy

namespace Toy
open PySem PyProof.Rows L2 Pf
def numAt (i : Nat) (ρ : RhoS) : Nat := match ρ[i]? with
  | some (some (.fz (.int n))) => n.toNat
  | _ => 0
abbrev nJt : List Str := ["self", "records", "at", "unit", "word", "told", "many", "number", "body"]
abbrev sJt : Stmt := inClass (top 58) 15
theorem scJt : FnScope nJt ["self", "records"] (defScope sJt) := ⟨rfl, rfl, rfl, by decide +kernel, rfl, by decide +kernel, by decide +kernel⟩
def gJt (C CP : Addr) : D → List D → (D → D → Prop) → Prop := fun d ds P => ∃ rs : List Rec, d = jsD C CP js0 ∧ ds = [.lst (rs.map rcD)] ∧ OkRecs rs ∧ rs.length ≤ 4000 ∧ P = fun v d' => v = .non ∧ d' = jsD C CP (journalOf rs) ∧ OkJ (journalOf rs) rs.length
theorem OkJ.first {s : JS} {b : Nat} (h : OkJ s b) (n : Nat) : OkJ { s with first := n } b := ⟨h.past, h.a, h.w, h.r, h.e, h.es, h.bods, h.bok⟩
theorem OkJ.mono {s : JS} {b c : Nat} (h : OkJ s b) (e : b ≤ c) : OkJ s c := ⟨h.past, Nat.le_trans h.a e, Nat.le_trans h.w e, Nat.le_trans h.r e, Nat.le_trans h.e e, h.es, Nat.le_trans h.bods e, h.bok⟩
section
variable {P : Program} {w : World} {K : PySem.W.Frag} {mg : Str → Option Value} {base : Heap}
structure TakeI (rs : List Rec) (n : Nat) (s : JS) : Prop where
  le : n ≤ rs.length
  ok : OkJ s n
  eq : ∃ f, rs.length - n ≤ f ∧ takeL f (rs.drop n) (decide (n = 0)) s = journalOf rs
theorem ok_jt {C CP : Addr} {f : Addr} {fd : FuncData} (F : Fun K "_take" "Journal._take" sJt f fd) (T : Bt mg) (X : Kj K mg C) (Y : Kp K mg CP) (cR : PFn P w K mg base 7 "read_unit" 2 gRu) (cF : PMeth P w K mg base 5 CP "fits" 3 (gFi CP)) (mP : MMeth P w K mg base 3 C "_put" 4 (gJp C CP)) : FnOk P w K mg base CX0 8 f fd ["self", "records"] (spM K 2 (gJt C CP)) := by
  refine fn_meth F scJt (by rintro d ds Pd ⟨_, rfl, rfl, _⟩; rfl) fun cdv A outer s0 H E d ds Pd hr hG => ?_
  obtain ⟨rs, rfl, rfl, hok, hl, rfl⟩ := hG
  have nd := scJt.nd
  have lenR : lenD (.lst (rs.map rcD)) = some rs.length := by show some _ = _; rw [List.length_map]
  refine jss_cons (js_set (i := 2) j_int ?_ nd)
  refine jss_cons (js_while (fun ρ => ∃ (n : Nat) (s : JS) (o3 o4 o5 o6 : Option SV), ρ = [some (.ow (jsD C CP s)), some (.fz (.lst (rs.map rcD))), some (.fz (.int (n : Nat))), o3, o4, o5, o6, none, none] ∧ TakeI rs n s) (fun ρ => rs.length - numAt 2 ρ) ⟨0, js0, _, _, _, _, rfl, Nat.zero_le _, js0_ok, rs.length, Nat.sub_le _ _, rfl⟩ ?_ PassesOwn.never)
  rintro _ ⟨n, s, o3, o4, o5, o6, rfl, hT⟩
  refine ⟨_, jt_cm (jv 2 rfl) (jb_len T (ja_cons (jv 1 rfl) ja_nil) lenR) cd_ltI, fun ht => ?_, fun ht => ?_⟩
  · have hn : n < rs.length := by have := of_decide_eq_true ht; omega
    obtain ⟨fu, hfu, heq⟩ := hT.eq
    obtain ⟨g, rfl⟩ : ∃ g, fu = g + 1 := ⟨fu - 1, by omega⟩
    have hle := hT.ok
    obtain ⟨r, hx, hd⟩ := drop_at hn
    have hhead : ((rs.drop n).head?.map (·.1)).getD 0 = r.1 := by rw [hd]; rfl
    refine jss_cons (js_set (i := 3) (J.to (j_call cR hr (ja_cons (jv 1 rfl) (ja_cons (jv 2 rfl) ja_nil)) ⟨rs, n, rfl, hok, hn, hl, rfl⟩ (fun _ h => h)) (d' := unitD (unitL (rs.drop n))) rfl) ?_ nd)
    unfold takeL at heq
    rw [hhead] at heq
    have stop : ∀ (ρ' : RhoS), s = journalOf rs → ρ'[0]? = some (some (.ow (jsD C CP s))) → finM (fun v d' => v = .non ∧ d' = jsD C CP (journalOf rs) ∧ OkJ (journalOf rs) rs.length) (.rt .non ρ') := fun ρ' e h0 => ⟨_, h0, rfl, by rw [e], by rw [← e]; exact hle.mono hT.le⟩
    cases hu : unitL (rs.drop n) with
    | none =>
      rw [hu] at heq
      exact jss_cons (js_ifT (jt_w (jw_orT (JT.to (jt_cm (jv 3 rfl) j_non cd_isN) rfl))) (jss_cons (js_retN (stop _ heq rfl))))
    | some tm =>
      obtain ⟨t, m⟩ := tm
      rw [hu] at heq
      have hU := unitL_ok hu (by rw [List.length_drop]; omega)
      have hmle := hU.le
      rw [List.length_drop] at hmle
      refine jss_cons (js_if (t := !fitsP s.past t) (JT.to (jt_w (jw_or (t := false) (JT.to (jt_cm (jv 3 rfl) j_non cd_isN) rfl) (fun _ => jw_or1 (jt_not (jt_val (j_meth cF Y.cl hr (J.to (j_fld (jv 0 rfl) rfl X.cl X.n3) (d' := .ins CP (psF s.past)) rfl) (lkP (by decide +kernel)) (ja_cons (j_ix (jv 3 rfl) j_int (ixd_T (d := .str (tkW t)) rfl)) (ja_cons (j_ix (jv 3 rfl) j_int (ixd_T (d := tkD t) rfl)) ja_nil)) ⟨s.past, t, rfl, hle.past, hU.tk, rfl⟩ (fun _ h => h))))))) (Bool.false_or _)) (fun h1 => ?_) (fun h1 => jss_nil ?_))
      · rw [Bool.not_eq_true'] at h1
        have heq : s = journalOf rs := by rw [← heq]; show s = if fitsP s.past t = true then _ else s; rw [if_neg (by rw [h1]; decide)]
        exact jss_cons (js_retN (stop _ heq rfl))
      rw [Bool.not_eq_false'] at h1
      have heq : (if (decide (n = 0) && (!isKp t && !decide (r.1 = 0))) = true then s else takeL g ((rs.drop n).drop m) false (putJ (if decide (n = 0) = true then { s with first := r.1 } else s) t (((rs.drop n).take m).map (·.2)))) = journalOf rs := by rw [← heq]; show _ = if fitsP s.past t = true then _ else s; rw [if_pos h1]
      refine jss_cons (js_pat (pat := .tp [4, 5, 6]) (J.to (jv 3 rfl) (d' := .tup [.str (tkW t), tkD t, .int (m : Nat)]) rfl) rfl ?_ (pg_tup rfl (pgs_cons (pg_name nd rfl (Or.inl rfl)) (pgs_cons (pg_name nd rfl (Or.inl rfl)) (pgs_cons (pg_name nd rfl (Or.inl rfl)) pgs_nil)))))
      have hkp : (!decide (tkW t = ("keep" : Str))) = !isKp t := by
        cases t with
        | en e => exact congrArg not (decide_eq_false (show ¬ ("entry" : Str) = "keep" from by decide +kernel))
        | vw e => exact congrArg not (decide_eq_false (show ¬ ("view" : Str) = "keep" from by decide +kernel))
        | kp e _ => exact congrArg not (decide_eq_true rfl)
      show JSs _ [0] _ [some (.ow (jsD C CP s)), some (.fz (.lst (rs.map rcD))), some (.fz (.int (n : Nat))), some (.fz (unitD (some (t, m)))), some (.fz (.str (tkW t))), some (.fz (tkD t)), some (.fz (.int (m : Nat))), none, none] _
      refine jss_cons (JS.imp (Ψ := fun o => (∃ s1 : JS, OkJ s1 n ∧ takeL g ((rs.drop n).drop m) false (putJ s1 t (((rs.drop n).take m).map (·.2))) = journalOf rs ∧ o = .nx [some (.ow (jsD C CP s1)), some (.fz (.lst (rs.map rcD))), some (.fz (.int (n : Nat))), some (.fz (unitD (some (t, m)))), some (.fz (.str (tkW t))), some (.fz (tkD t)), some (.fz (.int (m : Nat))), none, none]) ∨ (∃ ρ' : RhoS, s = journalOf rs ∧ ρ'[0]? = some (some (.ow (jsD C CP s))) ∧ o = .rt .non ρ')) ?_ ?_)
      · refine js_if (t := decide (n = 0)) (JT.to (jt_cm (jv 2 rfl) j_int cd_eqI) (decide_eq_decide.mpr ⟨fun q => by omega, fun q => by omega⟩)) (fun h2 => ?_) (fun h2 => ?_)
        · have h2' := of_decide_eq_true h2
          subst h2'
          refine jss_cons (js_if (t := !isKp t && !decide (r.1 = 0)) (jt_w (jw_and (JT.to (jt_cm (jv 4 rfl) j_str cd_neS) hkp) (fun _ => jw_and1 (JT.to (jt_cm (j_ix (j_ix (jv 1 rfl) j_int (ixd_L (at_rec hx))) j_int (ixd_T (d := .int (r.1 : Nat)) rfl)) j_int cd_neI) (congrArg not (decide_eq_decide.mpr ⟨fun q => by omega, fun q => by omega⟩)))))) (fun h3 => ?_) (fun h3 => jss_nil ?_))
          · refine jss_cons (js_retN (.inr ⟨_, ?_, rfl, rfl⟩))
            rw [← heq, if_pos (by rw [h3]; rfl)]
          · refine jss_cons (js_fld (i := 0) rfl (j_ix (j_ix (jv 1 rfl) j_int (ixd_L (at_rec hx))) j_int (ixd_T (d := .int (r.1 : Nat)) rfl)) X.cl X.n0 l6 ?_)
            refine jss_nil (.inl ⟨{ s with first := r.1 }, hle.first _, ?_, rfl⟩)
            rw [← heq, if_neg (by rw [h3]; decide), if_pos (show decide ((0 : Nat) = 0) = true from rfl)]
        · refine jss_nil (.inl ⟨s, hle, ?_, rfl⟩)
          rw [← heq, if_neg (by rw [h2]; show ¬ false = true; decide), if_neg (by rw [h2]; decide)]
      · rintro _ (⟨s1, hs1, heq1, rfl⟩ | ⟨ρ', e1, e2, rfl⟩)
        · have ecut : cut (rs.map rcD) (some (n : Int)) (some ((n : Int) + (m : Int))) = ((rs.drop n).take m).map rcD := by
            have := cut_midN rs n (n + m) (by omega)
            rw [cut_map]
            rw [show ((n + m : Nat) : Int) = (n : Int) + (m : Int) from by omega] at this
            rw [this, show n + m - n = m from by omega]
          have hlq : (((rs.drop n).take m).map (·.2)).length ≤ m := by rw [List.length_map, List.length_take]; omega
          have hbq : ∀ x ∈ ((rs.drop n).take m).map (·.2), R39.isB x = true := fun x hx2 => by
            obtain ⟨q, hq, rfl⟩ := List.mem_map.mp hx2
            exact hok q (List.mem_of_mem_drop (List.mem_of_mem_take hq))
          have hlt : ((rs.drop n).take m).length ≤ 4000 := by rw [List.length_take, List.length_drop]; omega
          have hpos := hU.pos
          have h4 := hs1.put (bs := ((rs.drop n).take m).map (·.2)) hU.tk hU.pos hU.cnt hlq hbq (by omega)
          refine jss_cons (js_dropM (jm_meth (i := 0) mP X.cl hr rfl (lkJ (by decide +kernel)) (ja_cons (jv 4 rfl) (ja_cons (jv 5 rfl) (ja_cons (J.to (j_lc (own := [("number", 7), ("body", 8)]) (pat := .tp [7, 8]) (its := ((rs.drop n).take m).map fun q => (rcD q, some (D.str (tx q.2)))) (ji_list (J.to (j_sl (jv 1 rfl) (jo_some (jv 2 rfl)) (jo_some (j_bin (jv 2 rfl) (jv 6 rfl) od_addI)) sld_L) (by rw [List.map_map]; exact congrArg D.lst ecut))) (blkOk_by (N := nJt) (sc := defScope sJt) (by decide +kernel)) (fun _ _ _ _ _ => pg_tup rfl (pgs_cons (pg_name nd rfl (Or.inl rfl)) (pgs_cons (pg_name nd rfl (Or.inl rfl)) pgs_nil))) (by decide) (by rw [List.length_map]; exact lt_size (by omega)) (fun q hq => ?_) nd) (d' := strsD (((rs.drop n).take m).map (·.2))) ?_) ja_nil))) ⟨s1, t, _, rfl, rfl, hU.tk, hs1.mono (by omega), by omega, rfl⟩) ?_)
          · obtain ⟨y, hy, rfl⟩ := List.mem_map.mp hq
            exact ⟨_, rfl, fun _ _ _ _ _ => ⟨jts_nil, jv 8 rfl⟩⟩
          · rw [List.filterMap_map]
            show D.lst _ = D.lst _
            rw [List.map_map]
            exact congrArg D.lst (List.filterMap_eq_map.symm ▸ rfl)
          rintro _ _ ⟨_, ⟨_, rfl⟩, rfl⟩
          refine jss_cons (js_augAdd (i := 2) rfl (jv 6 rfl) ?_ nd)
          refine jss_nil ⟨⟨n + m, putJ s1 t (((rs.drop n).take m).map (·.2)), some (.fz (unitD (some (t, m)))), some (.fz (.str (tkW t))), some (.fz (tkD t)), some (.fz (.int (m : Nat))), ?_, ⟨by omega, h4, g, by omega, ?_⟩⟩, ?_⟩
          · show [_, _, some (SV.fz (.int ((n : Int) + (m : Int)))), _, _, _, _, _, _] = [_, _, some (SV.fz (.int ((n + m : Nat) : Int))), _, _, _, _, _, _]
            rw [show ((n + m : Nat) : Int) = (n : Int) + (m : Int) from by omega]
          · have hp := hU.pos
            rw [List.drop_drop] at heq1
            rw [decide_eq_false (by omega)]
            exact heq1
          · have hp := hU.pos
            show rs.length - ((n : Int) + (m : Int)).toNat < rs.length - ((n : Int)).toNat
            omega
        · exact stop ρ' e1 e2
  · have hn : ¬ n < rs.length := by have := of_decide_eq_false ht; omega
    obtain ⟨fu, hfu, heq⟩ := hT.eq
    have e0 : rs.drop n = [] := List.drop_of_length_le (by omega)
    rw [e0] at heq
    have heq : s = journalOf rs := by
      rw [← heq]
      cases fu <;> rfl
    refine jss_nil ⟨_, rfl, rfl, by rw [heq], ?_⟩
    rw [← heq]
    exact hT.ok.mono hT.le
abbrev sJo : Stmt := top 59
theorem scJo : FnScope ["records", "journal"] ["records"] (defScope sJo) := ⟨rfl, rfl, rfl, by decide +kernel, rfl, by decide +kernel, by decide +kernel⟩
def gJo (C CP : Addr) : List D → (D → Prop) → Prop := fun ds P => ∃ rs : List Rec, ds = [.lst (rs.map rcD)] ∧ OkRecs rs ∧ rs.length ≤ 4000 ∧ P = fun d => d = jsD C CP (journalOf rs) ∧ OkJ (journalOf rs) rs.length
theorem ok_jo {C CP : Addr} {f : Addr} {fd : FuncData} (F : Fun K "journal_of" "journal_of" sJo f fd) (X : Kj K mg C) (mk : MMake P w K mg base 3 "Journal" C 1 (gJi C CP)) (mT : MMeth P w K mg base 8 C "_take" 2 (gJt C CP)) : FnOk P w K mg base CX0 9 f fd ["records"] (spO K 1 (gJo C CP)) := by
  refine fn_newO F scJo (by rintro ds Pd ⟨_, rfl, _⟩; rfl) fun cdv A outer s H E ds Pd hr hG => ?_
  obtain ⟨rs, rfl, hok, hl, rfl⟩ := hG
  have nd := scJo.nd
  refine jro_cons (js_setO (i := 1) (Pd := fun d => d = jsD C CP js0) ((jo_make0 (P := fun v d' => v = .non ∧ d' = jsD C CP js0) mk hr ⟨rfl, rfl, rfl⟩ (fun _ _ h => h.1)).imp fun d h => by obtain ⟨_, _, h⟩ := h; exact h) ?_ nd)
  rintro _ rfl
  refine jro_cons (js_dropM (jm_meth (i := 1) mT X.cl hr rfl (lkJ (by decide +kernel)) (ja_cons (jv 0 rfl) ja_nil) ⟨rs, rfl, rfl, hok, hl, rfl⟩) ?_)
  rintro _ _ ⟨_, ⟨_, rfl, ho⟩, rfl⟩
  exact jro_retO (i := 1) rfl ⟨rfl, ho⟩
abbrev sRe : Stmt := top 60
theorem scRe : FnScope ["text"] ["text"] (defScope sRe) := ⟨rfl, rfl, rfl, by decide +kernel, rfl, by decide +kernel, by decide +kernel⟩
def gRe (C CP : Addr) : List D → (D → Prop) → Prop := fun ds P => ∃ cs : List Nat, ds = [.str (tx cs)] ∧ cs.length ≤ 190000 ∧ (R39.wholeN cs).length ≤ 4000 ∧ P = fun d => d = jsD C CP (journalOf (R39.wholeN cs)) ∧ OkJ (journalOf (R39.wholeN cs)) (R39.wholeN cs).length
theorem ok_re {C CP : Addr} {f : Addr} {fd : FuncData} (F : Fun K "recovered" "recovered" sRe f fd) (cJ : OFn P w K mg base 9 "journal_of" 1 (gJo C CP)) (cW : NFn P w K mg base 4 "whole_records" 1 R39.gWh) : FnOk P w K mg base CX0 10 f fd ["text"] (spO K 1 (gRe C CP)) := by
  refine fn_newO F scRe (by rintro ds Pd ⟨_, rfl, _⟩; rfl) fun cdv A outer s H E ds Pd hr hG => ?_
  obtain ⟨cs, rfl, hl, hw, rfl⟩ := hG
  exact jro_ret (jo_call cJ hr (ja_cons (j_NP (jnp_call cW hr (ja_cons (jv 0 rfl) ja_nil) ⟨cs, rfl, hl, rfl⟩) (fun l h => h)) ja_nil) ⟨R39.wholeN cs, rfl, fun r hr => (R39.whole_mem hr).2, hw, rfl⟩)
end
end Toy

namespace Toy
open PySem PyProof.Rows L2 Pf
inductive LK where
  | win (a b : Int)
  | spn (a b : Int)
  | buc (a b : Int)
  | gap (b : Int)
  | held (a : Int)
  | pool (a : Int) (sh : List (Str × Int × Int))
structure LJ where
  nm : Str
  gs : List Str
  k : LK
def wdK : LK → Str
  | .win _ _ => "window"
  | .spn _ _ => "span"
  | .buc _ _ => "bucket"
  | .gap _ => "gap"
  | .held _ => "held"
  | .pool _ _ => "pool"
def shD (s : Str × Int × Int) : D := .tup [.str s.1, .int s.2.1, .int s.2.2]
def nuL : LK → List D
  | .win a b => [.int a, .int b]
  | .spn a b => [.int a, .int b]
  | .buc a b => [.int a, .int b]
  | .gap b => [.int b]
  | .held a => [.int a]
  | .pool a sh => [.int a, .tup (sh.map shD)]
def ljD (l : LJ) : D := .tup [.str l.nm, .str (wdK l.k), .tup (l.gs.map D.str), .tup (nuL l.k)]
def OkK : LK → Prop
  | .win a b => (0 ≤ a ∧ a ≤ 100) ∧ (1 ≤ b ∧ b ≤ 100)
  | .spn a b => (0 ≤ a ∧ a ≤ 100) ∧ (1 ≤ b ∧ b ≤ 100)
  | .buc a b => (0 ≤ a ∧ a ≤ 100) ∧ (1 ≤ b ∧ b ≤ 100)
  | .gap b => 1 ≤ b ∧ b ≤ 100
  | .held a => 0 ≤ a ∧ a ≤ 100
  | .pool _ sh => sh.length ≤ 8
structure OkLJ (l : LJ) : Prop where
  nm : isNm l.nm = true
  gs : l.gs.length ≤ 8
  k : OkK l.k
theorem atI_list {ds : List D} {i : Int} (k : Nat) (h : i = (k : Int)) {d : D} (hd : ds[k]? = some d) : atI ds i = some d := by
  subst h
  have := (List.getElem?_eq_some_iff.mp hd).1
  have e := atI_N (D.non) (xs := ds) k rfl this
  rw [e, List.getD_eq_getElem?_getD, hd]; rfl
section
variable {X : Cx}
theorem ixd_N {ns : List Int} {i : Int} (c : Nat) (h : i = (c : Int)) (hc : c < ns.length) : IxD (.lst (ns.map D.int)) (.int i) (.int (ns.getD c 0)) := by
  subst h
  exact ixd_I (by omega) (by omega)
end
section
variable {P : Program} {w : World} {K : PySem.W.Frag} {mg : Str → Option Value} {base : Heap}
abbrev nLm : List Str := ["numbers", "at", "name", "word", "groups", "first", "second", "own", "shares"]
abbrev sLm : Stmt := top 72
theorem scLm : FnScope nLm ["numbers", "at", "name"] (defScope sLm) := ⟨rfl, rfl, rfl, by decide +kernel, rfl, by decide +kernel, by decide +kernel⟩
def gLm : List D → (D → Prop) → Prop := fun ds P => ∃ (ns : List Int) (a : Nat) (z : Str), ds = [.lst (ns.map D.int), .int (a : Nat), .str z] ∧ a + 6 ≤ ns.length ∧ isNm z = true ∧ P = fun d => ∃ l : LJ, d = ljD l ∧ OkLJ l ∧ l.nm = z
theorem ok_lm {f : Addr} {fd : FuncData} (F : Fun K "_law_limit" "_law_limit" sLm f fd) (T : Bt mg) : FnOk P w K mg base CX0 1 f fd ["numbers", "at", "name"] (spP K 3 gLm) := by
  refine fn_pure F scLm (by rintro ds Pd ⟨_, _, _, rfl, _⟩; rfl) fun cdv A outer s H E ds Pd hr hG => ?_
  obtain ⟨ns, a, z, rfl, hl, hz, rfl⟩ := hG
  have nd := scLm.nd
  have jn : ∀ {e : Expr} {ρ : Rho} {i : Int} {X : Cx}, True := fun {_ _ _ _} => trivial
  refine jss_mid (fun ρ => ∃ wd : Str, wd ∈ ([("window" : Str), "span", "bucket", "gap", "held", "pool"] : List Str) ∧ ρ = [some (.fz (.lst (ns.map D.int))), some (.fz (.int (a : Nat))), some (.fz (.str z)), some (.fz (.str wd)), none, none, none, none, none]) (js_set (i := 3) (j_ix (j_lst (ja_cons j_str (ja_cons j_str (ja_cons j_str (ja_cons j_str (ja_cons j_str (ja_cons j_str ja_nil))))))) (j_bin (jb_int T (ja_cons (j_ix (jv 0 rfl) (jv 1 rfl) (ixd_N a rfl (by omega))) ja_nil)) j_int (od_modI (by decide))) (ixd_L (atI_list (ns.getD a 0 % 6).toNat (by omega) (d := .str (([("window" : Str), "span", "bucket", "gap", "held", "pool"] : List Str).getD (ns.getD a 0 % 6).toNat "")) ?_))) ⟨_, rfl, _, ?_, rfl⟩ nd) ?_
  · generalize hk : (ns.getD a 0 % 6).toNat = k
    have hk : k < 6 := by omega
    have e : k = 0 ∨ k = 1 ∨ k = 2 ∨ k = 3 ∨ k = 4 ∨ k = 5 := by omega
    rcases e with rfl | rfl | rfl | rfl | rfl | rfl <;> rfl
  · generalize hk : (ns.getD a 0 % 6).toNat = k
    have hk : k < 6 := by omega
    have e : k = 0 ∨ k = 1 ∨ k = 2 ∨ k = 3 ∨ k = 4 ∨ k = 5 := by omega
    rcases e with rfl | rfl | rfl | rfl | rfl | rfl <;> simp
  rintro _ ⟨wd, hwd, rfl⟩
  refine jss_mid (fun ρ => ∃ gs : List Str, gs.length ≤ 8 ∧ ρ = [some (.fz (.lst (ns.map D.int))), some (.fz (.int (a : Nat))), some (.fz (.str z)), some (.fz (.str wd)), some (.fz (.tup (gs.map D.str))), none, none, none, none]) (js_set (i := 4) (j_ix (j_tup (ja_cons (j_tup (ja_cons j_str ja_nil)) (ja_cons (j_tup (ja_cons j_str (ja_cons j_str ja_nil))) (ja_cons (j_tup ja_nil) (ja_cons (j_tup ja_nil) ja_nil))))) (j_bin (jb_int T (ja_cons (j_ix (jv 0 rfl) (j_bin (jv 1 rfl) j_int od_addI) (ixd_N (a + 1) (by omega) (by omega))) ja_nil)) j_int (od_modI (by decide))) (ixd_T (atI_list (ns.getD (a + 1) 0 % 4).toNat (by omega) (d := .tup ((([["a"], ["a", "b"], [], []] : List (List Str)).getD (ns.getD (a + 1) 0 % 4).toNat []).map D.str)) ?_))) ⟨_, rfl, _, ?_, rfl⟩ nd) ?_
  · generalize hk : (ns.getD (a + 1) 0 % 4).toNat = k
    have hk : k < 4 := by omega
    have e : k = 0 ∨ k = 1 ∨ k = 2 ∨ k = 3 := by omega
    rcases e with rfl | rfl | rfl | rfl <;> rfl
  · generalize hk : (ns.getD (a + 1) 0 % 4).toNat = k
    have hk : k < 4 := by omega
    have e : k = 0 ∨ k = 1 ∨ k = 2 ∨ k = 3 := by omega
    rcases e with rfl | rfl | rfl | rfl <;> decide
  rintro _ ⟨gs, hgs, rfl⟩
  refine jss_cons (js_set (i := 5) (j_bin (jb_int T (ja_cons (j_ix (jv 0 rfl) (j_bin (jv 1 rfl) j_int od_addI) (ixd_N (a + 2) (by omega) (by omega))) ja_nil)) j_int (od_modI (by decide))) ?_ nd)
  refine jss_cons (js_set (i := 6) (j_bin j_int (j_bin (jb_int T (ja_cons (j_ix (jv 0 rfl) (j_bin (jv 1 rfl) j_int od_addI) (ixd_N (a + 3) (by omega) (by omega))) ja_nil)) j_int (od_modI (by decide))) od_addI) ?_ nd)
  have hf : 0 ≤ ns.getD (a + 2) 0 % 13 ∧ ns.getD (a + 2) 0 % 13 ≤ 12 := by omega
  have hs : 1 ≤ 1 + ns.getD (a + 3) 0 % 9 ∧ 1 + ns.getD (a + 3) 0 % 9 ≤ 9 := by omega
  generalize ns.getD (a + 2) 0 % 13 = fi at hf
  generalize 1 + ns.getD (a + 3) 0 % 9 = se at hs
  show JSs _ [] _ [some (.fz (.lst (ns.map D.int))), some (.fz (.int (a : Nat))), some (.fz (.str z)), some (.fz (.str wd)), some (.fz (.tup (gs.map D.str))), some (.fz (.int fi)), some (.fz (.int se)), none, none] _
  have no : ∀ {x y : Str}, x ≠ y → decide (x = y) = false := fun h => decide_eq_false h
  have skip : ∀ {x : Str}, wd ≠ x → decide (wd = x) = false := fun h => decide_eq_false h
  simp only [List.mem_cons, List.not_mem_nil, or_false] at hwd
  have two : ∀ k : LK, nuL k = [.int fi, .int se] → OkK k → wd = wdK k → wd ≠ "gap" → wd ≠ "held" → wd ≠ "pool" → JSs (cxOf CX0 P w K mg base nLm "_law_limit" (defScope sLm) f cdv A outer s H E).nox [] ((defBody sLm).drop 4) [some (.fz (.lst (ns.map D.int))), some (.fz (.int (a : Nat))), some (.fz (.str z)), some (.fz (.str wd)), some (.fz (.tup (gs.map D.str))), some (.fz (.int fi)), some (.fz (.int se)), none, none] (fin fun d => ∃ l : LJ, d = ljD l ∧ OkLJ l ∧ l.nm = z) := fun k e1 e2 e3 n1 n2 n3 => by
    refine jss_cons (js_ifF (JT.to (jt_cm (jv 3 rfl) j_str cd_eqS) (skip n1)) (jss_nil ?_))
    refine jss_cons (js_ifF (JT.to (jt_cm (jv 3 rfl) j_str cd_eqS) (skip n2)) (jss_nil ?_))
    refine jss_cons (js_ifF (JT.to (jt_cm (jv 3 rfl) j_str cd_eqS) (skip n3)) (jss_nil ?_))
    refine jss_cons (js_ret (j_tup (ja_cons (jv 2 rfl) (ja_cons (jv 3 rfl) (ja_cons (jv 4 rfl) (ja_cons (j_tup (ja_cons (jv 5 rfl) (ja_cons (jv 6 rfl) ja_nil))) ja_nil))))) ⟨⟨z, gs, k⟩, ?_, ⟨hz, hgs, e2⟩, rfl⟩)
    show D.tup [.str z, .str wd, .tup (gs.map D.str), .tup [.int fi, .int se]] = D.tup [.str z, .str (wdK k), .tup (gs.map D.str), .tup (nuL k)]
    rw [e1, e3]
  rcases hwd with rfl | rfl | rfl | rfl | rfl | rfl
  · exact two (.win fi se) rfl ⟨by omega, by omega⟩ rfl (by decide +kernel) (by decide +kernel) (by decide +kernel)
  · exact two (.spn fi se) rfl ⟨by omega, by omega⟩ rfl (by decide +kernel) (by decide +kernel) (by decide +kernel)
  · exact two (.buc fi se) rfl ⟨by omega, by omega⟩ rfl (by decide +kernel) (by decide +kernel) (by decide +kernel)
  · refine jss_cons (js_ifT (JT.to (jt_cm (jv 3 rfl) j_str cd_eqS) (decide_eq_true rfl)) (jss_cons (js_ret (j_tup (ja_cons (jv 2 rfl) (ja_cons (jv 3 rfl) (ja_cons (jv 4 rfl) (ja_cons (j_tup (ja_cons (jv 6 rfl) ja_nil)) ja_nil))))) ⟨⟨z, gs, .gap se⟩, rfl, ⟨hz, hgs, by show 1 ≤ se ∧ se ≤ 100; omega⟩, rfl⟩)))
  · refine jss_cons (js_ifF (JT.to (jt_cm (jv 3 rfl) j_str cd_eqS) (no (by decide +kernel))) (jss_nil ?_))
    refine jss_cons (js_ifT (JT.to (jt_cm (jv 3 rfl) j_str cd_eqS) (decide_eq_true rfl)) (jss_cons (js_ret (j_tup (ja_cons (jv 2 rfl) (ja_cons (jv 3 rfl) (ja_cons (jv 4 rfl) (ja_cons (j_tup (ja_cons (jv 5 rfl) ja_nil)) ja_nil))))) ⟨⟨z, gs, .held fi⟩, rfl, ⟨hz, hgs, by show 0 ≤ fi ∧ fi ≤ 100; omega⟩, rfl⟩)))
  · refine jss_cons (js_ifF (JT.to (jt_cm (jv 3 rfl) j_str cd_eqS) (no (by decide +kernel))) (jss_nil ?_))
    refine jss_cons (js_ifF (JT.to (jt_cm (jv 3 rfl) j_str cd_eqS) (no (by decide +kernel))) (jss_nil ?_))
    refine jss_cons (js_ifT (JT.to (jt_cm (jv 3 rfl) j_str cd_eqS) (decide_eq_true rfl)) ?_)
    refine jss_cons (js_set (i := 7) (j_bin (jb_int T (ja_cons (j_ix (jv 0 rfl) (j_bin (jv 1 rfl) j_int od_addI) (ixd_N (a + 4) (by omega) (by omega))) ja_nil)) (j_bin (jv 5 rfl) j_int od_addI) (od_modI (by omega))) ?_ nd)
    refine jss_cons (js_set (i := 8) (j_tup (ja_cons (j_tup (ja_cons j_str (ja_cons (jv 7 rfl) (ja_cons (j_bin (jv 7 rfl) (j_bin (jb_int T (ja_cons (j_ix (jv 0 rfl) (j_bin (jv 1 rfl) j_int od_addI) (ixd_N (a + 5) (by omega) (by omega))) ja_nil)) j_int (od_modI (by decide))) od_addI) ja_nil)))) (ja_cons (j_tup (ja_cons j_str (ja_cons j_int (ja_cons (j_bin (jb_int T (ja_cons (j_bin (j_ix (jv 0 rfl) (j_bin (jv 1 rfl) j_int od_addI) (ixd_N (a + 5) (by omega) (by omega))) j_int (od_fdivI ⟨by decide, by decide⟩)) ja_nil)) j_int (od_modI (by decide))) ja_nil)))) ja_nil))) ?_ nd)
    refine jss_cons (js_ret (j_tup (ja_cons (jv 2 rfl) (ja_cons (jv 3 rfl) (ja_cons (j_tup ja_nil) (ja_cons (j_tup (ja_cons (jv 5 rfl) (ja_cons (jv 8 rfl) ja_nil))) ja_nil))))) ⟨⟨z, [], .pool fi [("a", _, _), ("b", _, _)]⟩, rfl, ⟨hz, Nat.zero_le _, by show 2 ≤ 8; decide⟩, rfl⟩)
def nmsJ : List Str := ["day", "hour", "k2", "a", "zz"]
abbrev nLs : List Str := ["numbers", "at", "names", "limits", "k"]
abbrev sLs : Stmt := top 73
theorem scLs : FnScope nLs ["numbers", "at"] (defScope sLs) := ⟨rfl, rfl, rfl, by decide +kernel, rfl, by decide +kernel, by decide +kernel⟩
structure OkLs (ls : List LJ) : Prop where
  ok : ∀ l ∈ ls, OkLJ l
  nd : (ls.map (·.nm)).Nodup
  few : ls.length ≤ 3
  pos : 1 ≤ ls.length
def gLs : List D → (D → Prop) → Prop := fun ds P => ∃ (ns : List Int), ds = [.lst (ns.map D.int), .int 0] ∧ 19 ≤ ns.length ∧ (∀ n ∈ ns, 0 ≤ n ∧ n < 1009) ∧ P = fun d => ∃ ls : List LJ, d = .lst (ls.map ljD) ∧ OkLs ls
theorem ok_ls {f : Addr} {fd : FuncData} (F : Fun K "_law_limits" "_law_limits" sLs f fd) (T : Bt mg) (cL : PFn P w K mg base 1 "_law_limit" 3 gLm) : FnOk P w K mg base CX0 2 f fd ["numbers", "at"] (spP K 2 gLs) := by
  refine fn_pure F scLs (by rintro ds Pd ⟨_, rfl, _⟩; rfl) fun cdv A outer s H E ds Pd hr hG => ?_
  obtain ⟨ns, rfl, hl, hb, rfl⟩ := hG
  have nd := scLs.nd
  have h0 : 0 ≤ ns.getD 0 0 := (getD_in hb 0).1
  refine jss_cons (js_set (i := 2) (J.to (j_lst (ja_cons j_str (ja_cons j_str (ja_cons j_str (ja_cons j_str (ja_cons j_str ja_nil)))))) (d' := .lst (nmsJ.map D.str)) rfl) ?_ nd)
  refine jss_cons (js_setN (i := 3) (jn_lst ja_nil) ?_ nd)
  refine jss_mid (fun ρ => ∃ (ls : List LJ) (o : Option SV), OkLs ls ∧ ρ = [some (.fz (.lst (ns.map D.int))), some (.fz (.int 0)), some (.fz (.lst (nmsJ.map D.str))), some (.ow (.lst (ls.map ljD))), o])
    (js_range (1 + ns.getD 0 0 % 3).toNat (i := 4) (fun k ρ => ∃ (ls : List LJ) (o : Option SV), ρ = [some (.fz (.lst (ns.map D.int))), some (.fz (.int 0)), some (.fz (.lst (nmsJ.map D.str))), some (.ow (.lst (ls.map ljD))), o] ∧ ls.length = k ∧ (∀ l ∈ ls, OkLJ l) ∧ ls.map (·.nm) = (List.range k).map fun j => nmsJ.getD ((ns.getD 0 0 / 3 + (j : Nat)) % 5).toNat "") T (J.to (j_bin j_int (j_bin (jb_int T (ja_cons (j_ix (jv 0 rfl) (jv 1 rfl) (ixd_N 0 rfl (by omega))) ja_nil)) j_int (od_modI (by decide))) od_addI) (congrArg D.int (by omega))) (by omega) nd ⟨[], none, rfl, rfl, fun _ h => (by cases h), rfl⟩ ?_ ?_) ?_
  · rintro k _ hk ⟨ls, o, rfl, hlen, hok, hnm⟩
    have hk3 : k < 3 := by omega
    have hnmk : isNm (nmsJ.getD ((ns.getD 0 0 / 3 + (k : Nat)) % 5).toNat "") = true := by
      generalize hj : ((ns.getD 0 0 / 3 + (k : Nat)) % 5).toNat = j
      have hj : j < 5 := by omega
      have e : j = 0 ∨ j = 1 ∨ j = 2 ∨ j = 3 ∨ j = 4 := by omega
      rcases e with rfl | rfl | rfl | rfl | rfl <;> decide +kernel
    refine jss_cons (js_appendP (i := 3) (ds := ls.map ljD) rfl (jp_call cL hr (ja_cons (jv 0 rfl) (ja_cons (j_bin (j_bin (jv 1 rfl) j_int od_addI) (j_bin j_int (jv 4 rfl) (od_mulI cmulL)) od_addI) (ja_cons (j_ix (jv 2 rfl) (j_bin (jb_int T (ja_cons (j_bin (j_bin (j_ix (jv 0 rfl) (jv 1 rfl) (ixd_N 0 rfl (by omega))) j_int (od_fdivI ⟨by decide, by decide⟩)) (jv 4 rfl) od_addI) ja_nil)) j_int (od_modI (by decide))) (ixd_L (atI_map D.str "" (L := nmsJ) (by omega) (by show _ < ((5 : Nat) : Int); omega)))) ja_nil))) ⟨ns, 1 + 6 * k, _, ?_, by omega, hnmk, rfl⟩) (by rw [List.length_map, hlen]; exact lt_size (by omega)) ?_ (fun d hd => by obtain ⟨l, rfl, _⟩ := hd; rfl))
    · show [D.lst (ns.map D.int), .int (0 + 1 + 6 * (k : Nat)), .str _] = [D.lst (ns.map D.int), .int ((1 + 6 * k : Nat) : Int), .str _]
      rw [show ((1 + 6 * k : Nat) : Int) = 0 + 1 + 6 * (k : Nat) from by omega]
    rintro _ ⟨l, rfl, hlo, hln⟩
    refine jss_nil ⟨ls ++ [l], some (.fz (.int (k : Nat))), ?_, by rw [List.length_append, hlen]; rfl, fun x hx => (List.mem_append.mp hx).elim (hok x) fun q => by rw [List.mem_singleton.mp q]; exact hlo, ?_⟩
    · show [_, _, _, some (SV.ow (.lst (ls.map ljD ++ [ljD l]))), _] = _
      rw [show ls.map ljD ++ [ljD l] = (ls ++ [l]).map ljD from by rw [List.map_append]; rfl]
    · rw [List.map_append, hnm, List.range_succ, List.map_append]
      show _ ++ [l.nm] = _ ++ [_]
      rw [hln]
  · rintro _ ⟨ls, o, rfl, hlen, hok, hnm⟩
    refine ⟨_, rfl, ls, o, ⟨hok, ?_, by omega, by omega⟩, rfl⟩
    rw [hnm]
    have hp : (List.range (1 + ns.getD 0 0 % 3).toNat).Pairwise fun a b => a < b ∧ b < (1 + ns.getD 0 0 % 3).toNat := (List.pairwise_lt_range).imp_of_mem fun {a b} ha hb hab => ⟨hab, List.mem_range.mp hb⟩
    refine List.pairwise_map.mpr (hp.imp ?_)
    rintro a b ⟨hab, hb3⟩ e
    have key : ∀ i : Nat, i < 5 → ∀ j : Nat, j < 5 → nmsJ.getD i "" = nmsJ.getD j "" → i = j := by decide +kernel
    have := key ((ns.getD 0 0 / 3 + (a : Nat)) % 5).toNat (by omega) ((ns.getD 0 0 / 3 + (b : Nat)) % 5).toNat (by omega) e
    omega
  rintro _ ⟨ls, o, hls, rfl⟩
  exact jss_cons (js_ret (jv 3 rfl) ⟨ls, rfl, hls⟩)
end
end Toy

namespace Toy
open PySem PyProof.Rows L2 Pf
def keyJ (n : Nat) : Str := "j-" ++ numT n
theorem keyJ_cps (n : Nat) : (keyJ n).cps.toList = [106, 45] ++ numS (n : Int) := by
  unfold keyJ
  have e : ("j-" : Str).cps.toList = [106, 45] := by decide +kernel
  show (("j-" : Str).cps ++ (numT n).cps).toList = _
  rw [Array.toList_append, e]
  rfl
theorem keyJ_inj {n m : Nat} (h : keyJ n = keyJ m) : n = m := by
  have e : (keyJ n).cps.toList = (keyJ m).cps.toList := by rw [h]
  rw [keyJ_cps, keyJ_cps] at e
  exact R39.numS_inj (List.append_cancel_left e)
theorem keyJ_ky {n : Nat} (h : n < 1000000) : isKy (keyJ n) = true := by
  have hl : (keyJ n).length = 2 + (numS (n : Int)).length := by
    show (keyJ n).cps.size = _
    rw [← Array.length_toList, keyJ_cps, List.length_append]; rfl
  have h1 := numS_le (n := n) (k := 6) (by decide) h
  unfold isKy
  rw [hl, decide_eq_true (by omega), decide_eq_true (by omega), keyJ_cps]
  show List.all ([106, 45] ++ numS (n : Int)) kySign = true
  rw [List.all_eq_true]
  intro c hc
  rcases List.mem_append.mp hc with q | q
  · simp only [List.mem_cons, List.not_mem_nil, or_false] at q
    rcases q with rfl | rfl <;> decide
  · have := numS_dig n c q
    unfold kySign nmSign
    simp only [Bool.or_eq_true, Bool.and_eq_true, decide_eq_true_iff]
    left; right
    omega
def cntE : Nat → List En → Nat
  | n, [] => n
  | n, .ask _ :: r => cntE (n + 1) r
  | n, .rel _ _ :: r => cntE n r
def lastE : Nat → List En → Nat
  | m, [] => m
  | _, e :: r => lastE (enM e) r
def GoE : Nat → Nat → List En → Prop
  | _, _, [] => True
  | n, m, .ask a :: r => (a.1 = keyJ n ∧ OkAsk a ∧ m ≤ a.2.2.2 ∧ a.2.2.2 ≤ m + 5) ∧ GoE (n + 1) a.2.2.2 r
  | n, m, .rel k t :: r => ((∃ j, j < n ∧ k = keyJ j) ∧ m ≤ t ∧ t ≤ m + 5) ∧ GoE n t r
theorem goE_app : ∀ {es fs : List En} {n m : Nat}, GoE n m (es ++ fs) ↔ GoE n m es ∧ GoE (cntE n es) (lastE m es) fs
  | [], fs, n, m => by show GoE n m fs ↔ True ∧ _; rw [true_and]; rfl
  | .ask a :: r, fs, n, m => ⟨fun h => ⟨⟨h.1, (goE_app.mp h.2).1⟩, (goE_app.mp h.2).2⟩, fun h => ⟨h.1.1, goE_app.mpr ⟨h.1.2, h.2⟩⟩⟩
  | .rel k t :: r, fs, n, m => ⟨fun h => ⟨⟨h.1, (goE_app.mp h.2).1⟩, (goE_app.mp h.2).2⟩, fun h => ⟨h.1.1, goE_app.mpr ⟨h.1.2, h.2⟩⟩⟩
theorem goE_rel {n m j t : Nat} (h : j < n) (h1 : m ≤ t) (h2 : t ≤ m + 5) : GoE n m [.rel (keyJ j) t] := ⟨⟨⟨j, h, rfl⟩, h1, h2⟩, trivial⟩
theorem goE_ask {n m : Nat} {a : Ask} (h : a.1 = keyJ n) (h0 : OkAsk a) (h1 : m ≤ a.2.2.2) (h2 : a.2.2.2 ≤ m + 5) : GoE n m [.ask a] := ⟨⟨h, h0, h1, h2⟩, trivial⟩
theorem cntE_app : ∀ (es fs : List En) (n : Nat), cntE n (es ++ fs) = cntE (cntE n es) fs
  | [], _, _ => rfl
  | .ask _ :: r, fs, n => cntE_app r fs (n + 1)
  | .rel _ _ :: r, fs, n => cntE_app r fs n
theorem lastE_app : ∀ (es fs : List En) (m : Nat), lastE m (es ++ fs) = lastE (lastE m es) fs
  | [], _, _ => rfl
  | e :: r, fs, _ => lastE_app r fs (enM e)
theorem lastE_one (m : Nat) (e : En) : lastE m [e] = enM e := rfl
theorem cntE_ask (n : Nat) (a : Ask) : cntE n [.ask a] = n + 1 := rfl
theorem cntE_rel (n : Nat) (k : Str) (t : Nat) : cntE n [.rel k t] = n := rfl
theorem cntE_le : ∀ (es : List En) (n : Nat), n ≤ cntE n es ∧ cntE n es ≤ n + es.length
  | [], n => ⟨Nat.le_refl _, Nat.le_refl _⟩
  | .ask _ :: r, n => by have := cntE_le r (n + 1); show n ≤ cntE (n + 1) r ∧ cntE (n + 1) r ≤ n + (r.length + 1); omega
  | .rel _ _ :: r, n => by have := cntE_le r n; show n ≤ cntE n r ∧ cntE n r ≤ n + (r.length + 1); omega
theorem lastE_le : ∀ {es : List En} {n m : Nat}, GoE n m es → m ≤ lastE m es ∧ lastE m es ≤ m + 5 * es.length
  | [], _, m, _ => ⟨Nat.le_refl _, Nat.le_refl _⟩
  | .ask a :: r, n, m, h => by
    have := lastE_le h.2
    have h1 := h.1.2.2
    show m ≤ lastE a.2.2.2 r ∧ lastE a.2.2.2 r ≤ m + 5 * (r.length + 1)
    omega
  | .rel k t :: r, n, m, h => by
    have := lastE_le h.2
    have h1 := h.1.2
    show m ≤ lastE t r ∧ lastE t r ≤ m + 5 * (r.length + 1)
    omega
theorem goE_ok : ∀ {es : List En} {n m : Nat}, GoE n m es → n + es.length < 1000000 → m + 5 * es.length ≤ 1000000000 → ∀ e ∈ es, OkEn e
  | [], _, _, _, _, _, _, h => by cases h
  | .ask a :: r, n, m, h, hn, hm, e, he => by
    rw [List.length_cons] at hn hm
    have h1 := h.1.2.2
    rcases List.mem_cons.mp he with rfl | q
    · exact h.1.2.1
    · exact goE_ok h.2 (by omega) (by omega) e q
  | .rel k t :: r, n, m, h, hn, hm, e, he => by
    rw [List.length_cons] at hn hm
    obtain ⟨⟨⟨j, hj, hk⟩, h1⟩, h2⟩ := h
    rcases List.mem_cons.mp he with rfl | q
    · exact ⟨by rw [hk]; exact keyJ_ky (by omega), by omega⟩
    · exact goE_ok h2 (by omega) (by omega) e q
def keysJ (n : Nat) : List Str := (List.range n).map keyJ
theorem keysJ_succ (n : Nat) : keysJ (n + 1) = keysJ n ++ [keyJ n] := by unfold keysJ; rw [List.range_succ, List.map_append]; rfl
theorem keysJ_len (n : Nat) : (keysJ n).length = n := by unfold keysJ; rw [List.length_map, List.length_range]
def askE1 : En → Option Str
  | .ask a => some a.1
  | .rel _ _ => none
def askedE (es : List En) : List Str := es.filterMap askE1
theorem askedE_go : ∀ {es : List En} {n m : Nat}, GoE n m es → keysJ n ++ askedE es = keysJ (cntE n es)
  | [], n, m, _ => List.append_nil _
  | .ask a :: r, n, m, h => by
    show keysJ n ++ (a.1 :: askedE r) = keysJ (cntE (n + 1) r)
    rw [h.1.1, ← askedE_go h.2, keysJ_succ, List.append_assoc]
    rfl
  | .rel k t :: r, n, m, h => by
    show keysJ n ++ askedE r = keysJ (cntE n r)
    exact askedE_go h.2
def ebody (e : En) : Str := lnE (enL e)
section
variable {P : Program} {w : World} {K : PySem.W.Frag} {mg : Str → Option Value} {base : Heap}
abbrev nEs : List Str := ["numbers", "at", "many", "keys", "moment", "entries", "known", "k", "spot", "key", "cost"]
abbrev sEs : Stmt := top 74
theorem scEs : FnScope nEs ["numbers", "at", "many", "keys", "moment"] (defScope sEs) := ⟨rfl, rfl, rfl, by decide +kernel, rfl, by decide +kernel, by decide +kernel⟩
def gEs : List D → (D → Prop) → Prop := fun ds P => ∃ (ns : List Int) (a many n m : Nat), ds = [.lst (ns.map D.int), .int (a : Nat), .int (many : Nat), .lst ((keysJ n).map D.str), .int (m : Nat)] ∧ (∀ x ∈ ns, 0 ≤ x ∧ x < 1009) ∧ a + 4 * many ≤ ns.length ∧ n ≤ 1000 ∧ many ≤ 1000 ∧ m ≤ 1000000 ∧ P = fun d => ∃ es : List En, d = .lst (es.map enD) ∧ es.length = many ∧ GoE n m es
theorem ok_es {f : Addr} {fd : FuncData} (F : Fun K "_law_entries" "_law_entries" sEs f fd) (T : Bt mg) : FnOk P w K mg base CX0 1 f fd ["numbers", "at", "many", "keys", "moment"] (spP K 5 gEs) := by
  refine fn_pure F scEs (by rintro ds Pd ⟨_, _, _, _, _, rfl, _⟩; rfl) fun cdv A outer s H E ds Pd hr hG => ?_
  obtain ⟨ns, a, many, n, m, rfl, hb, hl, hn, hmany, hm, rfl⟩ := hG
  have nd := scEs.nd
  have gn : ∀ i : Nat, 0 ≤ ns.getD i 0 ∧ ns.getD i 0 < 1009 := getD_in hb
  refine jss_cons (js_setN (i := 5) (jn_lst ja_nil) ?_ nd)
  refine jss_cons (js_setN (i := 6) (jn_listL T.list (by decide +kernel) (jv 3 rfl)) ?_ nd)
  refine jss_mid (fun ρ => ∃ (es : List En) (o4 o6 o7 o8 o9 o10 : Option SV), ρ = [some (.fz (.lst (ns.map D.int))), some (.fz (.int (a : Nat))), some (.fz (.int (many : Nat))), some (.fz (.lst ((keysJ n).map D.str))), o4, some (.ow (.lst (es.map enD))), o6, o7, o8, o9, o10] ∧ es.length = many ∧ GoE n m es)
    (js_range many (i := 7) (fun k ρ => ∃ (es : List En) (o7 o8 o9 o10 : Option SV), ρ = [some (.fz (.lst (ns.map D.int))), some (.fz (.int (a : Nat))), some (.fz (.int (many : Nat))), some (.fz (.lst ((keysJ n).map D.str))), some (.fz (.int (lastE m es : Nat))), some (.ow (.lst (es.map enD))), some (.ow (.lst ((keysJ (cntE n es)).map D.str))), o7, o8, o9, o10] ∧ es.length = k ∧ GoE n m es) T (jv 2 rfl) (by omega) nd ⟨[], _, _, _, _, rfl, rfl, trivial⟩ ?_ ?_) ?_
  · rintro k _ hk ⟨es, o7, o8, o9, o10, rfl, hlen, hgo⟩
    have hcl := cntE_le es n
    have hml := lastE_le hgo
    generalize hle : lastE m es = le0 at hml
    refine jss_cons (js_set (i := 8) (J.to (j_bin (jv 1 rfl) (j_bin j_int (jv 7 rfl) (od_mulI cmulL)) od_addI) (d' := .int ((a + 4 * k : Nat) : Int)) (by rw [show ((a + 4 * k : Nat) : Int) = (a : Int) + 4 * (k : Int) from by omega])) ?_ nd)
    have g0 := gn (a + 4 * k)
    have g1 := gn (a + 4 * k + 1)
    have g2 := gn (a + 4 * k + 2)
    have g3 := gn (a + 4 * k + 3)
    obtain ⟨t, ht, ht1, ht2⟩ : ∃ t : Nat, atI [D.int 0, .int 1, .int 2, .int 5] (ns.getD (a + 4 * k + 3) 0 % 4) = some (.int (t : Int)) ∧ 0 ≤ t ∧ t ≤ 5 := by
      have e : ns.getD (a + 4 * k + 3) 0 % 4 = 0 ∨ ns.getD (a + 4 * k + 3) 0 % 4 = 1 ∨ ns.getD (a + 4 * k + 3) 0 % 4 = 2 ∨ ns.getD (a + 4 * k + 3) 0 % 4 = 3 := by omega
      rcases e with e | e | e | e <;> rw [e]
      · exact ⟨0, rfl, by omega, by omega⟩
      · exact ⟨1, rfl, by omega, by omega⟩
      · exact ⟨2, rfl, by omega, by omega⟩
      · exact ⟨5, rfl, by omega, by omega⟩
    refine jss_cons (js_set (i := 4) (J.to (j_bin (jv 4 rfl) (j_ix (j_tup (ja_cons j_int (ja_cons j_int (ja_cons j_int (ja_cons j_int ja_nil))))) (j_bin (jb_int T (ja_cons (j_ix (jv 0 rfl) (j_bin (jv 8 rfl) j_int od_addI) (ixd_N (a + 4 * k + 3) (by omega) (by omega))) ja_nil)) j_int (od_modI (by decide))) (ixd_T ht)) od_addI) (d' := .int ((le0 + t : Nat) : Int)) (by rw [show ((le0 + t : Nat) : Int) = (le0 : Int) + (t : Int) from by omega])) ?_ nd)
    show JSs _ [] _ [some (.fz (.lst (ns.map D.int))), some (.fz (.int (a : Nat))), some (.fz (.int (many : Nat))), some (.fz (.lst ((keysJ n).map D.str))), some (.fz (.int ((le0 + t : Nat) : Int))), some (.ow (.lst (es.map enD))), some (.ow (.lst ((keysJ (cntE n es)).map D.str))), some (.fz (.int (k : Nat))), some (.fz (.int ((a + 4 * k : Nat) : Int))), o9, o10] _
    have lenK : lenD (.lst ((keysJ (cntE n es)).map D.str)) = some (cntE n es) := by show some _ = _; rw [List.length_map, keysJ_len]
    have hfs : ∀ e : En, (es ++ [e]).map enD = es.map enD ++ [enD e] := fun e => by rw [List.map_append]; rfl
    have hlen2 : ∀ e : En, (es ++ [e]).length = k + 1 := fun e => by rw [List.length_append, hlen]; rfl
    generalize hc : cntE n es = c at hcl lenK
    refine jss_cons (js_if (t := decide (0 < c) && decide (ns.getD (a + 4 * k) 0 % 3 = 0)) (JT.to (jt_w (jw_and (jt_cm (jb_len T (ja_cons (jv 6 rfl) ja_nil) lenK) j_int cd_gtI) (fun _ => jw_and1 (jt_cm (j_bin (jb_int T (ja_cons (j_ix (jv 0 rfl) (jv 8 rfl) (ixd_N (a + 4 * k) rfl (by omega))) ja_nil)) j_int (od_modI (by decide))) j_int cd_eqI)))) (congrArg (fun b => b && _) (decide_eq_decide.mpr ⟨fun q => by omega, fun q => by omega⟩))) (fun h => ?_) (fun h => ?_))
    · rw [Bool.and_eq_true, decide_eq_true_iff] at h
      obtain ⟨j, hj, hj2⟩ : ∃ j : Nat, ns.getD (a + 4 * k + 1) 0 % (c : Int) = (j : Int) ∧ j < c := ⟨(ns.getD (a + 4 * k + 1) 0 % (c : Int)).toNat, by have := Int.emod_nonneg (ns.getD (a + 4 * k + 1) 0) (show (c : Int) ≠ 0 by omega); omega, by have := Int.emod_nonneg (ns.getD (a + 4 * k + 1) 0) (show (c : Int) ≠ 0 by omega); have := Int.emod_lt_of_pos (ns.getD (a + 4 * k + 1) 0) (show (0 : Int) < (c : Int) by omega); omega⟩
      have hkj : (keysJ c).getD j "" = keyJ j := by
        unfold keysJ
        rw [List.getD_eq_getElem?_getD, List.getElem?_map, List.getElem?_range hj2]; rfl
      refine jss_cons (js_appendT (i := 5) (ds := es.map enD) (ts := [.str "release", .str (keyJ j), .int ((le0 + t : Nat) : Int)]) rfl (ja_cons j_str (ja_cons (J.to (j_ix (jv 6 rfl) (J.to (j_bin (jb_int T (ja_cons (j_ix (jv 0 rfl) (j_bin (jv 8 rfl) j_int od_addI) (ixd_N (a + 4 * k + 1) (by omega) (by omega))) ja_nil)) (jb_len T (ja_cons (jv 6 rfl) ja_nil) lenK) (od_modI (by omega))) (d' := .int (j : Int)) (congrArg D.int hj)) (ixd_L (atI_mapN D.str "" j rfl (by rw [keysJ_len]; exact hj2)))) (congrArg D.str hkj)) (ja_cons (jv 4 rfl) ja_nil))) rfl (le_size (by simp only [List.length_cons, List.length_nil]; omega)) (by rw [List.length_map, hlen]; exact lt_size (by omega)) ?_)
      refine jss_nil (jss_nil ⟨es ++ [.rel (keyJ j) (le0 + t)], some (.fz (.int (k : Nat))), some (.fz (.int ((a + 4 * k : Nat) : Int))), o9, o10, ?_, hlen2 _, goE_app.mpr ⟨hgo, goE_rel (by rw [hc]; exact hj2) (by omega) (by omega)⟩⟩)
      rw [hfs, lastE_app, cntE_app, hc, hle, lastE_one, cntE_rel]
      rfl
    · have hjl : ("j-" : Str).length + (numT c).length ≤ sizeLine := by
        have h1 := numT_len (n := c) (by omega)
        have h2 : ("j-" : Str).length = 2 := by decide +kernel
        exact le_size (by omega)
      refine jss_cons (js_setS (i := 9) (J.to (j_bin j_str (jb_str T (ja_cons (jb_len T (ja_cons (jv 6 rfl) ja_nil) lenK) ja_nil) (numT_log (by omega))) (od_addS hjl)) (d' := .str (keyJ c)) rfl) rfl ?_ nd)
      obtain ⟨co, hco, hco1, hco2⟩ : ∃ co : Nat, 1 + ns.getD (a + 4 * k + 1) 0 % 7 = (co : Int) ∧ 1 ≤ co ∧ co ≤ 7 := ⟨(1 + ns.getD (a + 4 * k + 1) 0 % 7).toNat, by omega, by omega, by omega⟩
      refine jss_cons (js_set (i := 10) (J.to (j_bin j_int (j_bin (jb_int T (ja_cons (j_ix (jv 0 rfl) (j_bin (jv 8 rfl) j_int od_addI) (ixd_N (a + 4 * k + 1) (by omega) (by omega))) ja_nil)) j_int (od_modI (by decide))) od_addI) (d' := .int (co : Int)) (congrArg D.int hco)) ?_ nd)
      refine jss_mid (fun ρ => ∃ co : Nat, 1 ≤ co ∧ co ≤ 1000 ∧ ρ = [some (.fz (.lst (ns.map D.int))), some (.fz (.int (a : Nat))), some (.fz (.int (many : Nat))), some (.fz (.lst ((keysJ n).map D.str))), some (.fz (.int ((le0 + t : Nat) : Int))), some (.ow (.lst (es.map enD))), some (.ow (.lst ((keysJ c).map D.str))), some (.fz (.int (k : Nat))), some (.fz (.int ((a + 4 * k : Nat) : Int))), some (.fz (.str (keyJ c))), some (.fz (.int (co : Nat)))]) (js_if (jt_cm (j_bin (jb_int T (ja_cons (j_ix (jv 0 rfl) (j_bin (jv 8 rfl) j_int od_addI) (ixd_N (a + 4 * k + 1) (by omega) (by omega))) ja_nil)) j_int (od_modI (by decide))) j_int cd_eqI) (fun _ => jss_cons (js_set (i := 10) j_int (jss_nil ⟨_, rfl, 1000, by decide, by decide, rfl⟩) nd)) (fun _ => jss_nil ⟨_, rfl, co, hco1, by omega, rfl⟩)) ?_
      rintro _ ⟨co, c1, c2, rfl⟩
      obtain ⟨gz, hgz, hgn⟩ : ∃ gz : Str, atI [D.str "a", .str "b", .str "c"] (ns.getD (a + 4 * k + 2) 0 % 3) = some (.str gz) ∧ isNm gz = true := by
        have e : ns.getD (a + 4 * k + 2) 0 % 3 = 0 ∨ ns.getD (a + 4 * k + 2) 0 % 3 = 1 ∨ ns.getD (a + 4 * k + 2) 0 % 3 = 2 := by omega
        rcases e with e | e | e <;> rw [e]
        · exact ⟨"a", rfl, by decide +kernel⟩
        · exact ⟨"b", rfl, by decide +kernel⟩
        · exact ⟨"c", rfl, by decide +kernel⟩
      refine jss_cons (js_append (i := 5) (ds := es.map enD) (d := .tup [.str "ask", .str (keyJ c), .str gz, .int (co : Nat), .int ((le0 + t : Nat) : Int)]) rfl (j_tup (ja_cons j_str (ja_cons (jv 9 rfl) (ja_cons (j_ix (j_tup (ja_cons j_str (ja_cons j_str (ja_cons j_str ja_nil)))) (j_bin (jb_int T (ja_cons (j_ix (jv 0 rfl) (j_bin (jv 8 rfl) j_int od_addI) (ixd_N (a + 4 * k + 2) (by omega) (by omega))) ja_nil)) j_int (od_modI (by decide))) (ixd_T hgz)) (ja_cons (jv 10 rfl) (ja_cons (jv 4 rfl) ja_nil)))))) (by rw [List.length_map, hlen]; exact lt_size (by omega)) ?_)
      refine jss_cons (js_append (i := 6) (ds := (keysJ c).map D.str) rfl (jv 9 rfl) (by rw [List.length_map, keysJ_len]; exact lt_size (by omega)) ?_)
      have hok : OkAsk (keyJ c, gz, co, le0 + t) := ⟨keyJ_ky (by omega), hgn, ⟨c1, c2⟩, (by omega : le0 + t ≤ 1000000000)⟩
      have hgo2 : GoE n m (es ++ [.ask (keyJ c, gz, co, le0 + t)]) := goE_app.mpr ⟨hgo, goE_ask (congrArg keyJ hc.symm) hok (by rw [hle]; exact Nat.le_add_right _ _) (by rw [hle]; exact Nat.add_le_add_left ht2 _)⟩
      refine jss_nil (jss_nil ⟨es ++ [.ask (keyJ c, gz, co, le0 + t)], some (.fz (.int (k : Nat))), some (.fz (.int ((a + 4 * k : Nat) : Int))), some (.fz (.str (keyJ c))), some (.fz (.int (co : Nat))), ?_, hlen2 _, hgo2⟩)
      rw [hfs, lastE_app, cntE_app, hc, hle, lastE_one, cntE_ask, keysJ_succ, List.map_append]
      rfl
  · rintro _ ⟨es, o7, o8, o9, o10, rfl, hlen, hgo⟩
    exact ⟨_, rfl, es, _, _, _, _, _, _, rfl, hlen, hgo⟩
  rintro _ ⟨es, o4, o6, o7, o8, o9, o10, rfl, hlen, hgo⟩
  exact jss_cons (js_ret (jv 5 rfl) ⟨es, rfl, hlen, hgo⟩)
abbrev sAk : Stmt := top 75
theorem scAk : FnScope ["entries", "entry"] ["entries"] (defScope sAk) := ⟨rfl, rfl, rfl, by decide +kernel, rfl, by decide +kernel, by decide +kernel⟩
def gAk : List D → (D → Prop) → Prop := fun ds P => ∃ es : List En, ds = [.lst (es.map enD)] ∧ es.length ≤ 3000 ∧ P = fun d => d = .lst ((askedE es).map D.str)
theorem ok_ak {f : Addr} {fd : FuncData} (F : Fun K "_law_asked" "_law_asked" sAk f fd) : FnOk P w K mg base CX0 1 f fd ["entries"] (spP K 1 gAk) := by
  refine fn_pure F scAk (by rintro ds Pd ⟨_, rfl, _⟩; rfl) fun cdv A outer s H E ds Pd hr hG => ?_
  obtain ⟨es, rfl, hl, rfl⟩ := hG
  have nd := scAk.nd
  refine jss_cons (js_ret (j_lc (own := [("entry", 1)]) (pat := .nm 1) (its := es.map fun e => (enD e, (askE1 e).map D.str)) (by rw [List.map_map]; exact ji_list (jv 0 rfl)) (blkOk_by (N := ["entries", "entry"]) (sc := defScope sAk) (by decide +kernel)) (fun _ _ _ _ _ => pg_name nd rfl (Or.inl rfl)) (by decide) (by rw [List.length_map]; exact lt_size (by omega)) (fun q hq => ?_) nd) ?_)
  · obtain ⟨e, he, rfl⟩ := List.mem_map.mp hq
    refine ⟨_, rfl, fun _ _ _ _ _ => ?_⟩
    cases e with
    | ask a => exact ⟨jts_one (JT.to (jt_cm (j_ix (J.to (jv 1 rfl) (d' := .tup (enL (.ask a))) rfl) j_int (ixd_T (d := .str "ask") rfl)) j_str cd_eqS) (decide_eq_true rfl)), j_ix (J.to (jv 1 rfl) (d' := .tup (enL (.ask a))) rfl) j_int (ixd_T (d := .str a.1) rfl)⟩
    | rel k t => exact jts_one (JT.to (jt_cm (j_ix (J.to (jv 1 rfl) (d' := .tup (enL (.rel k t))) rfl) j_int (ixd_T (d := .str "release") rfl)) j_str cd_eqS) (decide_eq_false (by decide +kernel)))
  · show D.lst _ = D.lst _
    unfold askedE
    rw [List.filterMap_map, List.map_filterMap]
    rfl
abbrev sBo : Stmt := top 76
theorem scBo : FnScope ["entry", "part"] ["entry"] (defScope sBo) := ⟨rfl, rfl, rfl, by decide +kernel, rfl, by decide +kernel, by decide +kernel⟩
def gBo : List D → (D → Prop) → Prop := fun ds P => ∃ e : En, ds = [enD e] ∧ OkEn e ∧ P = fun d => d = .str (ebody e)
theorem en_parts {e : En} (h : OkEn e) : ∀ d ∈ enL e, (∃ z : Str, d = .str z ∧ z.length ≤ 20) ∨ ∃ n : Nat, d = .int (n : Int) ∧ n ≤ 1000000000 := by
  intro d hd
  cases e with
  | ask a =>
    have h : OkAsk a := h
    simp only [enL, askL, List.mem_cons, List.not_mem_nil, or_false] at hd
    rcases hd with rfl | rfl | rfl | rfl | rfl
    · exact .inl ⟨_, rfl, by decide +kernel⟩
    · exact .inl ⟨_, rfl, ky_len h.key⟩
    · exact .inl ⟨_, rfl, Nat.le_trans (nm_len h.grp) (by decide)⟩
    · exact .inr ⟨_, rfl, Nat.le_trans h.cost.2 (by decide)⟩
    · exact .inr ⟨_, rfl, h.mom⟩
  | rel k t =>
    have h : isKy k = true ∧ t ≤ 1000000000 := h
    simp only [enL, List.mem_cons, List.not_mem_nil, or_false] at hd
    rcases hd with rfl | rfl | rfl
    · exact .inl ⟨_, rfl, by decide +kernel⟩
    · exact .inl ⟨_, rfl, ky_len h.1⟩
    · exact .inr ⟨_, rfl, h.2⟩
theorem en_wds {e : En} (h : OkEn e) : (∀ x ∈ wds (enL e), x.length ≤ 20) ∧ (wds (enL e)).length ≤ 5 := by
  refine ⟨fun x hx => ?_, by cases e <;> simp [wds, enL, askL]⟩
  obtain ⟨d, hd, rfl⟩ := List.mem_map.mp hx
  rcases en_parts h d hd with ⟨z, rfl, hz⟩ | ⟨n, rfl, hn⟩
  · exact hz
  · exact numT_len (n := n) (by omega)
theorem ok_bo {f : Addr} {fd : FuncData} (F : Fun K "_law_body" "_law_body" sBo f fd) (T : Bt mg) : FnOk P w K mg base CX0 1 f fd ["entry"] (spP K 1 gBo) := by
  refine fn_pure F scBo (by rintro ds Pd ⟨_, rfl, _⟩; rfl) fun cdv A outer s H E ds Pd hr hG => ?_
  obtain ⟨e, rfl, he, rfl⟩ := hG
  have nd := scBo.nd
  obtain ⟨w1, w2⟩ := en_wds he
  refine jss_cons (js_ret (j_join (ys := wds (enL e)) j_str (J.to (j_lcM (own := [("part", 1)]) (i := 1) (enL e) id (fun d => D.str (ptS d)) (by rw [List.map_id]; exact ji_tup (jv 0 rfl)) (blkOk_by (N := ["entry", "part"]) (sc := defScope sBo) (by decide +kernel)) (fun _ _ _ _ _ => pg_name nd rfl (Or.inl rfl)) (by cases e <;> exact lt_size (by simp [enL, askL])) (fun d hd _ _ _ _ _ => ?_) nd) (d' := .lst ((wds (enL e)).map D.str)) (by unfold wds; rw [List.map_map]; rfl)) (join_words w1 w2 (by decide) (by decide) _ (by decide +kernel)) rfl) rfl)
  rcases en_parts he d hd with ⟨z, rfl, hz⟩ | ⟨n, rfl, hn⟩
  · exact jb_strS T (ja_cons (jv 1 rfl) ja_nil)
  · exact jb_str T (ja_cons (jv 1 rfl) ja_nil) (numT_log (by omega))
end
end Toy

namespace Toy
open PySem PyProof.Rows L2 Pf
def linesR (rs : List Rec) : List (List Nat) := rs.map fun r => R39.lineN (r.1 : Int) r.2
def flatR (rs : List Rec) : List Nat := R39.flatL (linesR rs)
theorem flatR_eq (rs : List Rec) : flatR rs = (rs.map fun r => R39.lineN (r.1 : Int) r.2 ++ [10]).flatten := by
  unfold flatR linesR R39.flatL
  rw [List.map_map]; rfl
structure RecsOk (rs : List Rec) : Prop where
  ok : OkRecs rs
  num : ∀ r ∈ rs, r.1 < 1000000
def looksL (l : LJ) (g : Str) : Bool := match l.k with
  | .pool _ sh => decide (g ∈ sh.map (·.1))
  | _ => decide (l.gs.length = 0) || decide (g ∈ l.gs)
abbrev RqJ : Type := Str × Str × Int
def rqD (q : RqJ) : D := .tup [.str q.1, .str q.2.1, .int q.2.2]
def costs (rs : List Row) : List Int := rs.map fun r => (r.cost : Int)
def mx0 (x : Int) : Int := if x > 0 then x else 0
def poolGo (held : List Row) (q : RqJ) : List (Str × Int × Int) → Int → Int → Bool
  | [], b, f => decide (b ≤ f)
  | s :: r, b, f =>
    if decide (s.1 = q.2.1) = true then
      (if decide (s.2.2 < (costs (held.filter fun x => decide (x.grp = s.1))).sum + q.2.2) = true then false else poolGo held q r (b + mx0 ((costs (held.filter fun x => decide (x.grp = s.1))).sum + q.2.2 - s.2.1)) (f - s.2.1))
    else poolGo held q r (b + mx0 ((costs (held.filter fun x => decide (x.grp = s.1))).sum - s.2.1)) (f - s.2.1)
theorem poolGo_cons (held : List Row) (q : RqJ) (s : Str × Int × Int) (r : List (Str × Int × Int)) (b f : Int) : poolGo held q (s :: r) b f = if decide (s.1 = q.2.1) = true then
      (if decide (s.2.2 < (costs (held.filter fun x => decide (x.grp = s.1))).sum + q.2.2) = true then false else poolGo held q r (b + mx0 ((costs (held.filter fun x => decide (x.grp = s.1))).sum + q.2.2 - s.2.1)) (f - s.2.1))
    else poolGo held q r (b + mx0 ((costs (held.filter fun x => decide (x.grp = s.1))).sum - s.2.1)) (f - s.2.1) := rfl
def sinceJ (lt : List Row) (m : Nat) : List Int := lt.map (fun r => (r.mom : Int)) ++ [(m : Int)]
def bucBad (a b : Int) (lt : List Row) (c : Int) (m : Nat) (s : Int) : Bool := decide (a * b + (m : Int) - s < b * (c + (costs (lt.filter fun r => decide (s ≤ (r.mom : Int)))).sum))
def bucB (a b : Int) (lt : List Row) (c : Int) (m : Nat) : Bool := !(sinceJ lt m).any (bucBad a b lt c m)
def letJ (l : LJ) (rs : List Row) : List Row := rs.filter fun r => decide (r.lack.length = 0) && looksL l r.grp
def heldJ (l : LJ) (rs : List Row) : List Row := (letJ l rs).filter fun r => !r.rel
def fitsK (l : LJ) (rs : List Row) (q : RqJ) (m : Nat) : LK → Bool
  | .win a b => decide (q.2.2 + (costs ((letJ l rs).filter fun r => decide ((m : Int) - b < (r.mom : Int)))).sum ≤ a)
  | .spn a b => decide (q.2.2 + (costs ((letJ l rs).filter fun r => decide ((r.mom : Int) / b = (m : Int) / b))).sum ≤ a)
  | .buc a b => bucB a b (letJ l rs) q.2.2 m
  | .gap b => (letJ l rs).all fun r => decide (b ≤ (m : Int) - (r.mom : Int))
  | .held a => decide (q.2.2 + (costs (heldJ l rs)).sum ≤ a)
  | .pool a sh => poolGo (heldJ l rs) q sh 0 a
def fitsJ (l : LJ) (rs : List Row) (q : RqJ) (m : Nat) : Bool := if (!looksL l q.2.1) = true then true else fitsK l rs q m l.k
section
variable {P : Program} {w : World} {K : PySem.W.Frag} {mg : Str → Option Value} {base : Heap}
abbrev sLt : Stmt := top 71
theorem scLt : FnScope ["records", "number", "body"] ["records"] (defScope sLt) := ⟨rfl, rfl, rfl, by decide +kernel, rfl, by decide +kernel, by decide +kernel⟩
def gLt : List D → (D → Prop) → Prop := fun ds P => ∃ rs : List Rec, ds = [.lst (rs.map rcD)] ∧ RecsOk rs ∧ rs.length ≤ 4000 ∧ P = fun d => d = .str (tx (flatR rs))
theorem ok_lt {f : Addr} {fd : FuncData} (F : Fun K "_law_text" "_law_text" sLt f fd) (cL : PFn P w K mg base 3 "_law_line" 2 R39.gRec) : FnOk P w K mg base CX0 4 f fd ["records"] (spP K 1 gLt) := by
  refine fn_pure F scLt (by rintro ds Pd ⟨_, rfl, _⟩; rfl) fun cdv A outer s H E ds Pd hr hG => ?_
  obtain ⟨rs, rfl, hok, hl, rfl⟩ := hG
  have nd := scLt.nd
  have hlen : ∀ r ∈ rs, (R39.lineN (r.1 : Int) r.2).length ≤ 1107 := fun r hr => by
    have h1 := R39.isB_len (hok.ok r hr)
    have h2 := hok.num r hr
    exact R39.line_len (by omega) (by omega) (by omega)
  have hj : Txt.join "" (rs.map fun r => tx (R39.lineN (r.1 : Int) r.2 ++ [10])) = tx (flatR rs) := by
    have := R39.join_many "" (by decide +kernel) (rs.map fun r => R39.lineN (r.1 : Int) r.2 ++ [10])
    rw [List.map_map] at this
    rw [flatR_eq, ← this]; rfl
  have hz : ((rs.map fun r => tx (R39.lineN (r.1 : Int) r.2 ++ [10])).map (·.length)).sum + (rs.map fun r => tx (R39.lineN (r.1 : Int) r.2 ++ [10])).length * ("" : Str).length ≤ 16777216 := by
    have e0 : ("" : Str).length = 0 := by decide +kernel
    have h1 := sum_le (xs := rs.map fun r => tx (R39.lineN (r.1 : Int) r.2 ++ [10])) (m := 1108) fun z hz => by
      obtain ⟨r, hr2, rfl⟩ := List.mem_map.mp hz
      rw [tx_len, List.length_append]
      have := hlen r hr2
      simp only [List.length_cons, List.length_nil]
      omega
    rw [List.length_map] at h1
    rw [e0, Nat.mul_zero]
    have h2 := Nat.mul_le_mul_right 1108 hl
    omega
  generalize hys : (rs.map fun r => tx (R39.lineN (r.1 : Int) r.2 ++ [10])) = ys at hj hz
  generalize tx (flatR rs) = z at hj
  refine jss_cons (js_ret (j_join (ys := ys) (z := z) j_str ?_ hz hj) rfl)
  rw [← hys]
  refine J.to (j_lc (own := [("number", 1), ("body", 2)]) (pat := .tp [1, 2]) (its := rs.map fun r => (rcD r, some (D.str (tx (R39.lineN (r.1 : Int) r.2 ++ [10]))))) (by rw [List.map_map]; exact ji_list (jv 0 rfl)) (blkOk_by (N := ["records", "number", "body"]) (sc := defScope sLt) (by decide +kernel)) (fun _ _ _ _ _ => pg_tup rfl (pgs_cons (pg_name nd rfl (Or.inl rfl)) (pgs_cons (pg_name nd rfl (Or.inl rfl)) pgs_nil))) (by decide) (by rw [List.length_map]; exact lt_size (by omega)) (fun q hq => ?_) nd) ?_
  · obtain ⟨r, hr2, rfl⟩ := List.mem_map.mp hq
    have h1 := R39.isB_len (hok.ok r hr2)
    have h2 := hok.num r hr2
    have h3 := hlen r hr2
    refine ⟨_, rfl, fun _ _ _ _ _ => ⟨jts_nil, ?_⟩⟩
    refine J.to (j_bin (z := .str (tx (R39.lineN (r.1 : Int) r.2) ++ tx [10])) (j_call (d := .str (tx (R39.lineN (r.1 : Int) r.2))) cL hr (ja_cons (jv 1 rfl) (ja_cons (jv 2 rfl) ja_nil)) ⟨(r.1 : Int), r.2, rfl, by omega, by omega, by omega, rfl⟩ (fun _ h => h)) (J.to j_str (congrArg D.str R39.nl_tx)) (od_addS ?_)) (congrArg D.str (tx_app _ _))
    rw [tx_len, tx_len]
    exact le_size (by simp only [List.length_cons, List.length_nil]; omega)
  · rw [List.filterMap_map, List.map_map]
    exact congrArg D.lst (List.filterMap_eq_map.symm ▸ rfl)
abbrev sLk : Stmt := top 77
theorem scLk : FnScope ["limit", "group", "share"] ["limit", "group"] (defScope sLk) := ⟨rfl, rfl, rfl, by decide +kernel, rfl, by decide +kernel, by decide +kernel⟩
def gLk : List D → (D → Prop) → Prop := fun ds P => ∃ (l : LJ) (g : Str), ds = [ljD l, .str g] ∧ OkLJ l ∧ P = fun d => d = .bl (looksL l g)
theorem wd_ne (k : LK) (h : ∀ a sh, k ≠ .pool a sh) : ¬ wdK k = "pool" := by
  cases k with
  | pool a sh => exact absurd rfl (h a sh)
  | win a b => exact (by decide +kernel : ¬ ("window" : Str) = "pool")
  | spn a b => exact (by decide +kernel : ¬ ("span" : Str) = "pool")
  | buc a b => exact (by decide +kernel : ¬ ("bucket" : Str) = "pool")
  | gap b => exact (by decide +kernel : ¬ ("gap" : Str) = "pool")
  | held a => exact (by decide +kernel : ¬ ("held" : Str) = "pool")
theorem ok_lk {f : Addr} {fd : FuncData} (F : Fun K "_law_looks" "_law_looks" sLk f fd) (T : Bt mg) : FnOk P w K mg base CX0 1 f fd ["limit", "group"] (spP K 2 gLk) := by
  refine fn_pure F scLk (by rintro ds Pd ⟨_, _, rfl, _⟩; rfl) fun cdv A outer s H E ds Pd hr hG => ?_
  obtain ⟨⟨nm, gs, k⟩, g, rfl, hl, rfl⟩ := hG
  have nd := scLk.nd
  have lenG : lenD (.tup (gs.map D.str)) = some gs.length := by show some _ = _; rw [List.length_map]
  have oth : (∀ a sh, k ≠ .pool a sh) → JSs (cxOf CX0 P w K mg base ["limit", "group", "share"] "_law_looks" (defScope sLk) f cdv A outer s H E).nox [] (defBody sLk) [some (.fz (ljD ⟨nm, gs, k⟩)), some (.fz (.str g)), none] (fin fun d => d = .bl (looksL ⟨nm, gs, k⟩ g)) := fun hk => by
    refine jss_cons (js_ifF (JT.to (jt_cm (j_ix (jv 0 rfl) j_int (ixd_T (d := .str (wdK k)) rfl)) j_str cd_eqS) (decide_eq_false (wd_ne k hk))) (jss_nil ?_))
    refine jss_cons (js_ret (j_or (t := decide (gs.length = 0)) (J.to (j_cm (jb_len T (ja_cons (j_ix (jv 0 rfl) j_int (ixd_T (d := .tup (gs.map D.str)) rfl)) ja_nil) lenG) j_int cd_eqI) (congrArg D.bl (decide_eq_decide.mpr ⟨fun q => by omega, fun q => by omega⟩))) (fun _ => j_one (j_cm (jv 1 rfl) (j_ix (jv 0 rfl) j_int (ixd_T (d := .tup (gs.map D.str)) rfl)) cd_inStrT))) ?_)
    cases k with
    | pool a sh => exact absurd rfl (hk a sh)
    | _ => rfl
  cases k with
  | pool a sh =>
    refine jss_cons (js_ifT (JT.to (jt_cm (j_ix (jv 0 rfl) j_int (ixd_T (d := .str "pool") rfl)) j_str cd_eqS) (decide_eq_true rfl)) ?_)
    have hs : sh.length ≤ 8 := hl.k
    exact jss_cons (js_ret (J.to (j_cm (jv 1 rfl) (J.to (j_lcM (own := [("share", 2)]) (i := 2) sh shD (fun s => D.str s.1) (ji_tup (J.to (j_ix (j_ix (jv 0 rfl) j_int (ixd_T (d := .tup [.int a, .tup (sh.map shD)]) rfl)) j_int (ixd_T (d := .tup (sh.map shD)) rfl)) rfl)) (blkOk_by (N := ["limit", "group", "share"]) (sc := defScope sLk) (by decide +kernel)) (fun _ _ _ _ _ => pg_name nd rfl (Or.inl rfl)) (lt_size (by omega)) (fun s _ _ _ _ _ _ => j_ix (jv 2 rfl) j_int (ixd_T (d := .str s.1) rfl)) nd) (d' := .lst ((sh.map (·.1)).map D.str)) (by rw [List.map_map]; rfl)) cd_inStrL) (d' := .bl (looksL ⟨nm, gs, .pool a sh⟩ g)) rfl) rfl)
  | win a b => exact oth (fun _ _ z => by cases z)
  | spn a b => exact oth (fun _ _ z => by cases z)
  | buc a b => exact oth (fun _ _ z => by cases z)
  | gap b => exact oth (fun _ _ z => by cases z)
  | held a => exact oth (fun _ _ z => by cases z)
abbrev nPf : List Str := ["numbers", "held", "request", "beyond", "free", "group", "own", "ceiling", "use", "row"]
abbrev sPf : Stmt := top 78
theorem scPf : FnScope nPf ["numbers", "held", "request"] (defScope sPf) := ⟨rfl, rfl, rfl, by decide +kernel, rfl, by decide +kernel, by decide +kernel⟩
def gPf : List D → (D → Prop) → Prop := fun ds P => ∃ (a : Int) (sh : List (Str × Int × Int)) (rs : List Row) (q : RqJ), ds = [.tup [.int a, .tup (sh.map shD)], .lst (rs.map rowD), rqD q] ∧ rs.length ≤ 4000 ∧ P = fun d => d = .bl (poolGo rs q sh 0 a)
theorem ok_pf {f : Addr} {fd : FuncData} (F : Fun K "_law_pool_fits" "_law_pool_fits" sPf f fd) (T : Bt mg) : FnOk P w K mg base CX0 1 f fd ["numbers", "held", "request"] (spP K 3 gPf) := by
  refine fn_pure F scPf (by rintro ds Pd ⟨_, _, _, _, rfl, _⟩; rfl) fun cdv A outer s H E ds Pd hr hG => ?_
  obtain ⟨a, sh, rs, q, rfl, hl, rfl⟩ := hG
  have nd := scPf.nd
  refine jss_cons (js_set (i := 3) j_int ?_ nd)
  refine jss_cons (js_set (i := 4) (j_ix (jv 0 rfl) j_int (ixd_T (d := .int a) rfl)) ?_ nd)
  refine jss_cons (js_for (pat := .tp [5, 6, 7]) (ds := sh.map shD) (fun k ρ => ∃ (b fr : Int) (o5 o6 o7 o8 : Option SV), ρ = [some (.fz (.tup [.int a, .tup (sh.map shD)])), some (.fz (.lst (rs.map rowD))), some (.fz (rqD q)), some (.fz (.int b)), some (.fz (.int fr)), o5, o6, o7, o8, none] ∧ poolGo rs q (sh.drop k) b fr = poolGo rs q sh 0 a) (ji_tup (j_ix (jv 0 rfl) j_int (ixd_T (d := .tup (sh.map shD)) rfl))) (pg_tup rfl (pgs_cons (pg_name nd rfl (Or.inr rfl)) (pgs_cons (pg_name nd rfl (Or.inl rfl)) (pgs_cons (pg_name nd rfl (Or.inl rfl)) pgs_nil)))) ⟨0, a, _, _, _, _, rfl, by rw [List.drop_zero]⟩ ?_ ?_ PassesOwn.never)
  · rintro k d _ hd ⟨b, fr, o5, o6, o7, o8, rfl, heq⟩
    obtain ⟨x, hx, rfl⟩ := map_get hd
    obtain ⟨g, ow, ce⟩ := x
    have hk := (List.getElem?_eq_some_iff.mp hx).1
    have e0 : sh.drop k = (g, ow, ce) :: sh.drop (k + 1) := by
      rw [List.drop_eq_getElem_cons hk]
      rw [List.getElem?_eq_getElem hk] at hx
      rw [Option.some.inj hx]
    rw [e0] at heq
    rw [poolGo_cons] at heq
    dsimp only at heq
    refine ⟨_, rfl, ?_⟩
    show JSs _ [] _ [some (.fz (.tup [.int a, .tup (sh.map shD)])), some (.fz (.lst (rs.map rowD))), some (.fz (rqD q)), some (.fz (.int b)), some (.fz (.int fr)), some (.fz (.str g)), some (.fz (.int ow)), some (.fz (.int ce)), o8, none] _
    refine jss_cons (js_set (i := 8) (jb_sum T (ns := costs (rs.filter fun x => decide (x.grp = g))) (ja_cons (J.to (j_lcN (own := [("row", 9)]) (i := 9) rs rowD (fun x => decide (x.grp = g)) (fun x => D.int (x.cost : Nat)) (ji_list (jv 1 rfl)) (blkOk_by (N := nPf) (sc := defScope sPf) (by decide +kernel)) (fun _ _ _ _ _ => pg_name nd rfl (Or.inl rfl)) (lt_size (by omega)) (fun x _ _ _ _ _ _ => ⟨jts_one (jt_cm (j_ix (jv 9 rfl) j_int (ixd_T (d := .str x.grp) rfl)) (jv 5 rfl) cd_eqS), fun _ => j_ix (jv 9 rfl) j_int (ixd_T (d := .int (x.cost : Nat)) rfl)⟩) nd) (by unfold costs; rw [List.map_map]; rfl)) ja_nil)) ?_ nd)
    generalize (costs (rs.filter fun x => decide (x.grp = g))).sum = us at heq
    refine jss_cons (JS.imp (Ψ := fun o => (∃ u : Int, poolGo rs q (sh.drop (k + 1)) (b + mx0 (u - ow)) (fr - ow) = poolGo rs q sh 0 a ∧ o = .nx [some (.fz (.tup [.int a, .tup (sh.map shD)])), some (.fz (.lst (rs.map rowD))), some (.fz (rqD q)), some (.fz (.int b)), some (.fz (.int fr)), some (.fz (.str g)), some (.fz (.int ow)), some (.fz (.int ce)), some (.fz (.int u)), none]) ∨ (∃ ρ', poolGo rs q sh 0 a = false ∧ o = .rt (.bl false) ρ')) ?_ ?_)
    · refine js_if (t := decide (g = q.2.1)) (jt_cm (jv 5 rfl) (j_ix (jv 2 rfl) j_int (ixd_T (d := .str q.2.1) rfl)) cd_eqS) (fun h => ?_) (fun h => ?_)
      · rw [if_pos h] at heq
        refine jss_cons (js_set (i := 8) (j_bin (jv 8 rfl) (j_ix (jv 2 rfl) j_int (ixd_T (d := .int q.2.2) rfl)) od_addI) ?_ nd)
        refine jss_cons (js_if (t := decide (ce < us + q.2.2)) (jt_cm (jv 8 rfl) (jv 7 rfl) cd_gtI) (fun h2 => ?_) (fun h2 => ?_))
        · rw [if_pos h2] at heq
          exact jss_cons (js_ret j_bl (.inr ⟨_, heq.symm, rfl⟩))
        · rw [if_neg (by rw [h2]; decide)] at heq
          exact jss_nil (jss_nil (.inl ⟨_, heq, rfl⟩))
      · rw [if_neg (by rw [h]; decide)] at heq
        exact jss_nil (.inl ⟨_, heq, rfl⟩)
    · rintro _ (⟨u, hu, rfl⟩ | ⟨ρ', e1, rfl⟩)
      · refine jss_cons (js_set (i := 3) (j_bin (jv 3 rfl) (jb_max2 T (ja_cons j_int (ja_cons (j_bin (jv 8 rfl) (jv 6 rfl) od_subI) ja_nil))) od_addI) ?_ nd)
        refine jss_cons (js_set (i := 4) (j_bin (jv 4 rfl) (jv 6 rfl) od_subI) ?_ nd)
        exact jss_nil ⟨b + mx0 (u - ow), fr - ow, _, _, _, _, rfl, hu⟩
      · show D.bl false = D.bl _
        rw [e1]
  · rintro _ ⟨b, fr, o5, o6, o7, o8, rfl, heq⟩
    rw [List.length_map, List.drop_length] at heq
    refine jss_cons (js_ret (j_cm (jv 3 rfl) (jv 4 rfl) cd_leI) ?_)
    show D.bl _ = D.bl _
    rw [← heq]; rfl
abbrev nBf : List Str := ["numbers", "let", "request", "moment", "since", "total", "row"]
abbrev sBf : Stmt := top 79
theorem scBf : FnScope nBf ["numbers", "let", "request", "moment"] (defScope sBf) := ⟨rfl, rfl, rfl, by decide +kernel, rfl, by decide +kernel, by decide +kernel⟩
def gBf : List D → (D → Prop) → Prop := fun ds P => ∃ (a b : Int) (rs : List Row) (q : RqJ) (m : Nat), ds = [.tup [.int a, .int b], .lst (rs.map rowD), rqD q, .int (m : Nat)] ∧ rs.length ≤ 4000 ∧ (0 ≤ a ∧ a ≤ 100) ∧ (1 ≤ b ∧ b ≤ 100) ∧ P = fun d => d = .bl (bucB a b rs q.2.2 m)
theorem any_snoc_take {α : Type} (p : α → Bool) (xs : List α) {k : Nat} {x : α} (h : xs[k]? = some x) : (xs.take (k + 1)).any p = ((xs.take k).any p || p x) := by
  rw [List.take_succ, h, List.any_append]
  simp
theorem ok_bf {f : Addr} {fd : FuncData} (F : Fun K "_law_bucket_fits" "_law_bucket_fits" sBf f fd) (T : Bt mg) : FnOk P w K mg base CX0 1 f fd ["numbers", "let", "request", "moment"] (spP K 4 gBf) := by
  refine fn_pure F scBf (by rintro ds Pd ⟨_, _, _, _, _, rfl, _⟩; rfl) fun cdv A outer s H E ds Pd hr hG => ?_
  obtain ⟨a, b, rs, q, m, rfl, hl, ha, hb, rfl⟩ := hG
  have nd := scBf.nd
  have hcm : ∀ j : Int, CMul b j := fun j => cmulL (by omega) (by omega)
  refine jss_cons (js_each (i := 4) (sinceJ rs m) D.int (fun k ρ => ∃ o4 o5 : Option SV, ρ = [some (.fz (.tup [.int a, .int b])), some (.fz (.lst (rs.map rowD))), some (.fz (rqD q)), some (.fz (.int (m : Nat))), o4, o5, none] ∧ ((sinceJ rs m).take k).any (bucBad a b rs q.2.2 m) = false) (ji_list (J.to (j_bin (j_lcM (own := [("row", 6)]) (i := 6) rs rowD (fun x => D.int (x.mom : Nat)) (ji_list (jv 1 rfl)) (blkOk_by (N := nBf) (sc := defScope sBf) (by decide +kernel)) (fun _ _ _ _ _ => pg_name nd rfl (Or.inl rfl)) (lt_size (by omega)) (fun x _ _ _ _ _ _ => j_ix (jv 6 rfl) j_int (ixd_T (d := .int (x.mom : Nat)) rfl)) nd) (j_lst (ja_cons (jv 3 rfl) ja_nil)) (od_addL (by rw [List.length_map]; exact le_size (by simp only [List.length_cons, List.length_nil]; omega)))) (by unfold sinceJ; rw [List.map_append, List.map_map]; rfl))) nd ⟨none, none, rfl, rfl⟩ ?_ ?_ (hx := Or.inr rfl) (hf := by first | exact .inl rfl | exact .inr rfl))
  · rintro k x _ hx ⟨o4, o5, rfl, hno⟩
    refine jss_cons (js_set (i := 5) (j_bin (j_ix (jv 2 rfl) j_int (ixd_T (d := .int q.2.2) rfl)) (jb_sum T (ns := costs (rs.filter fun r => decide (x ≤ (r.mom : Int)))) (ja_cons (J.to (j_lcN (own := [("row", 6)]) (i := 6) rs rowD (fun r => decide (x ≤ (r.mom : Int))) (fun r => D.int (r.cost : Nat)) (ji_list (jv 1 rfl)) (blkOk_by (N := nBf) (sc := defScope sBf) (by decide +kernel)) (fun _ _ _ _ _ => pg_name nd rfl (Or.inl rfl)) (lt_size (by omega)) (fun r _ _ _ _ _ _ => ⟨jts_one (jt_cm (j_ix (jv 6 rfl) j_int (ixd_T (d := .int (r.mom : Nat)) rfl)) (jv 4 rfl) cd_geI), fun _ => j_ix (jv 6 rfl) j_int (ixd_T (d := .int (r.cost : Nat)) rfl)⟩) nd) (by unfold costs; rw [List.map_map]; rfl)) ja_nil)) od_addI) ?_ nd)
    refine jss_cons (js_if (t := bucBad a b rs q.2.2 m x) (jt_cm (j_bin (j_ix (jv 0 rfl) j_int (ixd_T (d := .int b) rfl)) (jv 5 rfl) (od_mulI (hcm _))) (j_bin (j_bin (j_bin (j_ix (jv 0 rfl) j_int (ixd_T (d := .int a) rfl)) (j_ix (jv 0 rfl) j_int (ixd_T (d := .int b) rfl)) (od_mulI (cmulL (by omega) (by omega)))) (jv 3 rfl) od_addI) (jv 4 rfl) od_subI) cd_gtI) (fun h => ?_) (fun h => ?_))
    · refine jss_cons (js_ret j_bl ?_)
      show D.bl false = D.bl (bucB a b rs q.2.2 m)
      unfold bucB
      rw [show (sinceJ rs m).any (bucBad a b rs q.2.2 m) = true from List.any_eq_true.mpr ⟨x, List.mem_of_getElem? hx, h⟩]
      rfl
    · refine jss_nil (jss_nil ⟨_, _, rfl, ?_⟩)
      rw [any_snoc_take _ _ hx, hno, h]; rfl
  · rintro _ ⟨o4, o5, rfl, hno⟩
    rw [List.take_length] at hno
    refine jss_cons (js_ret j_bl ?_)
    show D.bl true = D.bl (bucB a b rs q.2.2 m)
    unfold bucB
    rw [hno]; rfl
end
end Toy

namespace Toy
open PySem PyProof.Rows L2 Pf
def neverJ (l : LJ) (rs : List Row) (q : RqJ) (m : Nat) : Bool := match l.k with
  | .gap _ => false
  | .held _ => looksL l q.2.1 && !fitsJ l rs q m
  | .pool _ _ => looksL l q.2.1 && !fitsJ l rs q m
  | .win a _ => looksL l q.2.1 && decide (a < q.2.2)
  | .spn a _ => looksL l q.2.1 && decide (a < q.2.2)
  | .buc a _ => looksL l q.2.1 && decide (a < q.2.2)
def allFit (ls : List LJ) (rs : List Row) (q : RqJ) (m : Nat) : Bool := ls.all fun l => fitsJ l rs q m
def earlJ (ls : List LJ) (rs : List Row) (q : RqJ) (m : Nat) : Option Nat := if (ls.any fun l => neverJ l rs q m) = true then none else ((List.range 130).map (m + ·)).find? (allFit ls rs q)
theorem let_len (l : LJ) (rs : List Row) : (letJ l rs).length ≤ rs.length := List.length_filter_le _ _
theorem held_len (l : LJ) (rs : List Row) : (heldJ l rs).length ≤ rs.length := Nat.le_trans (List.length_filter_le _ _) (let_len l rs)
section
variable {P : Program} {w : World} {K : PySem.W.Frag} {mg : Str → Option Value} {base : Heap}
abbrev nFt : List Str := ["limit", "rows", "request", "moment", "let", "held", "numbers", "same", "row"]
abbrev sFt : Stmt := top 80
theorem scFt : FnScope nFt ["limit", "rows", "request", "moment"] (defScope sFt) := ⟨rfl, rfl, rfl, by decide +kernel, rfl, by decide +kernel, by decide +kernel⟩
def gFt : List D → (D → Prop) → Prop := fun ds P => ∃ (l : LJ) (rs : List Row) (q : RqJ) (m : Nat), ds = [ljD l, .lst (rs.map rowD), rqD q, .int (m : Nat)] ∧ OkLJ l ∧ rs.length ≤ 4000 ∧ P = fun d => d = .bl (fitsJ l rs q m)
theorem ok_ft {f : Addr} {fd : FuncData} (F : Fun K "_law_fits" "_law_fits" sFt f fd) (T : Bt mg) (cL : PFn P w K mg base 1 "_law_looks" 2 gLk) (cP : PFn P w K mg base 1 "_law_pool_fits" 3 gPf) (cB : PFn P w K mg base 1 "_law_bucket_fits" 4 gBf) : FnOk P w K mg base CX0 2 f fd ["limit", "rows", "request", "moment"] (spP K 4 gFt) := by
  refine fn_pure F scFt (by rintro ds Pd ⟨_, _, _, _, rfl, _⟩; rfl) fun cdv A outer s H E ds Pd hr hG => ?_
  obtain ⟨l, rs, q, m, rfl, hl, hlen, rfl⟩ := hG
  have nd := scFt.nd
  have h1 := let_len l rs
  have h2 := held_len l rs
  refine jss_cons (js_if (t := !looksL l q.2.1) (jt_not (jt_val (j_call cL hr (ja_cons (jv 0 rfl) (ja_cons (j_ix (jv 2 rfl) j_int (ixd_T (d := .str q.2.1) rfl)) ja_nil)) ⟨l, q.2.1, rfl, hl, rfl⟩ (fun _ h => h)))) (fun h => ?_) (fun h => jss_nil ?_))
  · refine jss_cons (js_ret j_bl ?_)
    show D.bl true = D.bl (fitsJ l rs q m)
    unfold fitsJ
    rw [if_pos h]
  have ef : fitsJ l rs q m = fitsK l rs q m l.k := by unfold fitsJ; rw [if_neg (by rw [h]; decide)]
  rw [ef]
  refine jss_cons (js_setLcN (own := [("row", 8)]) (i := 4) (j := 8) rs rowD (fun r => decide (r.lack.length = 0) && looksL l r.grp) rowD (ji_list (jv 1 rfl)) (blkOk_by (N := nFt) (sc := defScope sFt) (by decide +kernel)) (fun _ _ _ _ _ => pg_name nd rfl (Or.inl rfl)) (lt_size (by omega)) (fun r _ _ _ _ _ _ => ⟨jts_one (JT.to (jt_w (jw_and (jt_cm (jb_len T (ja_cons (j_ix (jv 8 rfl) j_int (ixd_T (d := .tup (r.lack.map D.str)) rfl)) ja_nil) (by show some _ = some r.lack.length; rw [List.length_map])) j_int cd_eqI) (fun _ => jw_and1 (jt_val (j_call cL hr (ja_cons (jv 0 rfl) (ja_cons (j_ix (jv 8 rfl) j_int (ixd_T (d := .str r.grp) rfl)) ja_nil)) ⟨l, r.grp, rfl, hl, rfl⟩ (fun _ h => h)))))) (congrArg (fun b => b && _) (decide_eq_decide.mpr ⟨fun q => by omega, fun q => by omega⟩))), fun _ => jv 8 rfl⟩) ?_ nd (by rfl))
  refine jss_cons (js_setLcN (own := [("row", 8)]) (i := 5) (j := 8) (letJ l rs) rowD (fun r => !r.rel) rowD (ji_list (jv 4 rfl)) (blkOk_by (N := nFt) (sc := defScope sFt) (by decide +kernel)) (fun _ _ _ _ _ => pg_name nd rfl (Or.inl rfl)) (lt_size (by omega)) (fun r _ _ _ _ _ _ => ⟨jts_one (jt_not (jt_val (j_ix (jv 8 rfl) j_int (ixd_T (d := .bl r.rel) rfl)))), fun _ => jv 8 rfl⟩) ?_ nd (by rfl))
  refine jss_cons (js_set (i := 6) (j_ix (jv 0 rfl) j_int (ixd_T (d := .tup (nuL l.k)) rfl)) ?_ nd)
  show JSs _ [] _ [some (.fz (ljD l)), some (.fz (.lst (rs.map rowD))), some (.fz (rqD q)), some (.fz (.int (m : Nat))), some (.fz (.lst ((letJ l rs).map rowD))), some (.fz (.lst ((heldJ l rs).map rowD))), some (.fz (.tup (nuL l.k))), none, none] _
  obtain ⟨nm, gs, k⟩ := l
  have hk : OkK k := hl.k
  have no : ∀ {a b : Str}, a ≠ b → decide (a = b) = false := fun h => decide_eq_false h
  cases k with
  | win a b =>
    refine jss_cons (js_ifT (JT.to (jt_cm (j_ix (jv 0 rfl) j_int (ixd_T (d := .str "window") rfl)) j_str cd_eqS) (decide_eq_true rfl)) ?_)
    exact jss_cons (js_ret (j_cm (j_bin (j_ix (jv 2 rfl) j_int (ixd_T (d := .int q.2.2) rfl)) (jb_sum T (ns := costs ((letJ ⟨nm, gs, .win a b⟩ rs).filter fun r => decide ((m : Int) - b < (r.mom : Int)))) (ja_cons (J.to (j_lcN (own := [("row", 8)]) (i := 8) ((letJ ⟨nm, gs, .win a b⟩ rs)) rowD (fun r => decide ((m : Int) - b < (r.mom : Int))) (fun r => D.int (r.cost : Nat)) (ji_list (jv 4 rfl)) (blkOk_by (N := nFt) (sc := defScope sFt) (by decide +kernel)) (fun _ _ _ _ _ => pg_name nd rfl (Or.inl rfl)) (lt_size (by omega)) (fun r _ _ _ _ _ _ => ⟨jts_one (jt_cm (j_ix (jv 8 rfl) j_int (ixd_T (d := .int (r.mom : Nat)) rfl)) (j_bin (jv 3 rfl) (j_ix (jv 6 rfl) j_int (ixd_T (d := .int b) rfl)) od_subI) cd_gtI), fun _ => j_ix (jv 8 rfl) j_int (ixd_T (d := .int (r.cost : Nat)) rfl)⟩) nd) (by unfold costs; rw [List.map_map]; rfl)) ja_nil)) od_addI) (j_ix (jv 6 rfl) j_int (ixd_T (d := .int a) rfl)) cd_leI) rfl)
  | spn a b =>
    refine jss_cons (js_ifF (JT.to (jt_cm (j_ix (jv 0 rfl) j_int (ixd_T (d := .str "span") rfl)) j_str cd_eqS) (no (by decide +kernel : ("span" : Str) ≠ "window"))) (jss_nil ?_))
    have hd : CDiv (1 : Int) b := ⟨by have := hk.2; omega, by have := hk.2; omega⟩
    refine jss_cons (js_ifT (JT.to (jt_cm (j_ix (jv 0 rfl) j_int (ixd_T (d := .str "span") rfl)) j_str cd_eqS) (decide_eq_true rfl)) ?_)
    refine jss_cons (js_setLcN (own := [("row", 8)]) (i := 7) (j := 8) (letJ ⟨nm, gs, .spn a b⟩ rs) rowD (fun r => decide ((r.mom : Int) / b = (m : Int) / b)) (fun r => D.int (r.cost : Nat)) (ji_list (jv 4 rfl)) (blkOk_by (N := nFt) (sc := defScope sFt) (by decide +kernel)) (fun _ _ _ _ _ => pg_name nd rfl (Or.inl rfl)) (lt_size (by omega)) (fun r _ _ _ _ _ _ => ⟨jts_one (jt_cm (j_bin (j_ix (jv 8 rfl) j_int (ixd_T (d := .int (r.mom : Nat)) rfl)) (j_ix (jv 6 rfl) j_int (ixd_T (d := .int b) rfl)) (od_fdivI ⟨by have := hk.2; omega, by have := hk.2; omega⟩)) (j_bin (jv 3 rfl) (j_ix (jv 6 rfl) j_int (ixd_T (d := .int b) rfl)) (od_fdivI ⟨by have := hk.2; omega, by have := hk.2; omega⟩)) cd_eqI), fun _ => j_ix (jv 8 rfl) j_int (ixd_T (d := .int (r.cost : Nat)) rfl)⟩) ?_ nd (by rfl))
    exact jss_cons (js_ret (j_cm (j_bin (j_ix (jv 2 rfl) j_int (ixd_T (d := .int q.2.2) rfl)) (jb_sum T (ns := costs ((letJ ⟨nm, gs, .spn a b⟩ rs).filter fun r => decide ((r.mom : Int) / b = (m : Int) / b))) (ja_cons (J.to (jv 7 rfl) (by unfold costs; rw [List.map_map]; rfl)) ja_nil)) od_addI) (j_ix (jv 6 rfl) j_int (ixd_T (d := .int a) rfl)) cd_leI) rfl)
  | gap b =>
    refine jss_cons (js_ifF (JT.to (jt_cm (j_ix (jv 0 rfl) j_int (ixd_T (d := .str "gap") rfl)) j_str cd_eqS) (no (by decide +kernel : ("gap" : Str) ≠ "window"))) (jss_nil ?_))
    refine jss_cons (js_ifF (JT.to (jt_cm (j_ix (jv 0 rfl) j_int (ixd_T (d := .str "gap") rfl)) j_str cd_eqS) (no (by decide +kernel : ("gap" : Str) ≠ "span"))) (jss_nil ?_))
    refine jss_cons (js_ifT (JT.to (jt_cm (j_ix (jv 0 rfl) j_int (ixd_T (d := .str "gap") rfl)) j_str cd_eqS) (decide_eq_true rfl)) ?_)
    refine jss_cons (js_ret (jb_all T (bs := (letJ ⟨nm, gs, .gap b⟩ rs).map fun r => decide (b ≤ (m : Int) - (r.mom : Int))) (ja_cons (J.to (j_lcM (own := [("row", 8)]) (i := 8) (letJ ⟨nm, gs, .gap b⟩ rs) rowD (fun r => D.bl (decide (b ≤ (m : Int) - (r.mom : Int)))) (ji_list (jv 4 rfl)) (blkOk_by (N := nFt) (sc := defScope sFt) (by decide +kernel)) (fun _ _ _ _ _ => pg_name nd rfl (Or.inl rfl)) (lt_size (by omega)) (fun r _ _ _ _ _ _ => j_cm (j_bin (jv 3 rfl) (j_ix (jv 8 rfl) j_int (ixd_T (d := .int (r.mom : Nat)) rfl)) od_subI) (j_ix (jv 6 rfl) j_int (ixd_T (d := .int b) rfl)) cd_geI) nd) (by rw [List.map_map]; rfl)) ja_nil)) ?_)
    show D.bl _ = D.bl ((letJ ⟨nm, gs, .gap b⟩ rs).all fun r => decide (b ≤ (m : Int) - (r.mom : Int)))
    rw [List.all_map]; rfl
  | held a =>
    refine jss_cons (js_ifF (JT.to (jt_cm (j_ix (jv 0 rfl) j_int (ixd_T (d := .str "held") rfl)) j_str cd_eqS) (no (by decide +kernel : ("held" : Str) ≠ "window"))) (jss_nil ?_))
    refine jss_cons (js_ifF (JT.to (jt_cm (j_ix (jv 0 rfl) j_int (ixd_T (d := .str "held") rfl)) j_str cd_eqS) (no (by decide +kernel : ("held" : Str) ≠ "span"))) (jss_nil ?_))
    refine jss_cons (js_ifF (JT.to (jt_cm (j_ix (jv 0 rfl) j_int (ixd_T (d := .str "held") rfl)) j_str cd_eqS) (no (by decide +kernel : ("held" : Str) ≠ "gap"))) (jss_nil ?_))
    refine jss_cons (js_ifT (JT.to (jt_cm (j_ix (jv 0 rfl) j_int (ixd_T (d := .str "held") rfl)) j_str cd_eqS) (decide_eq_true rfl)) ?_)
    exact jss_cons (js_ret (j_cm (j_bin (j_ix (jv 2 rfl) j_int (ixd_T (d := .int q.2.2) rfl)) (jb_sum T (ns := costs (heldJ ⟨nm, gs, .held a⟩ rs)) (ja_cons (J.to (j_lcM (own := [("row", 8)]) (i := 8) (heldJ ⟨nm, gs, .held a⟩ rs) rowD (fun r => D.int (r.cost : Nat)) (ji_list (jv 5 rfl)) (blkOk_by (N := nFt) (sc := defScope sFt) (by decide +kernel)) (fun _ _ _ _ _ => pg_name nd rfl (Or.inl rfl)) (lt_size (by omega)) (fun r _ _ _ _ _ _ => j_ix (jv 8 rfl) j_int (ixd_T (d := .int (r.cost : Nat)) rfl)) nd) (by unfold costs; rw [List.map_map]; rfl)) ja_nil)) od_addI) (j_ix (jv 6 rfl) j_int (ixd_T (d := .int a) rfl)) cd_leI) rfl)
  | buc a b =>
    refine jss_cons (js_ifF (JT.to (jt_cm (j_ix (jv 0 rfl) j_int (ixd_T (d := .str "bucket") rfl)) j_str cd_eqS) (no (by decide +kernel : ("bucket" : Str) ≠ "window"))) (jss_nil ?_))
    refine jss_cons (js_ifF (JT.to (jt_cm (j_ix (jv 0 rfl) j_int (ixd_T (d := .str "bucket") rfl)) j_str cd_eqS) (no (by decide +kernel : ("bucket" : Str) ≠ "span"))) (jss_nil ?_))
    refine jss_cons (js_ifF (JT.to (jt_cm (j_ix (jv 0 rfl) j_int (ixd_T (d := .str "bucket") rfl)) j_str cd_eqS) (no (by decide +kernel : ("bucket" : Str) ≠ "gap"))) (jss_nil ?_))
    refine jss_cons (js_ifF (JT.to (jt_cm (j_ix (jv 0 rfl) j_int (ixd_T (d := .str "bucket") rfl)) j_str cd_eqS) (no (by decide +kernel : ("bucket" : Str) ≠ "held"))) (jss_nil ?_))
    refine jss_cons (js_ifT (JT.to (jt_cm (j_ix (jv 0 rfl) j_int (ixd_T (d := .str "bucket") rfl)) j_str cd_eqS) (decide_eq_true rfl)) ?_)
    exact jss_cons (js_ret (j_call cB hr (ja_cons (jv 6 rfl) (ja_cons (jv 4 rfl) (ja_cons (jv 2 rfl) (ja_cons (jv 3 rfl) ja_nil)))) ⟨a, b, _, q, m, rfl, by omega, hk.1, hk.2, rfl⟩ (fun _ h => h)) rfl)
  | pool a sh =>
    refine jss_cons (js_ifF (JT.to (jt_cm (j_ix (jv 0 rfl) j_int (ixd_T (d := .str "pool") rfl)) j_str cd_eqS) (no (by decide +kernel : ("pool" : Str) ≠ "window"))) (jss_nil ?_))
    refine jss_cons (js_ifF (JT.to (jt_cm (j_ix (jv 0 rfl) j_int (ixd_T (d := .str "pool") rfl)) j_str cd_eqS) (no (by decide +kernel : ("pool" : Str) ≠ "span"))) (jss_nil ?_))
    refine jss_cons (js_ifF (JT.to (jt_cm (j_ix (jv 0 rfl) j_int (ixd_T (d := .str "pool") rfl)) j_str cd_eqS) (no (by decide +kernel : ("pool" : Str) ≠ "gap"))) (jss_nil ?_))
    refine jss_cons (js_ifF (JT.to (jt_cm (j_ix (jv 0 rfl) j_int (ixd_T (d := .str "pool") rfl)) j_str cd_eqS) (no (by decide +kernel : ("pool" : Str) ≠ "held"))) (jss_nil ?_))
    refine jss_cons (js_ifF (JT.to (jt_cm (j_ix (jv 0 rfl) j_int (ixd_T (d := .str "pool") rfl)) j_str cd_eqS) (no (by decide +kernel : ("pool" : Str) ≠ "bucket"))) (jss_nil ?_))
    exact jss_cons (js_ret (j_call cP hr (ja_cons (jv 6 rfl) (ja_cons (jv 5 rfl) (ja_cons (jv 2 rfl) ja_nil))) ⟨a, sh, _, q, rfl, by omega, rfl⟩ (fun _ h => h)) rfl)
abbrev nNv : List Str := ["limit", "rows", "request", "moment"]
abbrev sNv : Stmt := top 81
theorem scNv : FnScope nNv nNv (defScope sNv) := ⟨rfl, rfl, rfl, by decide +kernel, rfl, by decide +kernel, by decide +kernel⟩
def gNv : List D → (D → Prop) → Prop := fun ds P => ∃ (l : LJ) (rs : List Row) (q : RqJ) (m : Nat), ds = [ljD l, .lst (rs.map rowD), rqD q, .int (m : Nat)] ∧ OkLJ l ∧ rs.length ≤ 4000 ∧ P = fun d => d = .bl (neverJ l rs q m)
theorem ok_nv {f : Addr} {fd : FuncData} (F : Fun K "_law_never" "_law_never" sNv f fd) (T : Bt mg) (cL : PFn P w K mg base 1 "_law_looks" 2 gLk) (cF : PFn P w K mg base 2 "_law_fits" 4 gFt) : FnOk P w K mg base CX0 3 f fd ["limit", "rows", "request", "moment"] (spP K 4 gNv) := by
  refine fn_pure F scNv (by rintro ds Pd ⟨_, _, _, _, rfl, _⟩; rfl) fun cdv A outer s H E ds Pd hr hG => ?_
  obtain ⟨⟨nm, gs, k⟩, rs, q, m, rfl, hl, hlen, rfl⟩ := hG
  have nd := scNv.nd
  have first : (looksL ⟨nm, gs, k⟩ q.2.1 = false ∨ wdK k = "gap") → neverJ ⟨nm, gs, k⟩ rs q m = false := fun h => by
    rcases h with h | h
    · cases k <;> (first | rfl | (unfold neverJ; dsimp only; rw [h, Bool.false_and]))
    · cases k with
      | gap b => rfl
      | win a b => exact absurd h (by decide +kernel : ¬ ("window" : Str) = "gap")
      | spn a b => exact absurd h (by decide +kernel : ¬ ("span" : Str) = "gap")
      | buc a b => exact absurd h (by decide +kernel : ¬ ("bucket" : Str) = "gap")
      | held a => exact absurd h (by decide +kernel : ¬ ("held" : Str) = "gap")
      | pool a sh => exact absurd h (by decide +kernel : ¬ ("pool" : Str) = "gap")
  refine jss_cons (js_if (t := !looksL ⟨nm, gs, k⟩ q.2.1 || decide (wdK k = "gap")) (jt_w (jw_or (jt_not (jt_val (j_call cL hr (ja_cons (jv 0 rfl) (ja_cons (j_ix (jv 2 rfl) j_int (ixd_T (d := .str q.2.1) rfl)) ja_nil)) ⟨⟨nm, gs, k⟩, q.2.1, rfl, hl, rfl⟩ (fun _ h => h)))) (fun _ => jw_or1 (jt_cm (j_ix (jv 0 rfl) j_int (ixd_T (d := .str (wdK k)) rfl)) j_str cd_eqS)))) (fun h => ?_) (fun h => jss_nil ?_))
  · rw [Bool.or_eq_true, Bool.not_eq_true', decide_eq_true_iff] at h
    refine jss_cons (js_ret j_bl ?_)
    show D.bl false = D.bl (neverJ ⟨nm, gs, k⟩ rs q m)
    rw [first h]
  rw [Bool.or_eq_false_iff, Bool.not_eq_false', decide_eq_false_iff_not] at h
  obtain ⟨h1, h2⟩ := h
  have en : ∀ x : Str, decide (x ∈ (["held", "pool"] : List Str)) = decide (x ∈ (["held", "pool"] : List Str)) := fun _ => rfl
  have hf : wdK k = "held" ∨ wdK k = "pool" → neverJ ⟨nm, gs, k⟩ rs q m = !fitsJ ⟨nm, gs, k⟩ rs q m := fun h => by
    cases k with
    | held a => show (looksL _ _ && _) = _; rw [h1]; rfl
    | pool a sh => show (looksL _ _ && _) = _; rw [h1]; rfl
    | gap b => exact absurd rfl h2
    | win a b => rcases h with h | h; exact absurd h (by decide +kernel : ¬ ("window" : Str) = "held"); exact absurd h (by decide +kernel : ¬ ("window" : Str) = "pool")
    | spn a b => rcases h with h | h; exact absurd h (by decide +kernel : ¬ ("span" : Str) = "held"); exact absurd h (by decide +kernel : ¬ ("span" : Str) = "pool")
    | buc a b => rcases h with h | h; exact absurd h (by decide +kernel : ¬ ("bucket" : Str) = "held"); exact absurd h (by decide +kernel : ¬ ("bucket" : Str) = "pool")
  refine jss_cons (js_if (t := decide (wdK k ∈ (["held", "pool"] : List Str))) (jt_cm (j_ix (jv 0 rfl) j_int (ixd_T (d := .str (wdK k)) rfl)) (J.to (j_tup (ja_cons j_str (ja_cons j_str ja_nil))) (d' := .tup ((["held", "pool"] : List Str).map D.str)) rfl) cd_inStrT) (fun h => ?_) (fun h => jss_nil ?_))
  · have h := of_decide_eq_true h
    simp only [List.mem_cons, List.not_mem_nil, or_false] at h
    rw [hf h]
    exact jss_cons (js_ret (j_not (j_call cF hr (ja_cons (jv 0 rfl) (ja_cons (jv 1 rfl) (ja_cons (jv 2 rfl) (ja_cons (jv 3 rfl) ja_nil)))) ⟨_, rs, q, m, rfl, hl, hlen, rfl⟩ (fun _ h => h))) rfl)
  · have h := of_decide_eq_false h
    simp only [List.mem_cons, List.not_mem_nil, or_false, not_or] at h
    have go : ∀ a b : Int, nuL k = [.int a, .int b] → neverJ ⟨nm, gs, k⟩ rs q m = decide (a < q.2.2) → JSs (cxOf CX0 P w K mg base nNv "_law_never" (defScope sNv) f cdv A outer s H E).nox [] ((defBody sNv).drop 2) [some (.fz (ljD ⟨nm, gs, k⟩)), some (.fz (.lst (rs.map rowD))), some (.fz (rqD q)), some (.fz (.int (m : Nat)))] (fin fun d => d = .bl (neverJ ⟨nm, gs, k⟩ rs q m)) := fun a b e1 e2 => by
      rw [e2]
      exact jss_cons (js_ret (j_cm (j_ix (jv 2 rfl) j_int (ixd_T (d := .int q.2.2) rfl)) (j_ix (J.to (j_ix (jv 0 rfl) j_int (ixd_T (d := .tup (nuL k)) rfl)) (congrArg D.tup e1)) j_int (ixd_T (d := .int a) rfl)) cd_gtI) rfl)
    cases k with
    | win a b => exact go a b rfl (by show (looksL _ _ && _) = _; rw [h1]; rfl)
    | spn a b => exact go a b rfl (by show (looksL _ _ && _) = _; rw [h1]; rfl)
    | buc a b => exact go a b rfl (by show (looksL _ _ && _) = _; rw [h1]; rfl)
    | gap b => exact absurd rfl h2
    | held a => exact absurd rfl h.1
    | pool a sh => exact absurd rfl h.2
abbrev nEa : List Str := ["limits", "rows", "request", "moment", "later", "limit"]
abbrev sEa : Stmt := top 82
theorem scEa : FnScope nEa ["limits", "rows", "request", "moment"] (defScope sEa) := ⟨rfl, rfl, rfl, by decide +kernel, rfl, by decide +kernel, by decide +kernel⟩
def gEa : List D → (D → Prop) → Prop := fun ds P => ∃ (ls : List LJ) (rs : List Row) (q : RqJ) (m : Nat), ds = [.lst (ls.map ljD), .lst (rs.map rowD), rqD q, .int (m : Nat)] ∧ (∀ l ∈ ls, OkLJ l) ∧ ls.length ≤ 10 ∧ rs.length ≤ 4000 ∧ m ≤ 2000000000 ∧ P = fun d => d = optN (earlJ ls rs q m)
theorem find_none_take {α : Type} (p : α → Bool) (xs : List α) (h : ∀ x ∈ xs, p x = false) : xs.find? p = none := List.find?_eq_none.mpr fun x hx => by rw [h x hx]; decide
theorem find_at (p : Nat → Bool) (m : Nat) {n k : Nat} (hk : k < n) (h : ∀ j, j < k → p (m + j) = false) (hp : p (m + k) = true) : ((List.range n).map (m + ·)).find? p = some (m + k) := by
  refine List.find?_eq_some_iff_append.mpr ⟨hp, ((List.range n).map (m + ·)).take k, ((List.range n).map (m + ·)).drop (k + 1), ?_, fun x hx => ?_⟩
  · have hl : k < ((List.range n).map (m + ·)).length := by rw [List.length_map, List.length_range]; exact hk
    have e := List.drop_eq_getElem_cons hl
    have e2 : ((List.range n).map (m + ·))[k] = m + k := by rw [List.getElem_map, List.getElem_range]
    rw [e2] at e
    rw [← e, List.take_append_drop]
  · rw [← List.map_take, List.take_range] at hx
    obtain ⟨j, hj, rfl⟩ := List.mem_map.mp hx
    have := List.mem_range.mp hj
    rw [h j (by omega)]; rfl
def forTg : Stmt → Expr
  | .For t _ _ _ _ => t
  | _ => .Name "" ⟨0, 0, 0, 0⟩
def forIt : Stmt → Expr
  | .For _ i _ _ _ => i
  | _ => .Name "" ⟨0, 0, 0, 0⟩
theorem ok_ea {f : Addr} {fd : FuncData} (F : Fun K "_law_earliest" "_law_earliest" sEa f fd) (T : Bt mg) (cN : PFn P w K mg base 3 "_law_never" 4 gNv) (cF : PFn P w K mg base 2 "_law_fits" 4 gFt) : FnOk P w K mg base CX0 4 f fd ["limits", "rows", "request", "moment"] (spP K 4 gEa) := by
  refine fn_pure F scEa (by rintro ds Pd ⟨_, _, _, _, rfl, _⟩; rfl) fun cdv A outer s H E ds Pd hr hG => ?_
  obtain ⟨ls, rs, q, m, rfl, hls, hll, hlen, hm, rfl⟩ := hG
  have nd := scEa.nd
  refine jss_cons (js_if (t := ls.any fun l => neverJ l rs q m) (JT.to (jt_val (jb_any T (bs := ls.map fun l => neverJ l rs q m) (ja_cons (J.to (j_lcM (own := [("limit", 5)]) (i := 5) ls ljD (fun l => D.bl (neverJ l rs q m)) (ji_list (jv 0 rfl)) (blkOk_by (N := nEa) (sc := defScope sEa) (by decide +kernel)) (fun _ _ _ _ _ => pg_name nd rfl (Or.inl rfl)) (lt_size (by omega)) (fun l hl _ _ _ _ _ => j_call cN hr (ja_cons (jv 5 rfl) (ja_cons (jv 1 rfl) (ja_cons (jv 2 rfl) (ja_cons (jv 3 rfl) ja_nil)))) ⟨l, rs, q, m, rfl, hls l hl, hlen, rfl⟩ (fun _ h => h)) nd) (by rw [List.map_map]; rfl)) ja_nil))) (by rw [List.any_map]; rfl)) (fun h => ?_) (fun h => jss_nil ?_))
  · refine jss_cons (js_ret j_non ?_)
    show D.non = optN (earlJ ls rs q m)
    unfold earlJ
    rw [if_pos h]; rfl
  have ee : earlJ ls rs q m = ((List.range 130).map (m + ·)).find? (allFit ls rs q) := by unfold earlJ; rw [if_neg (by rw [h]; decide)]
  rw [ee]
  have ji : JI (cxOf CX0 P w K mg base nEa "_law_earliest" (defScope sEa) f cdv A outer s H E).nox (forTg ((defBody sEa).getD 1 (.Pass ⟨0, 0, 0, 0⟩))) (forIt ((defBody sEa).getD 1 (.Pass ⟨0, 0, 0, 0⟩))) (fzR [some (.fz (.lst (ls.map ljD))), some (.fz (.lst (rs.map rowD))), some (.fz (rqD q)), some (.fz (.int (m : Nat))), none, none]) (rangeD (m : Int) 130) := by
    have e : ((m : Int) + 130 - (m : Int)).toNat = 130 := by omega
    rw [← e]
    exact ji_range2 T.range (jv 3 rfl) (j_bin (jv 3 rfl) j_int od_addI) ⟨by omega, by omega, by omega, by omega⟩
  refine jss_cons (js_for (pat := .nm 4) (ds := rangeD (m : Int) 130) (fun k ρ => ∃ o : Option SV, ρ = [some (.fz (.lst (ls.map ljD))), some (.fz (.lst (rs.map rowD))), some (.fz (rqD q)), some (.fz (.int (m : Nat))), o, none] ∧ ∀ j, j < k → allFit ls rs q (m + j) = false) ji (pg_name nd rfl (Or.inr rfl)) ⟨none, rfl, fun j hj => by omega⟩ ?_ ?_ PassesOwn.never)
  · rintro k d _ hd ⟨o, rfl, hno⟩
    obtain ⟨rfl, hk⟩ := rangeD_get hd
    refine ⟨_, rfl, ?_⟩
    show JSs _ [] _ [some (.fz (.lst (ls.map ljD))), some (.fz (.lst (rs.map rowD))), some (.fz (rqD q)), some (.fz (.int (m : Nat))), some (.fz (.int ((m : Int) + (k : Int)))), none] _
    rw [show (m : Int) + (k : Int) = ((m + k : Nat) : Int) from by omega]
    refine jss_cons (js_if (t := allFit ls rs q (m + k)) (JT.to (jt_val (jb_all T (bs := ls.map fun l => fitsJ l rs q (m + k)) (ja_cons (J.to (j_lcM (own := [("limit", 5)]) (i := 5) ls ljD (fun l => D.bl (fitsJ l rs q (m + k))) (ji_list (jv 0 rfl)) (blkOk_by (N := nEa) (sc := defScope sEa) (by decide +kernel)) (fun _ _ _ _ _ => pg_name nd rfl (Or.inl rfl)) (lt_size (by omega)) (fun l hl _ _ _ _ _ => j_call cF hr (ja_cons (jv 5 rfl) (ja_cons (jv 1 rfl) (ja_cons (jv 2 rfl) (ja_cons (jv 4 rfl) ja_nil)))) ⟨l, rs, q, m + k, rfl, hls l hl, hlen, rfl⟩ (fun _ h => h)) nd) (by rw [List.map_map]; rfl)) ja_nil))) (by rw [List.all_map]; rfl)) (fun h => ?_) (fun h => jss_nil ?_))
    · refine jss_cons (js_ret (jv 4 rfl) ?_)
      show D.int ((m + k : Nat) : Int) = optN _
      rw [find_at (allFit ls rs q) m hk hno h]; rfl
    · refine jss_nil ⟨_, rfl, fun j hj => ?_⟩
      rcases Nat.lt_or_ge j k with z | z
      · exact hno j z
      · rw [show j = k from by omega]; exact h
  · rintro _ ⟨o, rfl, hno⟩
    refine jss_cons (js_ret j_non ?_)
    show D.non = optN _
    rw [find_none_take]
    · rfl
    · intro x hx
      obtain ⟨j, hj, rfl⟩ := List.mem_map.mp hx
      rw [rangeD_length] at hno
      exact hno j (List.mem_range.mp hj)
end
end Toy

namespace Toy
open PySem PyProof.Rows L2 Pf
def insS (x : Str) : List Str → List Str
  | [] => [x]
  | y :: r => if x.cps.toList < y.cps.toList then x :: y :: r else y :: insS x r
def sortS (xs : List Str) : List Str := xs.foldr insS []
theorem insS_perm (x : Str) : ∀ ys : List Str, (insS x ys).Perm (x :: ys)
  | [] => .refl _
  | y :: r => by
    unfold insS
    split
    · exact .refl _
    · exact ((insS_perm x r).cons y).trans (.swap x y r)
theorem sortS_perm : ∀ xs : List Str, (sortS xs).Perm xs
  | [] => .refl _
  | x :: r => (insS_perm x (sortS r)).trans ((sortS_perm r).cons x)
theorem lt_tri {a b : Str} (h : ¬ ltT a b) (hne : a ≠ b) : ltT b a := by
  unfold ltT at *
  by_cases c : b.cps.toList < a.cps.toList
  · exact c
  · exfalso
    have e : a.cps.toList = b.cps.toList := List.le_antisymm (List.not_lt.mp c) (List.not_lt.mp h)
    refine hne ?_
    have : a.cps = b.cps := Array.toList_inj.mp e
    cases a; cases b; simp at this; rw [this]
theorem insS_asc {x : Str} : ∀ {ys : List Str}, ys.Pairwise ltT → x ∉ ys → (insS x ys).Pairwise ltT
  | [], _, _ => by simp [insS]
  | y :: r, h, hn => by
    rw [List.pairwise_cons] at h
    rw [List.mem_cons, not_or] at hn
    unfold insS
    by_cases c : x.cps.toList < y.cps.toList
    · rw [if_pos c, List.pairwise_cons, List.pairwise_cons]
      refine ⟨fun z hz => ?_, h⟩
      rcases List.mem_cons.mp hz with e | e
      · rw [e]; exact c
      · exact List.lt_trans c (h.1 z e)
    · rw [if_neg c, List.pairwise_cons]
      refine ⟨fun z hz => ?_, insS_asc h.2 hn.2⟩
      rcases List.mem_cons.mp ((insS_perm x r).mem_iff.mp hz) with e | e
      · rw [e]; exact lt_tri c hn.1
      · exact h.1 z e
theorem sortS_asc : ∀ {xs : List Str}, xs.Nodup → (sortS xs).Pairwise ltT
  | [], _ => List.Pairwise.nil
  | x :: r, h => by
    rw [List.nodup_cons] at h
    exact insS_asc (sortS_asc h.2) fun z => h.1 ((sortS_perm r).mem_iff.mp z)
def lackJ (ls : List LJ) (rs : List Row) (q : RqJ) (m : Nat) : List Str := sortS ((ls.filter fun l => !fitsJ l rs q m).map (·.nm))
def rowJ (ls : List LJ) (rs : List Row) (a : Ask) : Row := ⟨a.1, a.2.1, a.2.2.1, a.2.2.2, lackJ ls rs (a.1, a.2.1, (a.2.2.1 : Int)) a.2.2.2, earlJ ls rs (a.1, a.2.1, (a.2.2.1 : Int)) a.2.2.2, false⟩
def relJ (k : Str) (r : Row) : Row := { r with rel := r.rel || (decide (r.key = k) && decide (r.lack.length = 0)) }
def takenJ (ls : List LJ) (rs : List Row) : En → List Row
  | .ask a => rs ++ [rowJ ls rs a]
  | .rel k _ => rs.map (relJ k)
def rowsJ (ls : List LJ) (es : List En) : List Row := es.foldl (takenJ ls) []
theorem takenJ_len (ls : List LJ) (rs : List Row) (e : En) : (takenJ ls rs e).length ≤ rs.length + 1 := by
  cases e with
  | ask a => show (rs ++ [_]).length ≤ _; rw [List.length_append]; exact Nat.le_refl _
  | rel k t => show (rs.map _).length ≤ _; rw [List.length_map]; omega
theorem foldJ_len (ls : List LJ) : ∀ (es : List En) (rs : List Row), (es.foldl (takenJ ls) rs).length ≤ rs.length + es.length
  | [], rs => Nat.le_refl _
  | e :: es, rs => by
    rw [List.foldl_cons, List.length_cons]
    have h1 := foldJ_len ls es (takenJ ls rs e)
    have h2 := takenJ_len ls rs e
    omega
theorem eqv_row {a b : Row} : eqvD (rowD a) (rowD b) = true ↔ a = b := by
  obtain ⟨a1, a2, a3, a4, a5, a6, a7⟩ := a
  obtain ⟨b1, b2, b3, b4, b5, b6, b7⟩ := b
  show (eqvD (.str a1) (.str b1) && (eqvD (.str a2) (.str b2) && (eqvD (.int (a3 : Int)) (.int (b3 : Int)) && (eqvD (.int (a4 : Int)) (.int (b4 : Int)) && (eqvAllD (a5.map D.str) (b5.map D.str) && (eqvD (optN a6) (optN b6) && (eqvD (.bl a7) (.bl b7) && true))))))) = true ↔ _
  rw [eqv_str, eqv_str, eqv_nat, eqv_nat, eqv_strs, eqv_opt, Bool.and_true]
  simp only [Bool.and_eq_true, decide_eq_true_iff]
  constructor
  · rintro ⟨rfl, rfl, rfl, rfl, rfl, rfl, h⟩
    have h : a7 = b7 := by have h : (a7 == b7) = true := h; exact beq_iff_eq.mp h
    rw [h]
  · intro h
    cases h
    refine ⟨rfl, rfl, rfl, rfl, rfl, rfl, ?_⟩
    show (a7 == a7) = true
    exact beq_self_eq_true _
theorem row_fit {r : Row} (h : OkRow r) : fitD 4 (rowD r) = true := by
  have k1 : PySem.PyData.strOk r.key = true := strOk_wd (wd_ky h.key)
  have k2 : PySem.PyData.strOk r.grp = true := strOk_wd (wd_nm h.grp)
  have k3 : fitAllD 2 (r.lack.map D.str) = true := fitStrs 2 _ fun x hx => strOk_wd (wd_nm (h.nms x hx))
  have k4 : fitD 3 (optN r.ear) = true := by cases r.ear <;> rfl
  show (fitD 3 (.str r.key) && (fitD 3 (.str r.grp) && (fitD 3 (.int (r.cost : Int)) && (fitD 3 (.int (r.mom : Int)) && (fitAllD 2 (r.lack.map D.str) && (fitD 3 (optN r.ear) && (fitD 3 (.bl r.rel) && true))))))) = true
  rw [show fitD 3 (.str r.key) = true from k1, show fitD 3 (.str r.grp) = true from k2, k3, k4]; rfl
theorem rows_fit : ∀ {rs : List Row}, (∀ r ∈ rs, OkRow r) → fitAllD 4 (rs.map rowD) = true
  | [], _ => rfl
  | r :: rs, h => by
    show (fitD 4 (rowD r) && fitAllD 4 (rs.map rowD)) = true
    rw [row_fit (h r List.mem_cons_self), rows_fit fun x hx => h x (List.mem_cons_of_mem _ hx)]; rfl
theorem any_given (rs : List Row) (k : Str) (r : Row) (hr : r ∈ rs) : (((rs.filter fun x => decide (x.key = k) && decide (x.lack.length = 0)).map rowD).any fun z => eqvD z (rowD r)) = (decide (r.key = k) && decide (r.lack.length = 0)) := by
  rw [List.any_map, Bool.eq_iff_iff, List.any_eq_true]
  constructor
  · rintro ⟨x, hx, h⟩
    have h : eqvD (rowD x) (rowD r) = true := h
    rw [← eqv_row.mp h]
    exact (List.mem_filter.mp hx).2
  · intro h
    exact ⟨r, List.mem_filter.mpr ⟨hr, h⟩, eqv_row.mpr rfl⟩
theorem lack_ok {ls : List LJ} (h : OkLs ls) (rs : List Row) (q : RqJ) (m : Nat) : (∀ z ∈ lackJ ls rs q m, isNm z = true) ∧ (lackJ ls rs q m).length ≤ 3 ∧ (lackJ ls rs q m).Pairwise ltT := by
  have hp := sortS_perm ((ls.filter fun l => !fitsJ l rs q m).map (·.nm))
  refine ⟨fun z hz => ?_, ?_, sortS_asc ?_⟩
  · obtain ⟨l, hl, rfl⟩ := List.mem_map.mp (hp.mem_iff.mp hz)
    exact (h.ok l (List.mem_filter.mp hl).1).nm
  · show (sortS _).length ≤ 3
    rw [hp.length_eq, List.length_map]
    exact Nat.le_trans (List.length_filter_le _ _) h.few
  · exact h.nd.sublist (List.filter_sublist.map _)
theorem earl_lt {ls : List LJ} {rs : List Row} {q : RqJ} {m n : Nat} (h : earlJ ls rs q m = some n) : m ≤ n ∧ n < m + 130 ∧ allFit ls rs q n = true := by
  unfold earlJ at h
  split at h
  · cases h
  · have h1 := List.find?_some h
    obtain ⟨j, hj, rfl⟩ := List.mem_map.mp (List.mem_of_find?_eq_some h)
    have := List.mem_range.mp hj
    exact ⟨by omega, by omega, h1⟩
theorem row_ok {ls : List LJ} (h : OkLs ls) (rs : List Row) {a : Ask} (ha : OkAsk a) : OkRow (rowJ ls rs a) := by
  obtain ⟨h1, h2, h3⟩ := lack_ok h rs (a.1, a.2.1, (a.2.2.1 : Int)) a.2.2.2
  refine ⟨ha.key, ha.grp, ha.cost, ha.mom, h1, Nat.le_trans h2 (by decide), fun n hn => ?_⟩
  have := earl_lt hn
  have := ha.mom
  omega
theorem rel_ok {k : Str} {r : Row} (h : OkRow r) : OkRow (relJ k r) := ⟨h.key, h.grp, h.cost, h.mom, h.nms, h.few, h.ear⟩
theorem taken_ok {ls : List LJ} (h : OkLs ls) {rs : List Row} {e : En} (hr : ∀ r ∈ rs, OkRow r) (he : OkEn e) : ∀ r ∈ takenJ ls rs e, OkRow r := by
  cases e with
  | ask a =>
    intro r hm
    rcases List.mem_append.mp hm with q | q
    · exact hr r q
    · rw [List.mem_singleton.mp q]; exact row_ok h rs he
  | rel k t =>
    intro r hm
    obtain ⟨x, hx, rfl⟩ := List.mem_map.mp hm
    exact rel_ok (hr x hx)
theorem foldJ_ok {ls : List LJ} (h : OkLs ls) : ∀ {es : List En} {rs : List Row}, (∀ r ∈ rs, OkRow r) → (∀ e ∈ es, OkEn e) → ∀ r ∈ es.foldl (takenJ ls) rs, OkRow r
  | [], _, hr, _ => hr
  | e :: es, rs, hr, he => by
    rw [List.foldl_cons]
    exact foldJ_ok h (taken_ok h hr (he e List.mem_cons_self)) fun x hx => he x (List.mem_cons_of_mem _ hx)
section
variable {P : Program} {w : World} {K : PySem.W.Frag} {mg : Str → Option Value} {base : Heap}
abbrev nTa : List Str := ["limits", "rows", "entry", "given", "request", "lacking", "earliest", "row", "limit"]
abbrev sTa : Stmt := top 83
theorem scTa : FnScope nTa ["limits", "rows", "entry"] (defScope sTa) := ⟨rfl, rfl, rfl, by decide +kernel, rfl, by decide +kernel, by decide +kernel⟩
def gTa : List D → (D → Prop) → Prop := fun ds P => ∃ (ls : List LJ) (rs : List Row) (e : En), ds = [.lst (ls.map ljD), .lst (rs.map rowD), enD e] ∧ OkLs ls ∧ (∀ r ∈ rs, OkRow r) ∧ OkEn e ∧ rs.length ≤ 3900 ∧ P = fun d => d = .lst ((takenJ ls rs e).map rowD)
theorem ok_ta {f : Addr} {fd : FuncData} (F : Fun K "_law_taken" "_law_taken" sTa f fd) (T : Bt mg) (cF : PFn P w K mg base 2 "_law_fits" 4 gFt) (cE : PFn P w K mg base 4 "_law_earliest" 4 gEa) : FnOk P w K mg base CX0 5 f fd ["limits", "rows", "entry"] (spP K 3 gTa) := by
  refine fn_pure F scTa (by rintro ds Pd ⟨_, _, _, rfl, _⟩; rfl) fun cdv A outer s H E ds Pd hr hG => ?_
  obtain ⟨ls, rs, e, rfl, hls, hrs, he, hl, rfl⟩ := hG
  have nd := scTa.nd
  have few := hls.few
  have lenT : ∀ r : Row, lenD (.tup (r.lack.map D.str)) = some r.lack.length := fun r => by show some _ = _; rw [List.length_map]
  cases e with
  | rel k t =>
    refine jss_cons (js_ifT (JT.to (jt_cm (j_ix (J.to (jv 2 rfl) (d' := .tup [.str "release", .str k, .int (t : Nat)]) rfl) j_int (ixd_T (d := .str "release") rfl)) j_str cd_eqS) (decide_eq_true rfl)) ?_)
    refine jss_cons (js_set (i := 3) (j_lcN (own := [("row", 7)]) (i := 7) rs rowD (fun r => decide (r.key = k) && decide (r.lack.length = 0)) rowD (ji_list (jv 1 rfl)) (blkOk_by (N := nTa) (sc := defScope sTa) (by decide +kernel)) (fun _ _ _ _ _ => pg_name nd rfl (Or.inl rfl)) (lt_size (by omega)) (fun r _ _ _ _ _ _ => ⟨jts_one (JT.to (jt_w (jw_and (jt_cm (j_ix (jv 7 rfl) j_int (ixd_T (d := .str r.key) rfl)) (j_ix (J.to (jv 2 rfl) (d' := .tup [.str "release", .str k, .int (t : Nat)]) rfl) j_int (ixd_T (d := .str k) rfl)) cd_eqS) (fun _ => jw_and1 (jt_cm (jb_len T (ja_cons (j_ix (jv 7 rfl) j_int (ixd_T (d := .tup (r.lack.map D.str)) rfl)) ja_nil) (lenT r)) j_int cd_eqI)))) (congrArg (fun b => _ && b) (decide_eq_decide.mpr ⟨fun q => by omega, fun q => by omega⟩))), fun _ => jv 7 rfl⟩) nd) ?_ nd)
    refine jss_cons (js_ret (j_lcM (own := [("row", 7)]) (i := 7) rs rowD (fun r => rowD (relJ k r)) (ji_list (jv 1 rfl)) (blkOk_by (N := nTa) (sc := defScope sTa) (by decide +kernel)) (fun _ _ _ _ _ => pg_name nd rfl (Or.inl rfl)) (lt_size (by omega)) (fun r hm _ _ _ _ _ => J.to (j_bin (J.to (j_sl (jv 7 rfl) jo_none (jo_some j_int) sld_T) (d' := .tup [.str r.key, .str r.grp, .int (r.cost : Nat), .int (r.mom : Nat), .tup (r.lack.map D.str), optN r.ear]) rfl) (j_tup (ja_cons (j_or (j_ix (jv 7 rfl) j_int (ixd_T (d := .bl r.rel) rfl)) (fun _ => j_one (J.to (j_cm (jv 7 rfl) (jv 3 rfl) (cd_inDeep 4 (units65 hr) (row_fit (hrs r hm)) (rows_fit fun x hx => hrs x (List.mem_filter.mp hx).1))) (congrArg D.bl (any_given rs k r hm))))) ja_nil)) (od_addT (le_size (by simp only [List.length_cons, List.length_nil]; omega)))) rfl) nd) ?_)
    show D.lst _ = D.lst ((rs.map (relJ k)).map rowD)
    rw [List.map_map]; rfl
  | ask a =>
    have ha : OkAsk a := he
    have hm := ha.mom
    refine jss_cons (js_ifF (JT.to (jt_cm (j_ix (J.to (jv 2 rfl) (d' := .tup (enL (.ask a))) rfl) j_int (ixd_T (d := .str "ask") rfl)) j_str cd_eqS) (decide_eq_false (by decide +kernel))) (jss_nil ?_))
    refine jss_cons (js_set (i := 4) (J.to (j_sl (J.to (jv 2 rfl) (d' := .tup (enL (.ask a))) rfl) (jo_some j_int) (jo_some j_int) sld_T) (d' := rqD (a.1, a.2.1, (a.2.2.1 : Int))) rfl) ?_ nd)
    refine jss_cons (js_setP (i := 5) (jp_N (jnp_sortedS T (xs := (ls.filter fun l => !fitsJ l rs (a.1, a.2.1, (a.2.2.1 : Int)) a.2.2.2).map (·.nm)) (J.to (j_lcN (own := [("limit", 8)]) (i := 8) ls ljD (fun l => !fitsJ l rs (a.1, a.2.1, (a.2.2.1 : Int)) a.2.2.2) (fun l => D.str l.nm) (ji_list (jv 0 rfl)) (blkOk_by (N := nTa) (sc := defScope sTa) (by decide +kernel)) (fun _ _ _ _ _ => pg_name nd rfl (Or.inl rfl)) (lt_size (by omega)) (fun l hl _ _ _ _ _ => ⟨jts_one (jt_not (jt_val (j_call cF hr (ja_cons (jv 8 rfl) (ja_cons (jv 1 rfl) (ja_cons (jv 4 rfl) (ja_cons (j_ix (J.to (jv 2 rfl) (d' := .tup (enL (.ask a))) rfl) j_int (ixd_T (d := .int (a.2.2.2 : Nat)) rfl)) ja_nil)))) ⟨l, rs, _, a.2.2.2, rfl, hls.ok l hl, by omega, rfl⟩ (fun _ h => h)))), fun _ => j_ix (jv 8 rfl) j_int (ixd_T (d := .str l.nm) rfl)⟩) nd) (by rw [List.map_map]; rfl)) (by rw [List.length_map]; exact Nat.lt_of_le_of_lt (List.length_filter_le _ _) (by omega)))) ?_ nd)
    rintro _ ⟨_, ⟨ys, rfl, hp, hasc⟩, rfl⟩
    have hnd : ((ls.filter fun l => !fitsJ l rs (a.1, a.2.1, (a.2.2.1 : Int)) a.2.2.2).map (·.nm)).Nodup := hls.nd.sublist (List.filter_sublist.map _)
    have eys : ys = lackJ ls rs (a.1, a.2.1, (a.2.2.1 : Int)) a.2.2.2 := asc_eq (hp.trans (sortS_perm _).symm) (hasc hnd) (sortS_asc hnd)
    subst eys
    refine jss_cons (js_set (i := 6) (j_call cE hr (ja_cons (jv 0 rfl) (ja_cons (jv 1 rfl) (ja_cons (jv 4 rfl) (ja_cons (j_ix (J.to (jv 2 rfl) (d' := .tup (enL (.ask a))) rfl) j_int (ixd_T (d := .int (a.2.2.2 : Nat)) rfl)) ja_nil)))) ⟨ls, rs, _, a.2.2.2, rfl, hls.ok, by omega, by omega, by omega, rfl⟩ (fun _ h => h)) ?_ nd)
    refine jss_cons (js_ret (j_bin (jv 1 rfl) (j_lst (ja_cons (j_bin (J.to (j_sl (J.to (jv 2 rfl) (d' := .tup (enL (.ask a))) rfl) (jo_some j_int) jo_none sld_T) (d' := .tup (askL a)) rfl) (j_tup (ja_cons (jb_tupleL T (ja_cons (jv 5 rfl) ja_nil)) (ja_cons (jv 6 rfl) (ja_cons j_bl ja_nil)))) (od_addT (le_size (by simp only [askL, List.length_cons, List.length_nil]; omega)))) ja_nil)) (od_addL (by rw [List.length_map]; exact le_size (by simp only [List.length_cons, List.length_nil]; omega)))) ?_)
    show D.lst (rs.map rowD ++ [rowD (rowJ ls rs a)]) = D.lst ((rs ++ [rowJ ls rs a]).map rowD)
    rw [List.map_append]; rfl
abbrev sRs : Stmt := top 84
theorem scRs : FnScope ["limits", "entries", "rows", "entry"] ["limits", "entries"] (defScope sRs) := ⟨rfl, rfl, rfl, by decide +kernel, rfl, by decide +kernel, by decide +kernel⟩
def gRs : List D → (D → Prop) → Prop := fun ds P => ∃ (ls : List LJ) (es : List En), ds = [.lst (ls.map ljD), .lst (es.map enD)] ∧ OkLs ls ∧ (∀ e ∈ es, OkEn e) ∧ es.length ≤ 3000 ∧ P = fun d => d = .lst ((rowsJ ls es).map rowD)
theorem ok_rs {f : Addr} {fd : FuncData} (F : Fun K "_law_rows" "_law_rows" sRs f fd) (cT : PFn P w K mg base 5 "_law_taken" 3 gTa) : FnOk P w K mg base CX0 6 f fd ["limits", "entries"] (spP K 2 gRs) := by
  refine fn_pure F scRs (by rintro ds Pd ⟨_, _, rfl, _⟩; rfl) fun cdv A outer s H E ds Pd hr hG => ?_
  obtain ⟨ls, es, rfl, hls, hes, hl, rfl⟩ := hG
  have nd := scRs.nd
  refine jss_cons (js_set (i := 2) (j_lst ja_nil) ?_ nd)
  refine jss_cons (js_each (i := 3) es enD (fun k ρ => ∃ o : Option SV, ρ = [some (.fz (.lst (ls.map ljD))), some (.fz (.lst (es.map enD))), some (.fz (.lst (((es.take k).foldl (takenJ ls) []).map rowD))), o]) (ji_list (jv 1 rfl)) nd ⟨none, rfl⟩ ?_ ?_)
  · rintro k e _ hx ⟨o, rfl⟩
    have hk := (List.getElem?_eq_some_iff.mp hx).1
    have h1 := foldJ_len ls (es.take k) []
    rw [List.length_take, List.length_nil] at h1
    refine jss_cons (js_set (i := 2) (j_call cT hr (ja_cons (jv 0 rfl) (ja_cons (jv 2 rfl) (ja_cons (jv 3 rfl) ja_nil))) ⟨ls, _, e, rfl, hls, foldJ_ok hls (fun _ h => by cases h) fun x hx2 => hes x (List.mem_of_mem_take hx2), hes e (List.mem_of_getElem? hx), by omega, rfl⟩ (fun _ h => h)) ?_ nd)
    refine jss_nil ⟨some (.fz (enD e)), ?_⟩
    rw [foldl_take (takenJ ls) [] es hx]; rfl
  · rintro _ ⟨o, rfl⟩
    rw [List.take_length]
    exact jss_cons (js_ret (jv 2 rfl) rfl)
end
end Toy

namespace Toy
open PySem PyProof.Rows L2 Pf
def pcOk (z : Str) : Prop := ∀ c ∈ z.cps.toList, 32 ≤ c ∧ c ≤ 126
theorem pc_num (n : Nat) : pcOk (numT n) := fun c hc => by have := numS_dig n c hc; omega
theorem pc_nm {z : Str} (h : isNm z = true) : pcOk z := fun c hc => by have := nm_range (nm_all h c hc); omega
theorem pc_ky {z : Str} (h : isKy z = true) : pcOk z := fun c hc => by have := ky_range (ky_all h c hc); omega
theorem pc_word {o : Option Nat} {z : Str} (h : pcOk z) : pcOk (wordF o z) := by
  cases o with
  | none => exact h
  | some n => exact pc_num n
theorem pc_lit {z : Str} (h : (z.cps.toList.all fun c => decide (32 ≤ c) && decide (c ≤ 126)) = true) : pcOk z := fun c hc => by
  have := List.all_eq_true.mp h c hc
  rw [Bool.and_eq_true, decide_eq_true_iff, decide_eq_true_iff] at this
  exact this
theorem pc_join {y : Str} {xs : List Str} (hy : pcOk y) (h : ∀ x ∈ xs, pcOk x) : pcOk (Txt.join y xs) := fun c hc => by
  rcases mem_join hc with q | ⟨x, hx, q⟩
  · exact hy c q
  · exact h x hx c q
theorem pc_sp : pcOk " " := pc_lit (by decide +kernel)
theorem isB_pc {z : Str} (h : pcOk z) (h1 : 1 ≤ z.length) (h2 : z.length ≤ 700) : R39.isB z.cps.toList = true := by
  have e : z.cps.toList.length = z.length := Array.length_toList
  exact R39.isB_of (by omega) (by omega) h
def zB (z : Str) : List Nat := z.cps.toList
theorem zB_tx (z : Str) : tx (zB z) = z := tx_of z
theorem join_pos {w : Str} {ws : List Str} (h : 1 ≤ w.length) : 1 ≤ (Txt.join " " (w :: ws)).length := Nat.le_trans h (le_join " " List.mem_cons_self)
theorem sp_len : (" " : Str).length = 1 := by decide +kernel
theorem isB_en {e : En} (h : OkEn e) : R39.isB (zB (ebody e)) = true := by
  obtain ⟨w1, w2⟩ := en_wds h
  have h3 := join_len " " (wds (enL e))
  have h4 := sum_le w1
  rw [sp_len] at h3
  have h5 : (wds (enL e)).length * 20 ≤ 5 * 20 := Nat.mul_le_mul_right _ w2
  refine isB_pc (pc_join pc_sp fun x hx => ?_) ?_ (by show (Txt.join " " (wds (enL e))).length ≤ 700; omega)
  · cases e with
    | ask a =>
      have h : OkAsk a := h
      simp only [wds, enL, askL, List.map_cons, List.map_nil, List.mem_cons, List.not_mem_nil, or_false] at hx
      rcases hx with rfl | rfl | rfl | rfl | rfl
      · exact pc_lit (by decide +kernel)
      · exact pc_ky h.key
      · exact pc_nm h.grp
      · exact pc_num a.2.2.1
      · exact pc_num a.2.2.2
    | rel k t =>
      have h : isKy k = true ∧ t ≤ 1000000000 := h
      simp only [wds, enL, List.map_cons, List.map_nil, List.mem_cons, List.not_mem_nil, or_false] at hx
      rcases hx with rfl | rfl | rfl
      · exact pc_lit (by decide +kernel)
      · exact pc_ky h.1
      · exact pc_num t
  · cases e with
    | ask a => exact join_pos (w := "ask") (by decide +kernel)
    | rel k t => exact join_pos (w := "release") (by decide +kernel)
theorem isB_row {r : Row} (h : OkRow r) : R39.isB (zB (rbody r)) = true := by
  have hl := join_le h.lackL
  have h1 := ky_len h.key
  have h2 := nm_len h.grp
  have h3 := numT_len (n := r.cost) (by have := h.cost.2; omega)
  have h4 := numT_len (n := r.mom) (by have := h.mom; omega)
  have h5 := wordF_len (o := r.ear) (z := "never") (fun n e => Nat.lt_trans (h.ear n e) (by decide)) (by decide +kernel)
  have hj := join_len " " (rwords r)
  rw [sp_len] at hj
  have k1 : ("key" : Str).length = 3 := by decide +kernel
  have k2 : ("refused" : Str).length = 7 := by decide +kernel
  have k3 : (if r.rel = true then ("back" : Str) else "let").length ≤ 4 := by split <;> decide +kernel
  have hs : ((rwords r).map (·.length)).sum + (rwords r).length * 1 ≤ 600 := by
    unfold rwords tailR
    split
    · simp only [List.cons_append, List.nil_append, List.map_cons, List.map_nil, List.sum_cons, List.sum_nil, List.length_cons, List.length_nil]
      omega
    · simp only [List.cons_append, List.nil_append, List.map_cons, List.map_nil, List.sum_cons, List.sum_nil, List.length_cons, List.length_nil]
      omega
  refine isB_pc (pc_join pc_sp fun x hx => ?_) (join_pos (w := "key") (by decide +kernel)) (by show (Txt.join " " (rwords r)).length ≤ 700; omega)
  unfold rwords tailR at hx
  have base : ∀ x ∈ ([("key" : Str), r.key, r.grp, numT r.cost, numT r.mom] : List Str), pcOk x := fun x hx => by
    simp only [List.mem_cons, List.not_mem_nil, or_false] at hx
    rcases hx with rfl | rfl | rfl | rfl | rfl
    · exact pc_lit (by decide +kernel)
    · exact pc_ky h.key
    · exact pc_nm h.grp
    · exact pc_num _
    · exact pc_num _
  rcases List.mem_append.mp hx with q | q
  · exact base x q
  · split at q
    · rw [List.mem_singleton.mp q]
      split
      · exact pc_lit (by decide +kernel)
      · exact pc_lit (by decide +kernel)
    · simp only [List.mem_cons, List.not_mem_nil, or_false] at q
      rcases q with rfl | rfl | rfl
      · exact pc_lit (by decide +kernel)
      · exact pc_word (pc_lit (by decide +kernel))
      · exact pc_join (pc_lit (by decide +kernel)) fun z hz => pc_nm (h.nms z hz)
theorem isB_view {v : View} (h : GdV v) : R39.isB (zB (vbody v)) = true := by
  obtain ⟨w1, w2⟩ := h.ok.words
  have hj := join_len " " ("view" :: vwords v)
  rw [sp_len] at hj
  have h4 := sum_le w1
  have h5 : (vwords v).length * 20 ≤ 22 * 20 := Nat.mul_le_mul_right _ w2
  have k1 : ("view" : Str).length = 4 := by decide +kernel
  rw [List.map_cons, List.sum_cons, List.length_cons, k1] at hj
  refine isB_pc (pc_join pc_sp fun x hx => ?_) (join_pos (w := "view") (by decide +kernel)) (by show (Txt.join " " ("view" :: vwords v)).length ≤ 700; omega)
  rcases List.mem_cons.mp hx with rfl | hx
  · exact pc_lit (by decide +kernel)
  unfold vwords at hx
  rcases List.mem_cons.mp hx with rfl | hx
  · exact pc_num _
  · rcases List.mem_cons.mp hx with rfl | hx
    · exact pc_word (pc_lit (by decide +kernel))
    · exact pc_nm (h.nms.nm x hx)
theorem isB_head {a b : Nat} {m : Option Nat} {v : Option View} (h : GdH a b m v) : R39.isB (zB (hbody a b m v)) = true := by
  obtain ⟨w1, w2⟩ := h.ok.words
  have hj := join_len " " (hwords a b m v)
  rw [sp_len] at hj
  have h4 := sum_le w1
  have h5 : (hwords a b m v).length * 20 ≤ 26 * 20 := Nat.mul_le_mul_right _ w2
  refine isB_pc (pc_join pc_sp fun x hx => ?_) ?_ (by show (Txt.join " " (hwords a b m v)).length ≤ 700; omega)
  · rw [hwords_eq] at hx
    simp only [List.mem_cons] at hx
    rcases hx with rfl | rfl | rfl | rfl | hx
    · exact pc_lit (by decide +kernel)
    · exact pc_num _
    · exact pc_num _
    · exact pc_word (pc_lit (by decide +kernel))
    · cases v with
      | none => cases hx
      | some v =>
        unfold vtail at hx
        unfold vwords at hx
        rcases List.mem_cons.mp hx with rfl | hx
        · exact pc_num _
        · rcases List.mem_cons.mp hx with rfl | hx
          · exact pc_word (pc_lit (by decide +kernel))
          · exact pc_nm ((h.vw v rfl).nms.nm x hx)
  · unfold hbody
    rw [hwords_eq]
    exact join_pos (w := "keep") (by decide +kernel)
def bodT : Tk → List (List Nat)
  | .en e => [zB (ebody e)]
  | .vw v => [zB (vbody v)]
  | .kp h rs => zB (hbody h.1 h.2.1 h.2.2.1 h.2.2.2) :: rs.map fun r => zB (rbody r)
def GdTk : Tk → Prop
  | .en e => OkEn e
  | .vw v => GdV v
  | .kp h rs => GdH h.1 h.2.1 h.2.2.1 h.2.2.2 ∧ h.1 = rs.length ∧ ∀ r ∈ rs, GdR r
theorem bodT_isB {t : Tk} (h : GdTk t) : ∀ x ∈ bodT t, R39.isB x = true := by
  intro x hx
  cases t with
  | en e => rw [List.mem_singleton.mp hx]; exact isB_en h
  | vw v => rw [List.mem_singleton.mp hx]; exact isB_view h
  | kp hd rs =>
    have h : GdH hd.1 hd.2.1 hd.2.2.1 hd.2.2.2 ∧ hd.1 = rs.length ∧ ∀ r ∈ rs, GdR r := h
    rcases List.mem_cons.mp hx with rfl | hx
    · exact isB_head h.1
    · obtain ⟨r, hr, rfl⟩ := List.mem_map.mp hx
      exact isB_row (h.2.2 r hr).ok
theorem bdz_en {e : En} (h : OkEn e) : bdOf (tx (zB (ebody e))) = some (.en e) := by
  rw [zB_tx]
  exact bdOf_of (body_entry (en_ent h))
theorem bdz_vw {v : View} (h : GdV v) : bdOf (tx (zB (vbody v))) = some (.vw v) := by
  rw [zB_tx]
  exact bdOf_of (body_view h)
theorem bdz_hd {h : Hd4} (g : GdH h.1 h.2.1 h.2.2.1 h.2.2.2) : bdOf (tx (zB (hbody h.1 h.2.1 h.2.2.1 h.2.2.2))) = some (.hd h) := by
  rw [zB_tx]
  exact bdOf_of (body_head g)
theorem bdz_row {r : Row} (h : GdR r) : bdOf (tx (zB (rbody r))) = some (.row r) := by
  rw [zB_tx]
  exact bdOf_of (body_row h)
theorem bdR_mk (q : Rec) {z : List Nat} (h : q.2 = z) : bdR q = bdOf (tx z) := by unfold bdR; rw [h]
theorem map_rows_some : ∀ {xs : List Rec} {rs : List Row}, xs.map (·.2) = rs.map (fun r => zB (rbody r)) → (∀ r ∈ rs, GdR r) → xs.map (fun q => rowB (bdR q)) = rs.map some
  | [], [], _, _ => rfl
  | [], _ :: _, h, _ => by cases h
  | _ :: _, [], h, _ => by cases h
  | q :: xs, r :: rs, h, hg => by
    rw [List.map_cons, List.map_cons, List.cons.injEq] at h
    rw [List.map_cons, List.map_cons, map_rows_some h.2 fun x hx => hg x (List.mem_cons_of_mem _ hx), bdR_mk q h.1, bdz_row (hg r List.mem_cons_self)]
    rfl
theorem unit_bod {t : Tk} (h : GdTk t) {rs : List Rec} {rest : List (List Nat)} (hr : rs.map (·.2) = bodT t ++ rest) : unitL rs = some (t, (bodT t).length) := by
  cases t with
  | en e =>
    cases rs with
    | nil => cases hr
    | cons q qs =>
      have hq : q.2 = zB (ebody e) := by injection hr
      show unitB (bdR q) qs = _
      rw [bdR_mk q hq, bdz_en h]; rfl
  | vw e =>
    cases rs with
    | nil => cases hr
    | cons q qs =>
      have hq : q.2 = zB (vbody e) := by injection hr
      show unitB (bdR q) qs = _
      rw [bdR_mk q hq, bdz_vw h]; rfl
  | kp hd rw0 =>
    have h : GdH hd.1 hd.2.1 hd.2.2.1 hd.2.2.2 ∧ hd.1 = rw0.length ∧ ∀ r ∈ rw0, GdR r := h
    cases rs with
    | nil => cases hr
    | cons q qs =>
      have hq : q.2 = zB (hbody hd.1 hd.2.1 hd.2.2.1 hd.2.2.2) := by injection hr
      have hqs : qs.map (·.2) = rw0.map (fun r => zB (rbody r)) ++ rest := by injection hr
      have ht : (qs.take hd.1).map (·.2) = rw0.map fun r => zB (rbody r) := by
        rw [List.map_take, hqs, h.2.1, List.take_left' (by rw [List.length_map])]
      have hs := map_rows_some ht h.2.2
      have hlen : (qs.take hd.1).length = hd.1 := by
        have := congrArg List.length ht
        rw [List.length_map, List.length_map] at this
        omega
      show unitB (bdR q) qs = _
      rw [bdR_mk q hq, bdz_hd h.1]
      show (if ((qs.take hd.1).length < hd.1 ∨ ((qs.take hd.1).map fun q => (rowB (bdR q)).isSome).all id = false) then none else some (Tk.kp hd ((qs.take hd.1).filterMap fun q => rowB (bdR q)), 1 + hd.1)) = _
      have e1 : (qs.take hd.1).map (fun q => (rowB (bdR q)).isSome) = rw0.map fun _ => true := by
        rw [show (fun q => (rowB (bdR q)).isSome) = Option.isSome ∘ (fun q => rowB (bdR q)) from rfl, ← List.map_map, hs, List.map_map]; rfl
      have e2 : (qs.take hd.1).filterMap (fun q => rowB (bdR q)) = rw0 := by
        have : (qs.take hd.1).filterMap (fun q => rowB (bdR q)) = ((qs.take hd.1).map fun q => rowB (bdR q)).filterMap id := by rw [List.filterMap_map]; rfl
        rw [this, hs, List.filterMap_map]
        exact List.filterMap_some
      rw [e1, e2, if_neg]
      · show some (Tk.kp hd rw0, 1 + hd.1) = some (Tk.kp hd rw0, (_ :: rw0.map _).length)
        rw [List.length_cons, List.length_map, h.2.1, Nat.add_comm]
      · rintro (z | z)
        · omega
        · rw [List.all_map] at z
          have : (rw0.all (id ∘ fun _ => true)) = true := List.all_eq_true.mpr fun _ _ => rfl
          rw [this] at z; cases z
def GoodC : PS → List Tk → Prop
  | _, [] => True
  | p, t :: ts => fitsP p t = true ∧ GoodC (takeP p t) ts
theorem goodC_app : ∀ {p : PS} {ts us : List Tk}, GoodC p (ts ++ us) ↔ GoodC p ts ∧ GoodC (ts.foldl takeP p) us
  | p, [], us => ⟨fun h => ⟨trivial, h⟩, fun h => h.2⟩
  | p, t :: ts, us => ⟨fun h => ⟨⟨h.1, (goodC_app.mp h.2).1⟩, (goodC_app.mp h.2).2⟩, fun h => ⟨h.1.1, goodC_app.mpr ⟨h.1.2, h.2⟩⟩⟩
def bodsT (ts : List Tk) : List (List Nat) := (ts.map bodT).flatten
theorem bodsT_cons (t : Tk) (ts : List Tk) : bodsT (t :: ts) = bodT t ++ bodsT ts := rfl
theorem bodsT_app (ts us : List Tk) : bodsT (ts ++ us) = bodsT ts ++ bodsT us := by unfold bodsT; rw [List.map_append, List.flatten_append]
def entsT (ts : List Tk) : List En := (ts.map entT).flatten
structure EndJ (s0 s : JS) (ts : List Tk) : Prop where
  ents : s.ents = s0.ents ++ entsT ts
  past : s.past = ts.foldl takeP s0.past
  bods : s.bods = s0.bods ++ bodsT ts
theorem takeL_run : ∀ {ts : List Tk} {f : Nat} {rs : List Rec} {tail : List (List Nat)} {fst : Bool} {s : JS}, rs.map (·.2) = bodsT ts ++ tail → rs.length ≤ f → (∀ t ∈ ts, GdTk t) → GoodC s.past ts → (∀ rs' : List Rec, rs'.map (·.2) = tail → unitL rs' = none) → (fst = true → (rs.head?.map (·.1)).getD 0 = 0 ∨ ∀ t, ts.head? = some t → isKp t = true) → EndJ s (takeL f rs fst s) ts ∧ (fst = false ∨ ts = [] → (takeL f rs fst s).first = s.first) ∧ (fst = true → ts ≠ [] → (takeL f rs fst s).first = (rs.head?.map (·.1)).getD 0)
  | [], f, rs, tail, fst, s, hr, hf, hg, hc, ht, h0 => by
    have e : takeL f rs fst s = s := by
      cases f with
      | zero => rfl
      | succ n =>
        unfold takeL
        rw [ht rs (by simpa [bodsT] using hr)]
    rw [e]
    exact ⟨⟨(List.append_nil _).symm, rfl, (List.append_nil _).symm⟩, fun _ => rfl, fun _ h => absurd rfl h⟩
  | t :: ts, f, rs, tail, fst, s, hr, hf, hg, hc, ht, h0 => by
    rw [bodsT_cons, List.append_assoc] at hr
    have hu := unit_bod (hg t List.mem_cons_self) hr
    have hpos : 1 ≤ (bodT t).length := by cases t <;> simp [bodT]
    have hlen : (bodT t).length ≤ rs.length := by
      have := congrArg List.length hr
      rw [List.length_map, List.length_append] at this
      omega
    obtain ⟨n, rfl⟩ : ∃ n, f = n + 1 := ⟨f - 1, by omega⟩
    have hd : (rs.drop (bodT t).length).map (·.2) = bodsT ts ++ tail := by
      rw [List.map_drop, hr, List.drop_left' rfl]
    have htk : (rs.take (bodT t).length).map (·.2) = bodT t := by
      rw [List.map_take, hr, List.take_left' rfl]
    have hz : (fst && (!isKp t && !decide (((rs.head?.map (·.1)).getD 0) = 0))) = false := by
      cases fst with
      | false => rfl
      | true =>
        rcases h0 rfl with z | z
        · rw [z]; simp
        · rw [z t rfl]; rfl
    have e : takeL (n + 1) rs fst s = takeL n (rs.drop (bodT t).length) false (putJ (if fst = true then { s with first := (rs.head?.map (·.1)).getD 0 } else s) t (bodT t)) := by
      conv => lhs; unfold takeL
      rw [hu]
      show (if fitsP s.past t = true then _ else s) = _
      rw [if_pos hc.1, if_neg (by rw [hz]; decide), htk]
    rw [e]
    have hp : (putJ (if fst = true then { s with first := (rs.head?.map (·.1)).getD 0 } else s) t (bodT t)).past = takeP s.past t := by cases fst <;> rfl
    have he : (putJ (if fst = true then { s with first := (rs.head?.map (·.1)).getD 0 } else s) t (bodT t)).ents = s.ents ++ entT t := by cases fst <;> rfl
    have hb : (putJ (if fst = true then { s with first := (rs.head?.map (·.1)).getD 0 } else s) t (bodT t)).bods = s.bods ++ bodT t := by cases fst <;> rfl
    have hfi : (putJ (if fst = true then { s with first := (rs.head?.map (·.1)).getD 0 } else s) t (bodT t)).first = if fst = true then (rs.head?.map (·.1)).getD 0 else s.first := by cases fst <;> rfl
    obtain ⟨r1, r2, r3⟩ := takeL_run (f := n) (fst := false) (s := putJ (if fst = true then { s with first := (rs.head?.map (·.1)).getD 0 } else s) t (bodT t)) hd (by rw [List.length_drop]; omega) (fun x hx => hg x (List.mem_cons_of_mem _ hx)) (by rw [hp]; exact hc.2) ht (fun z => by cases z)
    refine ⟨⟨?_, ?_, ?_⟩, fun z => ?_, fun z _ => ?_⟩
    · rw [r1.ents, he, List.append_assoc]; rfl
    · rw [r1.past, hp]; rfl
    · rw [r1.bods, hb, List.append_assoc]; rfl
    · rw [r2 (.inl rfl), hfi]
      rcases z with z | z
      · rw [z]; rfl
      · cases z
    · rw [r2 (.inl rfl), hfi, z]; rfl
end Toy

namespace Toy
open PySem PyProof.Rows L2 Pf
theorem costs_nn : ∀ rs : List Row, 0 ≤ (costs rs).sum
  | [] => Int.le_refl _
  | r :: rs => by
    have := costs_nn rs
    show 0 ≤ (r.cost : Int) + (costs rs).sum
    omega
theorem fits_never {l : LJ} (hl : OkLJ l) {rs : List Row} {q : RqJ} {m : Nat} (h : fitsJ l rs q m = true) : neverJ l rs q m = false := by
  obtain ⟨nm, gs, k⟩ := l
  have hk : OkK k := hl.k
  cases hs : looksL ⟨nm, gs, k⟩ q.2.1 with
  | false =>
    cases k <;> (first | rfl | (unfold neverJ; dsimp only; rw [hs, Bool.false_and]))
  | true =>
    have h2 : fitsK ⟨nm, gs, k⟩ rs q m k = true := by
      unfold fitsJ at h
      rw [if_neg (by rw [hs]; decide)] at h
      exact h
    cases k with
    | gap b => rfl
    | held a => show (looksL _ _ && !fitsJ _ _ _ _) = false; rw [h, hs]; rfl
    | pool a sh => show (looksL _ _ && !fitsJ _ _ _ _) = false; rw [h, hs]; rfl
    | win a b =>
      have h3 : q.2.2 + (costs ((letJ ⟨nm, gs, .win a b⟩ rs).filter fun r => decide ((m : Int) - b < (r.mom : Int)))).sum ≤ a := of_decide_eq_true h2
      have := costs_nn ((letJ ⟨nm, gs, .win a b⟩ rs).filter fun r => decide ((m : Int) - b < (r.mom : Int)))
      show (looksL _ _ && decide (a < q.2.2)) = false
      rw [decide_eq_false (by omega), Bool.and_false]
    | spn a b =>
      have h3 : q.2.2 + (costs ((letJ ⟨nm, gs, .spn a b⟩ rs).filter fun r => decide ((r.mom : Int) / b = (m : Int) / b))).sum ≤ a := of_decide_eq_true h2
      have := costs_nn ((letJ ⟨nm, gs, .spn a b⟩ rs).filter fun r => decide ((r.mom : Int) / b = (m : Int) / b))
      show (looksL _ _ && decide (a < q.2.2)) = false
      rw [decide_eq_false (by omega), Bool.and_false]
    | buc a b =>
      have h3 : bucB a b (letJ ⟨nm, gs, .buc a b⟩ rs) q.2.2 m = true := h2
      unfold bucB at h3
      rw [Bool.not_eq_true', List.any_eq_false] at h3
      have h4 := h3 (m : Int) (List.mem_append_right _ (List.mem_singleton.mpr rfl))
      have h4 : ¬ a * b + (m : Int) - (m : Int) < b * (q.2.2 + (costs ((letJ ⟨nm, gs, .buc a b⟩ rs).filter fun r => decide ((m : Int) ≤ (r.mom : Int)))).sum) := fun z => h4 (decide_eq_true z)
      have h5 := costs_nn ((letJ ⟨nm, gs, .buc a b⟩ rs).filter fun r => decide ((m : Int) ≤ (r.mom : Int)))
      generalize (costs ((letJ ⟨nm, gs, .buc a b⟩ rs).filter fun r => decide ((m : Int) ≤ (r.mom : Int)))).sum = s at h4 h5
      have hb : 1 ≤ b := hk.2.1
      show (looksL _ _ && decide (a < q.2.2)) = false
      rw [decide_eq_false, Bool.and_false]
      intro z
      have e1 : b * (a + 1) ≤ b * (q.2.2 + s) := Int.mul_le_mul_of_nonneg_left (by omega) (by omega)
      have e2 : b * (a + 1) = a * b + b := by rw [Int.mul_add, Int.mul_comm b a, Int.mul_one]
      omega
theorem lack_nil {ls : List LJ} {rs : List Row} {q : RqJ} {m : Nat} (h : lackJ ls rs q m = []) : allFit ls rs q m = true := by
  have hp := sortS_perm ((ls.filter fun l => !fitsJ l rs q m).map (·.nm))
  have h : sortS ((ls.filter fun l => !fitsJ l rs q m).map (·.nm)) = [] := h
  rw [h] at hp
  have e := hp.nil_eq.symm
  rw [List.map_eq_nil_iff, List.filter_eq_nil_iff] at e
  refine List.all_eq_true.mpr fun l hl => ?_
  have := e l hl
  cases z : fitsJ l rs q m with
  | true => rfl
  | false => rw [z] at this; exact absurd rfl this
theorem fit_lack {ls : List LJ} {rs : List Row} {q : RqJ} {m : Nat} (h : allFit ls rs q m = true) : lackJ ls rs q m = [] := by
  have e : (ls.filter fun l => !fitsJ l rs q m) = [] := List.filter_eq_nil_iff.mpr fun l hl => by
    rw [List.all_eq_true.mp h l hl]; decide
  unfold lackJ
  rw [e]; rfl
theorem rowJ_gd {ls : List LJ} (h : OkLs ls) (rs : List Row) {a : Ask} (ha : OkAsk a) : GdR (rowJ ls rs a) where
  ok := row_ok h rs ha
  none' := fun e => by
    have hf := lack_nil (show lackJ ls rs (a.1, a.2.1, (a.2.2.1 : Int)) a.2.2.2 = [] from e)
    show earlJ ls rs (a.1, a.2.1, (a.2.2.1 : Int)) a.2.2.2 = some a.2.2.2
    unfold earlJ
    rw [if_neg]
    · exact find_at (allFit ls rs (a.1, a.2.1, (a.2.2.1 : Int))) a.2.2.2 (n := 130) (k := 0) (by omega) (fun j hj => by omega) hf
    · rw [Bool.not_eq_true, List.any_eq_false]
      intro l hl
      rw [fits_never (h.ok l hl) (List.all_eq_true.mp hf l hl)]
      decide
  some' := fun e => by
    refine ⟨rfl, (lack_ok h rs _ _).2.2, fun n hn => ?_⟩
    obtain ⟨h1, h2, h3⟩ := earl_lt (show earlJ ls rs (a.1, a.2.1, (a.2.2.1 : Int)) a.2.2.2 = some n from hn)
    show a.2.2.2 < n
    rcases Nat.lt_or_eq_of_le h1 with z | z
    · exact z
    · rw [← z] at h3
      exact absurd (fit_lack h3) e
theorem relJ_gd {k : Str} {r : Row} (h : GdR r) : GdR (relJ k r) where
  ok := rel_ok h.ok
  none' := h.none'
  some' := fun e => by
    obtain ⟨h1, h2, h3⟩ := h.some' e
    refine ⟨?_, h2, h3⟩
    show (r.rel || (decide (r.key = k) && decide (r.lack.length = 0))) = false
    rw [h1, decide_eq_false (p := r.lack.length = 0) fun z => e (List.length_eq_zero_iff.mp z), Bool.and_false]
    rfl
theorem rows_gd {ls : List LJ} (h : OkLs ls) : ∀ {es : List En} {rs : List Row}, (∀ r ∈ rs, GdR r) → (∀ e ∈ es, OkEn e) → ∀ r ∈ es.foldl (takenJ ls) rs, GdR r
  | [], _, hr, _ => hr
  | e :: es, rs, hr, he => by
    rw [List.foldl_cons]
    refine rows_gd h (fun r hm => ?_) fun x hx => he x (List.mem_cons_of_mem _ hx)
    have hx := he e List.mem_cons_self
    cases e with
    | ask a =>
      rcases List.mem_append.mp hm with q | q
      · exact hr r q
      · rw [List.mem_singleton.mp q]; exact rowJ_gd h rs hx
    | rel k t =>
      obtain ⟨x, hx2, rfl⟩ := List.mem_map.mp hm
      exact relJ_gd (hr x hx2)
def ask1 : En → Option Ask
  | .ask a => some a
  | .rel _ _ => none
def asksE (es : List En) : List Ask := es.filterMap ask1
theorem asksE_keys (es : List En) : (asksE es).map (·.1) = askedE es := by
  unfold asksE askedE
  rw [List.map_filterMap]
  refine congrArg (fun f => List.filterMap f es) (funext fun e => ?_)
  cases e <;> rfl
theorem asksE_app (es fs : List En) : asksE (es ++ fs) = asksE es ++ asksE fs := List.filterMap_append
theorem rowsJ_snoc (ls : List LJ) (es : List En) (e : En) : rowsJ ls (es ++ [e]) = takenJ ls (rowsJ ls es) e := by
  unfold rowsJ
  rw [List.foldl_append]; rfl
theorem rows_asks (ls : List LJ) : ∀ (es : List En) (rs : List Row), (es.foldl (takenJ ls) rs).map rAsk = rs.map rAsk ++ asksE es
  | [], rs => (List.append_nil _).symm
  | .ask a :: es, rs => by
    rw [List.foldl_cons, rows_asks ls es]
    show (rs ++ [rowJ ls rs a]).map rAsk ++ asksE es = rs.map rAsk ++ (a :: asksE es)
    rw [List.map_append, List.append_assoc]
    rfl
  | .rel k t :: es, rs => by
    rw [List.foldl_cons, rows_asks ls es]
    show (rs.map (relJ k)).map rAsk ++ asksE es = rs.map rAsk ++ asksE es
    rw [List.map_map]; rfl
theorem rowsJ_asks (ls : List LJ) (es : List En) : (rowsJ ls es).map rAsk = asksE es := rows_asks ls es []
theorem rowsJ_keys (ls : List LJ) (es : List En) : (rowsJ ls es).map (·.key) = askedE es := by
  rw [← asksE_keys, ← rowsJ_asks ls es, List.map_map]; rfl
theorem keysJ_nodup (n : Nat) : (keysJ n).Nodup := by
  unfold keysJ
  exact List.pairwise_map.mpr ((List.nodup_range).imp fun h e => h (keyJ_inj e))
theorem asked_go {es : List En} {m : Nat} (h : GoE 0 m es) : askedE es = keysJ (cntE 0 es) := by
  have := askedE_go h
  rwa [show keysJ 0 = [] from rfl, List.nil_append] at this
theorem keys_nodup (ls : List LJ) {es : List En} {m : Nat} (h : GoE 0 m es) : ((rowsJ ls es).map (·.key)).Nodup := by
  rw [rowsJ_keys, asked_go h]
  exact keysJ_nodup _
def momE (es : List En) : Option Nat := es.getLast?.map enM
theorem momE_snoc (es : List En) (e : En) : momE (es ++ [e]) = some (enM e) := by unfold momE; rw [List.getLast?_append]; rfl
theorem momE_last : ∀ (es : List En) (m : Nat), (momE es).getD m = lastE m es
  | [], _ => rfl
  | [e], _ => rfl
  | e :: f :: es, m => by
    show (momE (e :: f :: es)).getD m = lastE (enM f) es
    have : momE (e :: f :: es) = momE (f :: es) := by unfold momE; rw [List.getLast?_cons_cons]
    rw [this]
    have h := momE_last (f :: es) m
    exact h
theorem momE_none {es : List En} (h : momE es = none) : es = [] := by
  unfold momE at h
  rw [Option.map_eq_none_iff] at h
  exact List.getLast?_eq_none_iff.mp h
theorem setK_new {α : Type} {f : α → Str} {xs : List α} {a : α} (h : f a ∉ xs.map f) : setK f xs a = xs ++ [a] := by
  unfold setK
  rw [if_neg]
  intro z
  obtain ⟨x, hx, e⟩ := List.any_eq_true.mp z
  exact h (List.mem_map.mpr ⟨x, hx, of_decide_eq_true e⟩)
theorem setK_same {α : Type} {f : α → Str} {xs : List α} {a : α} (ha : a ∈ xs) (hn : ∀ x ∈ xs, f x = f a → x = a) : setK f xs a = xs := by
  unfold setK
  rw [if_pos (List.any_eq_true.mpr ⟨a, ha, decide_eq_true rfl⟩)]
  conv => rhs; rw [← List.map_id xs]
  refine List.map_congr_left fun x hx => ?_
  split
  · rename_i e; exact (hn x hx e).symm
  · rfl
theorem hasK_mem {xs : List Str} {k : Str} : hasK id xs k = true ↔ k ∈ xs := by
  unfold hasK
  rw [List.any_eq_true]
  exact ⟨fun ⟨x, hx, e⟩ => by rw [← show x = k from of_decide_eq_true e]; exact hx, fun h => ⟨k, h, decide_eq_true rfl⟩⟩
theorem setK_id {xs : List Str} {k z : Str} : z ∈ setK id xs k ↔ z ∈ xs ∨ z = k := by
  by_cases h : k ∈ xs
  · rw [setK_same (f := id) h fun x _ e => e]
    exact ⟨.inl, fun q => q.elim id fun e => e ▸ h⟩
  · rw [setK_new (by simpa using h), List.mem_append, List.mem_singleton]
structure RelP (ls : List LJ) (es : List En) (v : Option View) (p : PS) : Prop where
  asked : p.asked = asksE es
  mom : p.mom = momE es
  many : p.many = es.length
  view : p.view = v
  was : ∀ q ∈ p.was, ∃ r ∈ rowsJ ls es, r.key = q.1 ∧ rLet r = q.2
  rel : ∀ r ∈ rowsJ ls es, rLet r = true → (r.key ∈ p.rel ↔ r.rel = true)
  relk : ∀ k ∈ p.rel, k ∈ askedE es
theorem relP_0 (ls : List LJ) : RelP ls [] none ps0 := ⟨rfl, rfl, rfl, rfl, fun _ h => (by cases h), fun _ h => (by cases h), fun _ h => (by cases h)⟩
theorem has_asked {ls : List LJ} {es : List En} {v : Option View} {p : PS} (h : RelP ls es v p) (k : Str) : hasK (fun a : Ask => a.1) p.asked k = decide (k ∈ askedE es) := by
  rw [← asksE_keys, ← h.asked, Bool.eq_iff_iff, decide_eq_true_iff]
  unfold hasK
  rw [List.any_eq_true, List.mem_map]
  exact ⟨fun ⟨x, hx, e⟩ => ⟨x, hx, of_decide_eq_true e⟩, fun ⟨x, hx, e⟩ => ⟨x, hx, decide_eq_true e⟩⟩
theorem relP_en {ls : List LJ} {es : List En} {v : Option View} {p : PS} {e : En} {m : Nat} (h : RelP ls es v p) (hg : GoE 0 m (es ++ [e])) : fitsP p (.en e) = true ∧ RelP ls (es ++ [e]) v (takeP p (.en e)) := by
  obtain ⟨g1, g2⟩ := goE_app.mp hg
  have hk := asked_go g1
  have hm : ((p.mom.getD 0 : Nat) : Int) ≤ (enM e : Int) := by
    rw [h.mom]
    have e1 : (momE es).getD 0 ≤ lastE m es := by
      rw [← momE_last es m]
      cases momE es with
      | none => exact Nat.zero_le _
      | some x => exact Nat.le_refl _
    have e2 : lastE m es ≤ enM e := by
      cases e with
      | ask a => exact g2.1.2.2.1
      | rel k t => exact g2.1.2.1
    omega
  have hrel : ∀ r ∈ rowsJ ls es, True := fun _ _ => trivial
  cases e with
  | ask a =>
    have ha : a.1 = keyJ (cntE 0 es) := g2.1.1
    have hnew : a.1 ∉ askedE es := by
      rw [hk, ha]
      intro z
      obtain ⟨j, hj, e⟩ := List.mem_map.mp z
      have := keyJ_inj e
      have := List.mem_range.mp hj
      omega
    refine ⟨?_, ?_, ?_, ?_, h.view, fun q hq => ?_, fun r hr hl => ?_, fun k hk2 => ?_⟩
    · show (!decide ((a.2.2.2 : Int) < ((p.mom.getD 0 : Nat) : Int)) && (hasK (fun a : Ask => a.1) p.asked a.1 == false)) = true
      rw [has_asked h, decide_eq_false hnew, decide_eq_false (by have hm : ((p.mom.getD 0 : Nat) : Int) ≤ (a.2.2.2 : Int) := hm; omega)]
      rfl
    · show setK (fun a : Ask => a.1) p.asked a = asksE (es ++ [.ask a])
      rw [setK_new (by rw [h.asked, asksE_keys]; exact hnew), h.asked, asksE_app]; rfl
    · exact (momE_snoc es (.ask a)).symm
    · show p.many + 1 = _
      rw [h.many, List.length_append]; rfl
    · obtain ⟨r, hr, e1, e2⟩ := h.was q hq
      exact ⟨r, by rw [rowsJ_snoc]; exact List.mem_append_left _ hr, e1, e2⟩
    · rw [rowsJ_snoc] at hr
      rcases List.mem_append.mp hr with q | q
      · exact h.rel r q hl
      · rw [List.mem_singleton.mp q]
        exact ⟨fun z => absurd (h.relk _ z) hnew, fun z => by cases z⟩
    · show k ∈ askedE (es ++ [.ask a])
      unfold askedE
      rw [List.filterMap_append]
      exact List.mem_append_left _ (h.relk k hk2)
  | rel k t =>
    obtain ⟨j, hj, hkj⟩ := g2.1.1
    have hold : k ∈ askedE es := by rw [hk, hkj]; exact List.mem_map.mpr ⟨j, List.mem_range.mpr hj, rfl⟩
    have hap : askedE (es ++ [.rel k t]) = askedE es := by unfold askedE; rw [List.filterMap_append]; exact List.append_nil _
    refine ⟨?_, ?_, ?_, ?_, h.view, fun q hq => ?_, fun r hr hl => ?_, fun z hz => ?_⟩
    · show (!decide ((t : Int) < ((p.mom.getD 0 : Nat) : Int)) && (hasK (fun a : Ask => a.1) p.asked k == true)) = true
      rw [has_asked h, decide_eq_true hold, decide_eq_false (by have hm : ((p.mom.getD 0 : Nat) : Int) ≤ (t : Int) := hm; omega)]
      rfl
    · show p.asked = asksE (es ++ [.rel k t])
      rw [h.asked, asksE_app]; exact (List.append_nil _).symm
    · exact (momE_snoc es (.rel k t)).symm
    · show p.many + 1 = _
      rw [h.many, List.length_append]; rfl
    · obtain ⟨r, hr, e1, e2⟩ := h.was q hq
      exact ⟨relJ k r, by rw [rowsJ_snoc]; exact List.mem_map.mpr ⟨r, hr, rfl⟩, e1, e2⟩
    · rw [rowsJ_snoc] at hr
      obtain ⟨x, hx, rfl⟩ := List.mem_map.mp hr
      have hl : rLet x = true := hl
      have h1 := h.rel x hx hl
      have hl2 : x.lack = [] := of_decide_eq_true hl
      show x.key ∈ setK id p.rel k ↔ (x.rel || (decide (x.key = k) && decide (x.lack.length = 0))) = true
      rw [setK_id, h1, hl2, Bool.or_eq_true, Bool.and_eq_true, decide_eq_true_iff, decide_eq_true_iff]
      exact ⟨fun z => z.imp_right fun e => ⟨e, rfl⟩, fun z => z.imp_right fun e => e.1⟩
    · rw [hap]
      rcases setK_id.mp hz with q | q
      · exact h.relk z q
      · rw [q]; exact hold
def kpJ (ls : List LJ) (es : List En) (v : Option View) : Tk := .kp ((rowsJ ls es).length, es.length, momE es, v) (rowsJ ls es)
theorem nodup_inj {α β : Type} {f : α → β} : ∀ {xs : List α}, (xs.map f).Nodup → ∀ {a b : α}, a ∈ xs → b ∈ xs → f a = f b → a = b
  | [], _, _, _, h, _, _ => by cases h
  | x :: xs, hn, a, b, ha, hb, e => by
    rw [List.map_cons, List.nodup_cons] at hn
    rcases List.mem_cons.mp ha with q | q
    · rcases List.mem_cons.mp hb with z | z
      · rw [q, z]
      · exact absurd (List.mem_map.mpr ⟨b, z, by rw [← e, q]⟩) hn.1
    · rcases List.mem_cons.mp hb with z | z
      · exact absurd (List.mem_map.mpr ⟨a, q, by rw [e, z]⟩) hn.1
      · exact nodup_inj hn.2 q z e
theorem row_uniq {rs : List Row} (h : (rs.map (·.key)).Nodup) {r r' : Row} (h1 : r ∈ rs) (h2 : r' ∈ rs) (e : r.key = r'.key) : r = r' := nodup_inj h h1 h2 e
theorem takeR_was : ∀ (rs : List Row) (p : PS) (q : Str × Bool), q ∈ (rs.foldl takeR p).was → q ∈ p.was ∨ ∃ r ∈ rs, q = (r.key, rLet r)
  | [], p, q, h => .inl h
  | r :: rs, p, q, h => by
    rw [List.foldl_cons] at h
    rcases takeR_was rs (takeR p r) q h with z | ⟨x, hx, e⟩
    · rcases setK_mem (f := fun q : Str × Bool => q.1) (xs := p.was) (a := (r.key, rLet r)) z with y | y
      · exact .inr ⟨r, List.mem_cons_self, y⟩
      · exact .inl y
    · exact .inr ⟨x, List.mem_cons_of_mem _ hx, e⟩
theorem takeR_rel : ∀ (rs : List Row) (p : PS) (k : Str), k ∈ (rs.foldl takeR p).rel ↔ k ∈ p.rel ∨ ∃ r ∈ rs, r.rel = true ∧ r.key = k
  | [], p, k => ⟨.inl, fun h => h.elim id fun ⟨_, h, _⟩ => by cases h⟩
  | r :: rs, p, k => by
    rw [List.foldl_cons, takeR_rel rs (takeR p r) k]
    have e : k ∈ (takeR p r).rel ↔ k ∈ p.rel ∨ (r.rel = true ∧ r.key = k) := by
      show k ∈ (if r.rel = true then setK id p.rel r.key else p.rel) ↔ _
      by_cases h : r.rel = true
      · rw [if_pos h, setK_id]
        exact ⟨fun z => z.imp_right fun e => ⟨h, e.symm⟩, fun z => z.imp_right fun e => e.2.symm⟩
      · rw [if_neg h]
        exact ⟨.inl, fun z => z.elim id fun e => absurd e.1 h⟩
    rw [e, or_assoc]
    refine or_congr_right ⟨fun z => ?_, fun ⟨x, hx, z⟩ => ?_⟩
    · rcases z with z | ⟨x, hx, z⟩
      · exact ⟨r, List.mem_cons_self, z⟩
      · exact ⟨x, List.mem_cons_of_mem _ hx, z⟩
    · rcases List.mem_cons.mp hx with q | q
      · rw [q] at z; exact .inl z
      · exact .inr ⟨x, q, z⟩
theorem takeR_same : ∀ (rs : List Row) (p : PS), (∀ r ∈ rs, rAsk r ∈ p.asked) → (p.asked.map (·.1)).Nodup → (rs.foldl takeR p).asked = p.asked
  | [], p, _, _ => rfl
  | r :: rs, p, h, hn => by
    rw [List.foldl_cons]
    have e : (takeR p r).asked = p.asked := setK_same (f := fun a : Ask => a.1) (h r List.mem_cons_self) fun x hx e => nodup_inj hn hx (h r List.mem_cons_self) e
    rw [takeR_same rs (takeR p r) (by rw [e]; exact fun x hx => h x (List.mem_cons_of_mem _ hx)) (by rw [e]; exact hn), e]
theorem takeR_new : ∀ (rs : List Row) (p : PS), (p.asked.map (·.1) ++ rs.map (·.key)).Nodup → (rs.foldl takeR p).asked = p.asked ++ rs.map rAsk
  | [], p, _ => (List.append_nil _).symm
  | r :: rs, p, hn => by
    rw [List.foldl_cons]
    have e : (takeR p r).asked = p.asked ++ [rAsk r] := setK_new fun z => by
      rw [List.nodup_append] at hn
      exact hn.2.2 _ z _ List.mem_cons_self rfl
    rw [takeR_new rs (takeR p r) (by rw [e, List.map_append, List.append_assoc]; exact hn), e, List.append_assoc]
    rfl
theorem asks_asc : ∀ {es : List En} {n m : Nat}, GoE n m es → ∀ a ∈ asksE es, m ≤ a.2.2.2 ∧ a.2.2.2 ≤ lastE m es
  | [], _, _, _, _, h => by cases h
  | .ask a :: es, n, m, h, x, hx => by
    have hl := lastE_le h.2
    have h1 := h.1.2.2.1
    rcases List.mem_cons.mp (show x ∈ a :: asksE es from hx) with q | q
    · rw [q]; exact ⟨h1, hl.1⟩
    · have := asks_asc h.2 x q
      exact ⟨by omega, this.2⟩
  | .rel k t :: es, n, m, h, x, hx => by
    have h1 := h.1.2.1
    have := asks_asc h.2 x hx
    exact ⟨by omega, this.2⟩
theorem desB_cons (a b : Nat) (r : List Nat) : desB (a :: b :: r) = (decide (b < a) || desB (b :: r)) := rfl
theorem asks_des : ∀ {es : List En} {n m : Nat}, GoE n m es → ∀ x, lastE m es ≤ x → desB ((asksE es).map (fun a => a.2.2.2) ++ [x]) = false
  | [], _, _, _, _, _ => rfl
  | .ask a :: es, n, m, h, x, hx => by
    have ih := asks_des h.2 x hx
    have hb := asks_asc h.2
    have hl := lastE_le h.2
    show desB (a.2.2.2 :: ((asksE es).map (fun a => a.2.2.2) ++ [x])) = false
    cases hq : asksE es with
    | nil =>
      show (decide (x < a.2.2.2) || false) = false
      have hx : lastE a.2.2.2 es ≤ x := hx
      rw [decide_eq_false (by omega)]; rfl
    | cons y ys =>
      rw [hq] at ih hb
      show desB (a.2.2.2 :: y.2.2.2 :: (ys.map (fun a => a.2.2.2) ++ [x])) = false
      rw [desB_cons]
      have := (hb y List.mem_cons_self).1
      rw [decide_eq_false (by omega)]
      exact ih
  | .rel k t :: es, n, m, h, x, hx => asks_des h.2 x hx
theorem rows_moms (ls : List LJ) (es : List En) : (rowsJ ls es).map (·.mom) = (asksE es).map fun a => a.2.2.2 := by
  rw [← rowsJ_asks ls es, List.map_map]; rfl
theorem cnt_pos {es : List En} {m : Nat} (h : GoE 0 m es) (hne : es ≠ []) : 1 ≤ (asksE es).length := by
  cases es with
  | nil => exact absurd rfl hne
  | cons e es => cases e with
    | ask a => show 1 ≤ (a :: asksE es).length; simp
    | rel k t => obtain ⟨j, hj, _⟩ := h.1.1; omega
theorem asks_le (es : List En) : (asksE es).length ≤ es.length := List.length_filterMap_le _ _
theorem relP_snap {ls : List LJ} {es : List En} {v : Option View} {p : PS} {m : Nat} (hg : GoE 0 m es) (hb : (takeP p (kpJ ls es v)).asked = asksE es) (hw : ∀ q ∈ p.was, ∃ r ∈ rowsJ ls es, r.key = q.1 ∧ rLet r = q.2) (hr : ∀ r ∈ rowsJ ls es, rLet r = true → r.key ∈ p.rel → r.rel = true) (hk : ∀ k ∈ p.rel, k ∈ askedE es) : RelP ls es v (takeP p (kpJ ls es v)) := by
  obtain ⟨v1, v2, v3, v4, v5⟩ := takeRs_view (rowsJ ls es) (takeH p ((rowsJ ls es).length, es.length, momE es, v))
  have hn := keys_nodup ls hg
  refine ⟨hb, v2, v3, v1, fun q hq => ?_, fun r hr2 hl => ?_, fun k hk2 => ?_⟩
  · rcases takeR_was _ _ q hq with z | ⟨r, hr2, rfl⟩
    · exact hw q z
    · exact ⟨r, hr2, rfl, rfl⟩
  · show r.key ∈ ((rowsJ ls es).foldl takeR (takeH p _)).rel ↔ _
    rw [takeR_rel]
    refine ⟨fun z => ?_, fun z => .inr ⟨r, hr2, z, rfl⟩⟩
    rcases z with z | ⟨x, hx, e1, e2⟩
    · exact hr r hr2 hl z
    · rw [← row_uniq hn hx hr2 e2]; exact e1
  · rcases (takeR_rel _ _ k).mp hk2 with z | ⟨x, hx, e1, e2⟩
    · exact hk k z
    · rw [← e2, ← rowsJ_keys ls es]
      exact List.mem_map.mpr ⟨x, hx, rfl⟩
/-- a snapshot at the beginning -/
theorem relP_kp0 {ls : List LJ} {es : List En} {v : Option View} {m : Nat} (hg : GoE 0 m es) : fitsP ps0 (kpJ ls es v) = true ∧ RelP ls es v (takeP ps0 (kpJ ls es v)) ∧ (takeP ps0 (kpJ ls es v)).drop = es.length := by
  have hn := keys_nodup ls hg
  have hlen : (rowsJ ls es).length = (asksE es).length := by rw [← rowsJ_asks ls es, List.length_map]
  refine ⟨?_, relP_snap hg ?_ (fun _ h => (by cases h)) (fun _ _ _ h => (by cases h)) (fun _ h => (by cases h)), (takeRs_view (rowsJ ls es) _).2.2.2.1⟩
  · show canB ((rowsJ ls es).length, es.length, momE es, v) (rowsJ ls es) = true
    unfold canB
    by_cases he : es = []
    · subst he; rfl
    · have h1 := cnt_pos hg he
      have h2 := asks_le es
      have hm : ∃ x, momE es = some x := by
        cases q : momE es with
        | none => exact absurd (momE_none q) he
        | some x => exact ⟨x, rfl⟩
      obtain ⟨x, hx⟩ := hm
      dsimp only
      rw [decide_eq_false (p := (rowsJ ls es).length = 0) (by omega), decide_eq_false (p := es.length = 0) (by omega), hx]
      show (if (decide (es.length < (rowsJ ls es).length) || desB ((rowsJ ls es).map (·.mom) ++ [x])) = true then false else decide ((ddL ((rowsJ ls es).map (·.key))).length = (rowsJ ls es).length)) = true
      have hxl : lastE m es = x := by rw [← momE_last es m, hx]; rfl
      rw [rows_moms, asks_des hg x (by omega), decide_eq_false (p := es.length < (rowsJ ls es).length) (by omega)]
      show decide ((ddL ((rowsJ ls es).map (·.key))).length = (rowsJ ls es).length) = true
      have := ddL_all.mpr hn
      rw [List.length_map] at this
      exact decide_eq_true this
  · show ((rowsJ ls es).foldl takeR (takeH ps0 _)).asked = _
    rw [takeR_new _ _ (by show ([] ++ _).Nodup; rw [List.nil_append]; exact hn)]
    show [] ++ _ = _
    rw [List.nil_append, rowsJ_asks]
/-- a snapshot behind what it tells -/
theorem relP_kp {ls : List LJ} {es : List En} {v : Option View} {p : PS} {m : Nat} (hg : GoE 0 m es) (h : RelP ls es v p) (hbl : p.blank = true → es = [] ∧ v = v) : fitsP p (kpJ ls es v) = true ∧ RelP ls es v (takeP p (kpJ ls es v)) ∧ (p.blank = false → (takeP p (kpJ ls es v)).drop = p.drop) := by
  have hn := keys_nodup ls hg
  have hlen : (rowsJ ls es).length = (asksE es).length := by rw [← rowsJ_asks ls es, List.length_map]
  refine ⟨?_, relP_snap hg ?_ h.was (fun r hr hl hk => (h.rel r hr hl).mp hk) h.relk, fun hb => ?_⟩
  · show (if p.blank = true then canB ((rowsJ ls es).length, es.length, momE es, v) (rowsJ ls es) else toldB p ((rowsJ ls es).length, es.length, momE es, v) (rowsJ ls es)) = true
    by_cases hb : p.blank = true
    · rw [if_pos hb]
      obtain ⟨he, _⟩ := hbl hb
      subst he
      rfl
    · rw [if_neg hb]
      unfold toldB
      rw [if_neg]
      · rw [rowsJ_asks, h.asked, decide_eq_true rfl, Bool.true_and, List.all_map, List.all_eq_true]
        intro r hr
        show fitsR p r = true
        have hw : wasAt p r.key (rLet r) = rLet r := by
          unfold wasAt
          cases q : p.was.find? fun q => decide (q.1 = r.key) with
          | none => rfl
          | some y =>
            have h1 := List.mem_of_find?_eq_some q
            have h2 : y.1 = r.key := of_decide_eq_true (p := y.1 = r.key) (List.find?_some (p := fun q : Str × Bool => decide (q.1 = r.key)) q)
            obtain ⟨r', hr', e1, e2⟩ := h.was y h1
            have := row_uniq hn hr' hr (e1.trans h2)
            show y.2 = rLet r
            rw [← e2, this]
        unfold fitsR
        rw [hw, if_neg (by rw [decide_eq_true rfl]; decide)]
        cases hl : rLet r with
        | false => rfl
        | true =>
          have := h.rel r hr hl
          show decide (r.rel = hasK id p.rel r.key) = true
          rw [decide_eq_true_iff, Bool.eq_iff_iff, hasK_mem]
          exact this.symm
      · rw [h.many, h.mom, h.view, h.asked, hlen, decide_eq_true rfl]; decide
  · show ((rowsJ ls es).foldl takeR (takeH p _)).asked = _
    have ha : (takeH p ((rowsJ ls es).length, es.length, momE es, v)).asked = asksE es := h.asked
    rw [takeR_same _ _ ?_ ?_, ha]
    · intro r hr
      rw [ha, ← rowsJ_asks ls es]
      exact List.mem_map.mpr ⟨r, hr, rfl⟩
    · rw [ha, asksE_keys, asked_go hg]
      exact keysJ_nodup _
  · show ((rowsJ ls es).foldl takeR (takeH p _)).drop = _
    rw [(takeRs_view (rowsJ ls es) _).2.2.2.1]
    show (if p.blank = true then _ else p.drop) = _
    rw [if_neg (by rw [hb]; decide)]
end Toy

namespace Toy
open PySem PyProof.Rows L2 Pf
def recZ (zs : List Str) : List Rec := (List.range zs.length).map fun k => (k, zB (zs.getD k ""))
theorem recZ_len (zs : List Str) : (recZ zs).length = zs.length := by unfold recZ; rw [List.length_map, List.length_range]
theorem recZ_snd (zs : List Str) : (recZ zs).map (·.2) = zs.map zB := by
  unfold recZ
  rw [List.map_map]
  refine List.ext_getElem? fun i => ?_
  rw [List.getElem?_map, List.getElem?_map]
  by_cases h : i < zs.length
  · rw [List.getElem?_range h, List.getElem?_eq_getElem h]
    show some (zB (zs.getD i "")) = some (zB zs[i])
    rw [List.getD_eq_getElem?_getD, List.getElem?_eq_getElem h]; rfl
  · rw [List.getElem?_eq_none (by rw [List.length_range]; omega), List.getElem?_eq_none (by omega)]; rfl
def ConsR : Nat → List Rec → Prop
  | _, [] => True
  | a, r :: rs => r.1 = a ∧ ConsR (a + 1) rs
theorem cons_range (f : Nat → List Nat) : ∀ (n a : Nat), ConsR a ((List.range' a n).map fun k => (k, f k))
  | 0, _ => trivial
  | n + 1, a => ⟨rfl, cons_range f n (a + 1)⟩
theorem recZ_cons (zs : List Str) : ConsR 0 (recZ zs) := by
  unfold recZ
  rw [List.range_eq_range']
  exact cons_range _ _ _
theorem cons_drop : ∀ {rs : List Rec} {a : Nat} (n : Nat), ConsR a rs → ConsR (a + n) (rs.drop n)
  | rs, a, 0, h => by rw [List.drop_zero]; exact h
  | [], a, n + 1, _ => trivial
  | r :: rs, a, n + 1, h => by
    have := cons_drop (rs := rs) (a := a + 1) n h.2
    rw [show a + (n + 1) = a + 1 + n from by omega]
    exact this
theorem goW_run : ∀ {rs : List Rec} {acc : List Rec} {a : Nat}, ConsR a rs → (∀ q, acc.getLast? = some q → a = q.1 + 1) → RecsOk rs → R39.goW (linesR rs) acc = acc ++ rs
  | [], acc, a, _, _, _ => (List.append_nil _).symm
  | r :: rs, acc, a, h, ha, ok => by
    have h1 : R39.readR (R39.lineN (r.1 : Int) r.2) = some (r.1, r.2) := R39.readR_line (ok.num r List.mem_cons_self) (ok.ok r List.mem_cons_self)
    show R39.goW (R39.lineN (r.1 : Int) r.2 :: linesR rs) acc = _
    unfold R39.goW
    rw [h1]
    have h2 : R39.nextOk acc (r.1, r.2) = true := by
      unfold R39.nextOk
      cases q : acc.getLast? with
      | none => rfl
      | some x =>
        have := ha x q
        show decide (r.1 = x.1 + 1) = true
        rw [h.1]
        exact decide_eq_true this
    show (if R39.nextOk acc (r.1, r.2) = true then R39.goW (linesR rs) (acc ++ [(r.1, r.2)]) else acc) = _
    rw [if_pos h2, goW_run (a := a + 1) h.2 (fun q hq => ?_) ⟨fun x hx => ok.ok x (List.mem_cons_of_mem _ hx), fun x hx => ok.num x (List.mem_cons_of_mem _ hx)⟩, List.append_assoc]
    · rfl
    · rw [List.getLast?_append] at hq
      have hq : some (r.1, r.2) = some q := hq
      cases hq
      show a + 1 = r.1 + 1
      rw [h.1]
theorem line_no10 {r : Rec} (h : R39.isB r.2 = true) : 10 ∉ R39.lineN (r.1 : Int) r.2 := fun q => by
  have := R39.line_sign (n := r.1) (R39.isB_sign h) 10 q
  omega
theorem lines_flat {rs : List Rec} (ok : OkRecs rs) : R39.linesN (flatR rs) = linesR rs := by
  have h := R39.splN_flat (ls := linesR rs) (r := []) (fun l hl => by
    obtain ⟨r, hr, rfl⟩ := List.mem_map.mp hl
    exact line_no10 (ok r hr)) (by simp)
  rw [List.append_nil] at h
  unfold R39.linesN
  show (R39.splN (R39.flatL (linesR rs))).dropLast = _
  rw [h, List.dropLast_concat]
theorem whole_flat {rs : List Rec} {a : Nat} (h : ConsR a rs) (ok : RecsOk rs) : R39.wholeN (flatR rs) = rs := by
  unfold R39.wholeN
  rw [lines_flat ok.ok, goW_run h (fun q hq => by cases hq) ok]
  rfl
theorem flat_len {rs : List Rec} (ok : RecsOk rs) : (flatR rs).length ≤ 1108 * rs.length := by
  rw [flatR_eq]
  induction rs with
  | nil => exact Nat.le_refl _
  | cons r rs ih =>
    have h1 := R39.isB_len (ok.ok r List.mem_cons_self)
    have h2 := ok.num r List.mem_cons_self
    have h3 := R39.line_len (n := (r.1 : Int)) (b := r.2) (by omega) (by omega) (by omega)
    have := ih ⟨fun x hx => ok.ok x (List.mem_cons_of_mem _ hx), fun x hx => ok.num x (List.mem_cons_of_mem _ hx)⟩
    rw [List.map_cons, List.flatten_cons, List.length_append, List.length_append]
    simp only [List.length_cons, List.length_nil]
    omega
theorem good_en {ls : List LJ} {v : Option View} {m : Nat} : ∀ {fs es : List En} {p : PS}, RelP ls es v p → GoE 0 m (es ++ fs) → GoodC p (fs.map .en) ∧ RelP ls (es ++ fs) v ((fs.map Tk.en).foldl takeP p) ∧ ((fs.map Tk.en).foldl takeP p).drop = p.drop ∧ (fs ≠ [] ∨ p.blank = false → ((fs.map Tk.en).foldl takeP p).blank = false)
  | [], es, p, h, _ => ⟨trivial, by rw [List.append_nil]; exact h, rfl, fun z => z.elim (fun y => absurd rfl y) id⟩
  | e :: fs, es, p, h, hg => by
    have e0 : es ++ e :: fs = (es ++ [e]) ++ fs := by rw [List.append_assoc]; rfl
    rw [e0] at hg ⊢
    obtain ⟨h1, h2⟩ := relP_en h (goE_app.mp hg).1
    obtain ⟨h3, h4, h5, h6⟩ := good_en h2 hg
    have hb : (takeP p (.en e)).blank = false := rfl
    have hd : (takeP p (.en e)).drop = p.drop := by cases e <;> rfl
    exact ⟨⟨h1, h3⟩, h4, h5.trans hd, fun _ => h6 (.inr hb)⟩
theorem ents_en (fs : List En) : entsT (fs.map .en) = fs := by
  unfold entsT
  rw [List.map_map]
  induction fs with
  | nil => rfl
  | cons e fs ih => rw [List.map_cons, List.flatten_cons, ih]; rfl
theorem entsT_app (ts us : List Tk) : entsT (ts ++ us) = entsT ts ++ entsT us := by unfold entsT; rw [List.map_append, List.flatten_append]
theorem kpJ_gd {ls : List LJ} (hls : OkLs ls) {es : List En} {m : Nat} (hg : GoE 0 m es) (hn : es.length < 900000) (hm : m + 5 * es.length ≤ 1000000000) {v : Option View} (hv : ∀ x, v = some x → GdV x) : GdTk (kpJ ls es v) := by
  have hok := goE_ok hg (by omega) hm
  have hlen := foldJ_len ls es []
  have hlen : (rowsJ ls es).length ≤ 0 + es.length := hlen
  refine ⟨⟨⟨by show (rowsJ ls es).length < _; omega, by show es.length < _; omega, fun n q => ?_, fun x q => (hv x q).ok⟩, hv⟩, rfl, rows_gd hls (fun _ h => by cases h) hok⟩
  have h1 := lastE_le hg
  have h2 := momE_last es m
  have q : momE es = some n := q
  rw [q] at h2
  have h2 : n = lastE m es := h2
  omega
/-- what is told of a journal made of such units -/
structure JSt1 (s : JS) (es : List En) (d : Nat) : Prop where
  ents : s.ents = es
  drop : s.past.drop = d
theorem jour_end {ts : List Tk} {rs : List Rec} {a : Nat} (hc : ConsR a rs) (hr : rs.map (·.2) = bodsT ts) (hg : ∀ t ∈ ts, GdTk t) (hgc : GoodC ps0 ts) (h0 : a = 0 ∨ ∀ t, ts.head? = some t → isKp t = true) : EndJ js0 (journalOf rs) ts := by
  have := takeL_run (ts := ts) (f := rs.length) (rs := rs) (tail := []) (fst := true) (s := js0) (by rw [List.append_nil]; exact hr) (Nat.le_refl _) hg hgc (fun rs' h => by
    have : rs' = [] := List.map_eq_nil_iff.mp h
    rw [this]; rfl) (fun _ => by
    rcases h0 with z | z
    · left
      cases rs with
      | nil => rfl
      | cons r rs => exact hc.1.trans z
    · exact .inr z)
  exact this.1
section
variable {P : Program} {w : World} {K : PySem.W.Frag} {mg : Str → Option Value} {base : Heap}
def gLh2 : List D → (D → Prop) → Prop := fun ds P => ∃ (rs : List Row) (b : Nat) (m : Option Nat) (v : Option View), ds = [.lst (rs.map rowD), .int (b : Nat), optN m, viewN v] ∧ OkH rs.length b m v ∧ P = fun d => d = .str (hbody rs.length b m v)
theorem ok_lh2 {f : Addr} {fd : FuncData} (F : Fun K "_law_head_body" "_law_head_body" sLh f fd) (T : Bt mg) (cV : PFn P w K mg base 1 "_law_view_words" 1 gVw) : FnOk P w K mg base CX0 2 f fd ["rows", "entries", "moment", "view"] (spP K 4 gLh2) := by
  refine fn_pure F scLh (by rintro ds Pd ⟨_, _, _, _, rfl, _⟩; rfl) fun cdv A outer s H E ds Pd hr hG => ?_
  obtain ⟨rs, b, m, v, rfl, hk, rfl⟩ := hG
  have nd := scLh.nd
  obtain ⟨w1, w2⟩ := hk.words
  have la := numT_log (n := rs.length) (by have := hk.a; omega)
  have lm := numT_log (n := b) (by have := hk.b; omega)
  have lenR : lenD (.lst (rs.map rowD)) = some rs.length := by show some _ = _; rw [List.length_map]
  refine jss_cons (js_set (i := 4) (j_lst (ja_cons j_str (ja_cons (jb_str T (ja_cons (jb_len T (ja_cons (jv 0 rfl) ja_nil) lenR) ja_nil) la) (ja_cons (jb_str T (ja_cons (jv 1 rfl) ja_nil) lm) (ja_cons (j_word T (jv 2 rfl) (jv 2 rfl) j_str (fun n e => by have := hk.m n e; omega)) ja_nil))))) ?_ nd)
  refine jss_mid (fun ρ => ∃ o0 o1 o2 o3 : Option SV, ρ = [o0, o1, o2, o3, some (.fz (.lst ((hwords rs.length b m v).map D.str)))]) (js_if (t := !Pf.isNon (viewN v)) (jt_cm (jv 3 rfl) j_non cd_notN) (fun h => ?_) (fun h => ?_)) ?_
  · cases v with
    | none => cases h
    | some v =>
      obtain ⟨k1, k2⟩ := (hk.v v rfl).words
      refine jss_cons (js_set (i := 4) (j_bin (J.to (jv 4 rfl) (d' := .lst [.str "keep", .str (numT rs.length), .str (numT b), .str (wordF m "none")]) rfl) (j_call cV hr (ja_cons (J.to (jv 3 rfl) (d' := viewD v) rfl) ja_nil) ⟨v, rfl, hk.v v rfl, rfl⟩ (fun _ h => h)) (od_addL (by rw [List.length_map]; exact le_size (by simp only [List.length_cons, List.length_nil]; omega)))) ?_ nd)
      exact jss_nil ⟨_, rfl, _, _, _, _, rfl⟩
  · cases v with
    | none => exact jss_nil ⟨_, rfl, _, _, _, _, rfl⟩
    | some v => cases h
  rintro _ ⟨o0, o1, o2, o3, rfl⟩
  exact jss_cons (js_ret (j_join (ys := hwords rs.length b m v) j_str (jv 4 rfl) (join_words w1 w2 (by decide) (by decide) _ (by decide +kernel)) rfl) rfl)
end
end Toy

namespace Toy
open PySem PyProof.Rows L2 Pf
theorem cut_dropN {α : Type} (xs : List α) (n : Nat) : cut xs (some (n : Int)) none = xs.drop n := by
  by_cases h : n ≤ xs.length
  · exact cut_drop xs n h
  · unfold cut
    rw [HT.sIx_none, HT.sIx_nat, Nat.min_eq_right (by omega), List.drop_of_length_le (Nat.le_refl _), List.drop_of_length_le (by omega)]
    exact List.take_nil
def usJ (ls : List LJ) (es : List En) (c : Nat) : List Tk := (es.take c).map .en ++ (kpJ ls (es.take c) none :: (es.drop c).map .en)
def usK (ls : List LJ) (es : List En) (c : Nat) : List Tk := kpJ ls (es.take c) none :: (es.drop c).map .en
def zsK (ls : List LJ) (es : List En) (c : Nat) : List Str := [hbody (rowsJ ls (es.take c)).length c (momE (es.take c)) none] ++ (rowsJ ls (es.take c)).map rbody ++ (es.drop c).map ebody
def zsJ (ls : List LJ) (es : List En) (c : Nat) : List Str := (es.take c).map ebody ++ zsK ls es c
theorem bods_en (fs : List En) : bodsT (fs.map .en) = fs.map fun e => zB (ebody e) := by
  unfold bodsT
  rw [List.map_map]
  induction fs with
  | nil => rfl
  | cons e fs ih => rw [List.map_cons, List.flatten_cons, ih]; rfl
theorem zsK_bods {ls : List LJ} {es : List En} {c : Nat} (hc : c ≤ es.length) : (zsK ls es c).map zB = bodsT (usK ls es c) := by
  unfold usK
  rw [bodsT_cons, bods_en]
  unfold zsK
  rw [List.map_append, List.map_append, List.map_map, List.map_map]
  show _ = (zB (hbody (rowsJ ls (es.take c)).length (es.take c).length (momE (es.take c)) none) :: (rowsJ ls (es.take c)).map fun r => zB (rbody r)) ++ _
  rw [List.length_take, Nat.min_eq_left hc]
  rfl
theorem zsJ_bods {ls : List LJ} {es : List En} {c : Nat} (hc : c ≤ es.length) : (zsJ ls es c).map zB = bodsT (usJ ls es c) := by
  unfold usJ zsJ
  rw [List.map_append, zsK_bods hc, bodsT_app, bods_en, List.map_map]
  rfl
structure JOk (es : List En) (m c : Nat) : Prop where
  go : GoE 0 m es
  len : es.length ≤ 30
  mom : m ≤ 1000000
  cut : c ≤ es.length
theorem take_go {es : List En} {m : Nat} (h : GoE 0 m es) (c : Nat) : GoE 0 m (es.take c) := (goE_app.mp (by rw [List.take_append_drop]; exact h : GoE 0 m (es.take c ++ es.drop c))).1
theorem jour_gd {ls : List LJ} (hls : OkLs ls) {es : List En} {m c : Nat} (h : JOk es m c) : ∀ t ∈ usJ ls es c, GdTk t := by
  have hok := goE_ok h.go (by have := h.len; omega) (by have := h.len; have := h.mom; omega)
  intro t ht
  rcases List.mem_append.mp ht with q | q
  · obtain ⟨e, he, rfl⟩ := List.mem_map.mp q
    exact hok e (List.mem_of_mem_take he)
  · rcases List.mem_cons.mp q with rfl | q
    · have h1 := h.len
      have h2 := h.mom
      have h3 : (es.take c).length ≤ es.length := by rw [List.length_take]; omega
      exact kpJ_gd hls (take_go h.go c) (by omega) (by omega) (fun x z => by cases z)
    · obtain ⟨e, he, rfl⟩ := List.mem_map.mp q
      exact hok e (List.mem_of_mem_drop he)
theorem usK_sub {ls : List LJ} {es : List En} {c : Nat} {t : Tk} (h : t ∈ usK ls es c) : t ∈ usJ ls es c := List.mem_append_right _ h
theorem jour_full {ls : List LJ} {es : List En} {m c : Nat} (h : JOk es m c) : GoodC ps0 (usJ ls es c) ∧ ((usJ ls es c).foldl takeP ps0).drop = 0 := by
  have e0 : es.take c ++ es.drop c = es := List.take_append_drop c es
  obtain ⟨a1, a2, a3, a4⟩ := good_en (fs := es.take c) (relP_0 ls) (m := m) (by rw [List.nil_append]; exact take_go h.go c)
  rw [List.nil_append] at a2
  have hd0 : (((es.take c).map Tk.en).foldl takeP ps0).drop = 0 := a3
  generalize hp : ((es.take c).map Tk.en).foldl takeP ps0 = p at a1 a2 a4 hd0
  have hbl : p.blank = true → es.take c = [] := fun z => by
    cases q : es.take c with
    | nil => rfl
    | cons e r =>
      have := a4 (.inl (by rw [q]; simp))
      rw [z] at this; cases this
  obtain ⟨b1, b2, b3⟩ := relP_kp (take_go h.go c) a2 fun z => ⟨hbl z, rfl⟩
  obtain ⟨c1, c2, c3, c4⟩ := good_en (fs := es.drop c) b2 (m := m) (by rw [e0]; exact h.go)
  have hdk : (takeP p (kpJ ls (es.take c) none)).drop = 0 := by
    cases hb : p.blank with
    | false => rw [b3 hb]; exact hd0
    | true =>
      have he := hbl hb
      have e1 : p = ps0 := by rw [← hp, he]; rfl
      rw [he, e1]
      rfl
  unfold usJ
  refine ⟨goodC_app.mpr ⟨a1, by rw [hp]; exact ⟨b1, c1⟩⟩, ?_⟩
  rw [List.foldl_append, hp, List.foldl_cons, c3, hdk]
theorem jour_short {ls : List LJ} {es : List En} {m c : Nat} (h : JOk es m c) : GoodC ps0 (usK ls es c) ∧ ((usK ls es c).foldl takeP ps0).drop = c := by
  have e0 : es.take c ++ es.drop c = es := List.take_append_drop c es
  obtain ⟨b1, b2, b3⟩ := relP_kp0 (ls := ls) (v := none) (take_go h.go c)
  obtain ⟨c1, c2, c3, c4⟩ := good_en (fs := es.drop c) b2 (m := m) (by rw [e0]; exact h.go)
  refine ⟨⟨b1, c1⟩, ?_⟩
  show (((es.drop c).map Tk.en).foldl takeP (takeP ps0 (kpJ ls (es.take c) none))).drop = c
  rw [c3, b3, List.length_take, Nat.min_eq_left h.cut]
theorem jour_tell {ls : List LJ} (hls : OkLs ls) {es : List En} {m c : Nat} (h : JOk es m c) : JSt1 (journalOf (recZ (zsJ ls es c))) es 0 ∧ JSt1 (journalOf ((recZ (zsJ ls es c)).drop c)) (es.drop c) c := by
  have hg := jour_gd hls h
  have hs : (recZ (zsJ ls es c)).map (·.2) = bodsT (usJ ls es c) := by rw [recZ_snd, zsJ_bods h.cut]
  constructor
  · have e := jour_end (recZ_cons (zsJ ls es c)) hs hg (jour_full h).1 (.inl rfl)
    refine ⟨?_, ?_⟩
    · rw [e.ents]
      show [] ++ entsT (usJ ls es c) = es
      unfold usJ
      rw [List.nil_append, entsT_app, ents_en]
      show _ ++ ([] ++ entsT ((es.drop c).map .en)) = _
      rw [List.nil_append, ents_en, List.take_append_drop]
    · rw [e.past]
      exact (jour_full (ls := ls) h).2
  · have hs2 : ((recZ (zsJ ls es c)).drop c).map (·.2) = bodsT (usK ls es c) := by
      rw [List.map_drop, hs]
      unfold usJ usK
      rw [bodsT_app, bods_en, List.drop_left' (by rw [List.length_map, List.length_take, Nat.min_eq_left h.cut])]
    have e := jour_end (cons_drop c (recZ_cons (zsJ ls es c))) hs2 (fun t ht => hg t (usK_sub ht)) (jour_short h).1 (.inr fun t q => by cases q; rfl)
    refine ⟨?_, ?_⟩
    · rw [e.ents]
      show [] ++ ([] ++ entsT ((es.drop c).map .en)) = _
      rw [List.nil_append, List.nil_append, ents_en]
    · rw [e.past]
      exact (jour_short (ls := ls) h).2
theorem zsJ_len {ls : List LJ} {es : List En} {m c : Nat} (h : JOk es m c) : (zsJ ls es c).length ≤ 70 := by
  have h1 := foldJ_len ls (es.take c) []
  have h1 : (rowsJ ls (es.take c)).length ≤ 0 + (es.take c).length := h1
  have h2 := h.len
  unfold zsJ zsK
  simp only [List.length_append, List.length_map, List.length_cons, List.length_nil, List.length_take, List.length_drop] at h1 ⊢
  omega
theorem recZ_ok {ls : List LJ} (hls : OkLs ls) {es : List En} {m c : Nat} (h : JOk es m c) : RecsOk (recZ (zsJ ls es c)) := by
  have hl := zsJ_len (ls := ls) h
  have hs : (recZ (zsJ ls es c)).map (·.2) = bodsT (usJ ls es c) := by rw [recZ_snd, zsJ_bods h.cut]
  refine ⟨fun r hr => ?_, fun r hr => ?_⟩
  · have : r.2 ∈ bodsT (usJ ls es c) := by rw [← hs]; exact List.mem_map.mpr ⟨r, hr, rfl⟩
    obtain ⟨l, hl2, hx⟩ := List.mem_flatten.mp this
    obtain ⟨t, ht, rfl⟩ := List.mem_map.mp hl2
    exact bodT_isB (jour_gd hls h t ht) _ hx
  · obtain ⟨k, hk, rfl⟩ := List.mem_map.mp hr
    have := List.mem_range.mp hk
    show k < 1000000
    omega
section
variable {P : Program} {w : World} {K : PySem.W.Frag} {mg : Str → Option Value} {base : Heap}
abbrev nLj : List Str := ["limits", "entries", "number", "is_short", "rows", "moment", "bodies", "records", "entry", "row", "k"]
abbrev sLj : Stmt := top 89
theorem scLj : FnScope nLj ["limits", "entries", "number", "is_short"] (defScope sLj) := ⟨rfl, rfl, rfl, by decide +kernel, rfl, by decide +kernel, by decide +kernel⟩
noncomputable def jourJ (ls : List LJ) (es : List En) (c : Nat) (b : Bool) : JS := journalOf (if b = true then (recZ (zsJ ls es c)).drop c else recZ (zsJ ls es c))
def shortD (es : List En) (c : Nat) (b : Bool) (s : JS) : Prop := s.ents = (if b = true then es.drop c else es) ∧ s.past.drop = (if b = true then c else 0)
def gLj (C CP : Addr) : List D → (D → Prop) → Prop := fun ds P => ∃ (ls : List LJ) (es : List En) (m c : Nat) (b : Bool), ds = [.lst (ls.map ljD), .lst (es.map enD), .int (c : Nat), .bl b] ∧ OkLs ls ∧ JOk es m c ∧ P = fun d => d = jsD C CP (jourJ ls es c b)
theorem jourJ_is {ls : List LJ} (hls : OkLs ls) {es : List En} {m c : Nat} (b : Bool) (h : JOk es m c) : shortD es c b (jourJ ls es c b) := by
  obtain ⟨t1, t2⟩ := jour_tell hls h
  cases b with
  | false => exact ⟨t1.ents, t1.drop⟩
  | true => exact ⟨t2.ents, t2.drop⟩
theorem ok_lj {C CP : Addr} {f : Addr} {fd : FuncData} (F : Fun K "_law_journal" "_law_journal" sLj f fd) (T : Bt mg) (cR : PFn P w K mg base 6 "_law_rows" 2 gRs) (cB : PFn P w K mg base 1 "_law_body" 1 gBo) (cH : PFn P w K mg base 2 "_law_head_body" 4 gLh2) (cW : PFn P w K mg base 1 "_law_row_body" 1 gRo) (cT : PFn P w K mg base 4 "_law_text" 1 gLt) (cJ : OFn P w K mg base 10 "recovered" 1 (gRe C CP)) : FnOk P w K mg base CX0 11 f fd ["limits", "entries", "number", "is_short"] (spP K 4 (gLj C CP)) := by
  refine fn_pure F scLj (by rintro ds Pd ⟨_, _, _, _, _, rfl, _⟩; rfl) fun cdv A outer s H E ds Pd hr hG => ?_
  obtain ⟨ls, es, m, c, b, rfl, hls, hj, rfl⟩ := hG
  have nd := scLj.nd
  have hlen := hj.len
  have hm := hj.mom
  have hcut := hj.cut
  have hok := goE_ok hj.go (by omega) (by omega)
  have etake : cut (es.map enD) none (some (c : Int)) = (es.take c).map enD := by rw [cut_map, cut_takeN]
  have edrop : cut (es.map enD) (some (c : Int)) none = (es.drop c).map enD := by rw [cut_map, cut_dropN]
  have hlt : (es.take c).length ≤ 30 := by rw [List.length_take]; omega
  have hld : (es.drop c).length ≤ 30 := by rw [List.length_drop]; omega
  have hrl : (rowsJ ls (es.take c)).length ≤ 0 + (es.take c).length := foldJ_len ls (es.take c) []
  have hrg : ∀ r ∈ rowsJ ls (es.take c), GdR r := rows_gd hls (fun _ h => by cases h) fun e he => hok e (List.mem_of_mem_take he)
  refine jss_cons (js_set (i := 4) (j_call cR hr (ja_cons (jv 0 rfl) (ja_cons (J.to (j_sl (jv 1 rfl) jo_none (jo_some (jv 2 rfl)) sld_L) (congrArg D.lst etake)) ja_nil)) ⟨ls, es.take c, rfl, hls, fun e he => hok e (List.mem_of_mem_take he), by omega, rfl⟩ (fun _ h => h)) ?_ nd)
  have hmo : momE (es.take c) = if 0 < c then (es[c - 1]?).map enM else none := by
    by_cases h : 0 < c
    · rw [if_pos h]
      unfold momE
      rw [List.getLast?_eq_getElem?, List.length_take, Nat.min_eq_left hcut, List.getElem?_take_of_lt (by omega)]
    · rw [if_neg h, show c = 0 from by omega]; rfl
  refine jss_cons (js_set (i := 5) (J.to (j_ifExp (t := decide (0 < c)) (d1 := optN (momE (es.take c))) (d2 := .non) (JT.to (jt_cm (jv 2 rfl) j_int cd_gtI) (decide_eq_decide.mpr ⟨fun q => by omega, fun q => by omega⟩)) (fun h => ?_) (fun _ => j_non)) (d' := optN (momE (es.take c))) ?_) ?_ nd)
  · have h := of_decide_eq_true h
    have hlt2 : c - 1 < es.length := by omega
    rw [if_pos h, List.getElem?_eq_getElem hlt2] at hmo
    rw [hmo]
    have e2 : atI (enL es[c - 1]) (-1) = some (.int (enM es[c - 1] : Int)) := by cases es[c - 1] <;> rfl
    exact j_ix (j_ix (jv 1 rfl) (j_bin (jv 2 rfl) j_int od_subI) (ixd_L (d := .tup (enL es[c - 1])) (atI_list (c - 1) (by omega) (by rw [List.getElem?_map, List.getElem?_eq_getElem hlt2]; rfl)))) (j_neg j_int) (ixd_T e2)
  · by_cases h : 0 < c
    · rw [decide_eq_true h, if_pos rfl]
    · rw [decide_eq_false h, hmo, if_neg h]; rfl
  refine jss_cons (js_set (i := 6) (J.to (j_lcM (own := [("entry", 8)]) (i := 8) (es.take c) enD (fun e => D.str (ebody e)) (ji_list (J.to (j_sl (jv 1 rfl) jo_none (jo_some (jv 2 rfl)) sld_L) (congrArg D.lst etake))) (blkOk_by (N := nLj) (sc := defScope sLj) (by decide +kernel)) (fun _ _ _ _ _ => pg_name nd rfl (Or.inl rfl)) (lt_size (by omega)) (fun e he _ _ _ _ _ => j_call cB hr (ja_cons (jv 8 rfl) ja_nil) ⟨e, rfl, hok e (List.mem_of_mem_take he), rfl⟩ (fun _ h => h)) nd) (d' := .lst (((es.take c).map ebody).map D.str)) (by rw [List.map_map]; rfl)) ?_ nd)
  have hOH : OkH (rowsJ ls (es.take c)).length c (momE (es.take c)) none := by
    have hg := kpJ_gd hls (take_go hj.go c) (v := none) (by omega) (by omega) (fun x z => by cases z)
    have := hg.1.ok
    refine ⟨this.a, by omega, this.m, fun x z => by cases z⟩
  refine jss_cons (js_set (i := 6) (J.to (j_bin (j_bin (jv 6 rfl) (j_lst (ja_cons (j_call cH hr (ja_cons (jv 4 rfl) (ja_cons (jv 2 rfl) (ja_cons (jv 5 rfl) (ja_cons j_non ja_nil)))) ⟨rowsJ ls (es.take c), c, _, none, rfl, hOH, rfl⟩ (fun _ h => h)) ja_nil)) (od_addL (by rw [List.length_map, List.length_map]; exact le_size (by simp only [List.length_cons, List.length_nil]; omega)))) (j_lcM (own := [("row", 9)]) (i := 9) (rowsJ ls (es.take c)) rowD (fun r => D.str (rbody r)) (ji_list (jv 4 rfl)) (blkOk_by (N := nLj) (sc := defScope sLj) (by decide +kernel)) (fun _ _ _ _ _ => pg_name nd rfl (Or.inl rfl)) (lt_size (by omega)) (fun r hm2 _ _ _ _ _ => j_call cW hr (ja_cons (jv 9 rfl) ja_nil) ⟨r, rfl, (hrg r hm2).ok, rfl⟩ (fun _ h => h)) nd) (od_addL (by rw [List.length_append, List.length_map, List.length_map, List.length_map]; exact le_size (by simp only [List.length_cons, List.length_nil]; omega)))) (d' := .lst (((es.take c).map ebody ++ [hbody (rowsJ ls (es.take c)).length c (momE (es.take c)) none] ++ (rowsJ ls (es.take c)).map rbody).map D.str)) (by rw [List.map_append, List.map_append, List.map_map, List.map_map]; rfl)) ?_ nd)
  refine jss_cons (js_set (i := 6) (J.to (j_bin (jv 6 rfl) (j_lcM (own := [("entry", 8)]) (i := 8) (es.drop c) enD (fun e => D.str (ebody e)) (ji_list (J.to (j_sl (jv 1 rfl) (jo_some (jv 2 rfl)) jo_none sld_L) (congrArg D.lst edrop))) (blkOk_by (N := nLj) (sc := defScope sLj) (by decide +kernel)) (fun _ _ _ _ _ => pg_name nd rfl (Or.inl rfl)) (lt_size (by omega)) (fun e he _ _ _ _ _ => j_call cB hr (ja_cons (jv 8 rfl) ja_nil) ⟨e, rfl, hok e (List.mem_of_mem_drop he), rfl⟩ (fun _ h => h)) nd) (od_addL (by rw [List.length_map, List.length_map]; simp only [List.length_append, List.length_map]; exact le_size (by simp only [List.length_cons, List.length_nil]; omega)))) (d' := .lst ((zsJ ls es c).map D.str)) (by
    unfold zsJ zsK
    rw [show ((es.drop c).map fun e => D.str (ebody e)) = ((es.drop c).map ebody).map D.str from by rw [List.map_map]; rfl, ← List.map_append]
    simp only [List.append_assoc])) ?_ nd)
  have hzl := zsJ_len (ls := ls) hj
  have hro := recZ_ok hls hj
  unfold jourJ
  have hcs := recZ_cons (zsJ ls es c)
  have hrlen := recZ_len (zsJ ls es c)
  have lenZ : lenD (.lst ((zsJ ls es c).map D.str)) = some (zsJ ls es c).length := by show some _ = _; rw [List.length_map]
  refine jss_cons (js_setLcN (own := [("k", 10)]) (i := 7) (j := 10) (List.range (zsJ ls es c).length) (fun k => D.int (0 + (k : Nat))) (fun _ => true) (fun k => rcD (k, zB ((zsJ ls es c).getD k ""))) (ji_rangeN _ T (jb_len T (ja_cons (jv 6 rfl) ja_nil) lenZ) (by omega) (by omega) (by omega)) (blkOk_by (N := nLj) (sc := defScope sLj) (by decide +kernel)) (fun _ _ _ _ _ => pg_name nd rfl (Or.inl rfl)) (by rw [List.length_range]; exact lt_size (by omega)) (fun k hk _ _ _ _ _ => ⟨jts_nil, fun _ => ?_⟩) ?_ nd (by rfl))
  · have hk := List.mem_range.mp hk
    refine J.to (j_tup (ja_cons (J.to (jv 10 rfl) (d' := .int (k : Nat)) (by rw [Int.zero_add])) (ja_cons (j_ix (jv 6 rfl) (J.to (jv 10 rfl) (d' := .int (k : Nat)) (by rw [Int.zero_add])) (ixd_L (atI_mapN D.str "" k rfl hk))) ja_nil))) ?_
    unfold rcD
    rw [zB_tx]
  rw [show (List.range (zsJ ls es c).length).filter (fun _ => true) = List.range (zsJ ls es c).length from List.filter_eq_self.mpr fun _ _ => rfl, show ((List.range (zsJ ls es c).length).map fun k => rcD (k, zB ((zsJ ls es c).getD k ""))) = (recZ (zsJ ls es c)).map rcD from by unfold recZ; rw [List.map_map]; rfl]
  generalize hR : recZ (zsJ ls es c) = rs at hro hcs hrlen ⊢
  have fin : ∀ (qs : List Rec) (a : Nat), ConsR a qs → RecsOk qs → qs.length ≤ 70 → journalOf qs = journalOf (if b = true then rs.drop c else rs) → ∀ ρ7 : RhoS, ρ7[7]? = some (some (.fz (.lst (qs.map rcD)))) → ρ7.length = 11 → JSs (cxOf CX0 P w K mg base nLj "_law_journal" (defScope sLj) f cdv A outer s H E).nox [] ((defBody sLj).drop 7) ρ7 (fin fun d => d = jsD C CP (journalOf (if b = true then rs.drop c else rs))) := fun qs a h1 h2 h3 h4 ρ7 h7 h8 => by
    have hfl := flat_len h2
    have hw := whole_flat h1 h2
    refine jss_cons (js_retP (jp_O (jo_call cJ hr (ja_cons (j_call cT hr (ja_cons (j_var (i := 7) (by unfold allR; rw [List.getElem?_map, h7]; rfl) rfl (Or.inl rfl)) ja_nil) ⟨qs, rfl, h2, by omega, rfl⟩ (fun _ h => h)) ja_nil) ⟨flatR qs, rfl, by omega, by rw [hw]; omega, rfl⟩)) ?_)
    rintro _ ⟨rfl, _⟩
    show jsD C CP (journalOf (R39.wholeN (flatR qs))) = _
    rw [hw, h4]
  cases b with
  | false =>
    refine jss_cons (js_ifF (jt_val (jv 3 rfl)) (jss_nil ?_))
    exact fin rs 0 hcs hro (by omega) rfl _ rfl rfl
  | true =>
    refine jss_cons (js_ifT (jt_val (jv 3 rfl)) (jss_cons (js_set (i := 7) (J.to (j_sl (jv 7 rfl) (jo_some (jv 2 rfl)) jo_none sld_L) (d' := .lst ((rs.drop c).map rcD)) (by rw [cut_map, cut_dropN])) (jss_nil ?_) nd)))
    exact fin (rs.drop c) (0 + c) (cons_drop c hcs) ⟨fun r hr2 => hro.ok r (List.mem_of_mem_drop hr2), fun r hr2 => hro.num r (List.mem_of_mem_drop hr2)⟩ (by rw [List.length_drop]; omega) rfl _ rfl rfl
end
end Toy

namespace Toy
open PySem PyProof.Rows L2 Pf
theorem eqv_en1 (a b : En) : eqvD (enD a) (enD b) = true ↔ a = b := by
  have hs : ∀ k m : Nat, eqvD (.str "ask") (.str "release") = false := fun _ _ => by rw [eqv_str]; exact decide_eq_false (by decide +kernel)
  cases a with
  | ask a => cases b with
    | ask b =>
      have e : eqvD (enD (.ask a)) (enD (.ask b)) = (eqvD (.str "ask") (.str "ask") && eqvD (askT a) (askT b)) := rfl
      rw [e, eqv_str, eqv_ask, decide_eq_true rfl, Bool.true_and, decide_eq_true_iff]
      exact ⟨fun h => by rw [h], fun h => by cases h; rfl⟩
    | rel k m =>
      have e : eqvD (enD (.ask a)) (enD (.rel k m)) = (eqvD (.str "ask") (.str "release") && eqvAllD (askL a) [.str k, .int (m : Int)]) := rfl
      rw [e, hs 0 0, Bool.false_and]
      exact ⟨fun h => (by cases h), fun h => (by cases h)⟩
  | rel k m => cases b with
    | ask b =>
      have e : eqvD (enD (.rel k m)) (enD (.ask b)) = (eqvD (.str "release") (.str "ask") && eqvAllD [.str k, .int (m : Int)] (askL b)) := rfl
      rw [e, eqv_str, decide_eq_false (by decide +kernel), Bool.false_and]
      exact ⟨fun h => (by cases h), fun h => (by cases h)⟩
    | rel k' m' =>
      have e : eqvD (enD (.rel k m)) (enD (.rel k' m')) = (eqvD (.str "release") (.str "release") && (eqvD (.str k) (.str k') && (eqvD (.int (m : Int)) (.int (m' : Int)) && true))) := rfl
      rw [e, eqv_str, eqv_str, eqv_nat, decide_eq_true rfl, Bool.true_and, Bool.and_true, Bool.and_eq_true, decide_eq_true_iff, decide_eq_true_iff]
      exact ⟨fun h => by rw [h.1, h.2], fun h => by cases h; exact ⟨rfl, rfl⟩⟩
instance decEn : DecidableEq En := fun a b => decidable_of_iff _ (eqv_en1 a b)
theorem eqv_en (a b : En) : eqvD (enD a) (enD b) = decide (a = b) := by rw [Bool.eq_iff_iff, eqv_en1, decide_eq_true_iff]
theorem eqv_ens (es fs : List En) : eqvD (.lst (es.map enD)) (.lst (fs.map enD)) = decide (es = fs) := eqvAll_map enD eqv_en es fs
theorem en_fit {e : En} (h : OkEn e) : fitD 3 (enD e) = true := by
  cases e with
  | ask a =>
    have h : OkAsk a := h
    have h2 := ask_fit h
    show (fitD 2 (.str "ask") && fitAllD 2 (askL a)) = true
    rw [show fitAllD 2 (askL a) = true from h2, show fitD 2 (.str "ask") = true from by decide +kernel]; rfl
  | rel k m =>
    have h : isKy k = true ∧ m ≤ 1000000000 := h
    have k1 : fitD 2 (.str k) = true := strOk_wd (wd_ky h.1)
    show (fitD 2 (.str "release") && (fitD 2 (.str k) && (fitD 2 (.int (m : Int)) && true))) = true
    rw [k1, show fitD 2 (.str "release") = true from by decide +kernel]; rfl
theorem ens_fit : ∀ {es : List En}, (∀ e ∈ es, OkEn e) → fitAllD 3 (es.map enD) = true
  | [], _ => rfl
  | e :: es, h => by
    show (fitD 3 (enD e) && fitAllD 3 (es.map enD)) = true
    rw [en_fit (h e List.mem_cons_self), ens_fit fun x hx => h x (List.mem_cons_of_mem _ hx)]; rfl
def agZ (es fs : List En) : Bool := (es.zip fs).all fun p => decide (p.1 = p.2)
def cpl : List En → List En → Nat
  | a :: as, b :: bs => if a = b then cpl as bs + 1 else 0
  | _, _ => 0
theorem cpl_le : ∀ es fs : List En, cpl es fs ≤ es.length ∧ cpl es fs ≤ fs.length
  | [], _ => ⟨Nat.le_refl _, Nat.zero_le _⟩
  | _ :: _, [] => ⟨Nat.zero_le _, Nat.le_refl _⟩
  | a :: as, b :: bs => by
    have := cpl_le as bs
    unfold cpl
    split
    · simp only [List.length_cons]; omega
    · simp
theorem cpl_iff : ∀ (es fs : List En) (k : Nat), k < es.length → k < fs.length → (es.take (k + 1) = fs.take (k + 1) ↔ k < cpl es fs)
  | [], _, k, h, _ => by simp at h
  | _ :: _, [], k, _, h => by simp at h
  | a :: as, b :: bs, k, h1, h2 => by
    rw [List.take_succ_cons, List.take_succ_cons, List.cons.injEq]
    unfold cpl
    by_cases e : a = b
    · rw [if_pos e]
      cases k with
      | zero => exact ⟨fun _ => by omega, fun _ => ⟨e, by rw [List.take_zero, List.take_zero]⟩⟩
      | succ k =>
        rw [cpl_iff as bs k (by simpa using h1) (by simpa using h2)]
        exact ⟨fun z => by omega, fun z => ⟨e, by omega⟩⟩
    · rw [if_neg e]
      exact ⟨fun z => absurd z.1 e, fun z => by omega⟩
theorem same_len (es fs : List En) : ((List.range (min es.length fs.length)).filter fun k => decide (es.take (k + 1) = fs.take (k + 1))).length = cpl es fs := by
  have e1 : (List.range (min es.length fs.length)).filter (fun k => decide (es.take (k + 1) = fs.take (k + 1))) = (List.range (min es.length fs.length)).filter fun k => decide (k < cpl es fs) := List.filter_congr fun k hk => by
    have := List.mem_range.mp hk
    exact decide_eq_decide.mpr (cpl_iff es fs k (by omega) (by omega))
  rw [e1]
  have hc := cpl_le es fs
  have key : ∀ (n c : Nat), c ≤ n → ((List.range n).filter fun k => decide (k < c)).length = c := by
    intro n
    induction n with
    | zero => intro c h; rw [show c = 0 from by omega]; rfl
    | succ n ih =>
      intro c h
      rw [List.range_succ, List.filter_append, List.length_append]
      by_cases z : c ≤ n
      · rw [ih c z, List.filter_cons_of_neg (by simpa using z)]; rfl
      · rw [List.filter_eq_self.mpr fun k hk => by have := List.mem_range.mp hk; exact decide_eq_true (by omega), List.length_range, List.filter_cons_of_pos (by simp; omega)]
        simp; omega
  exact key _ _ (by omega)
section
variable {P : Program} {w : World} {K : PySem.W.Frag} {mg : Str → Option Value} {base : Heap}
theorem lenE (es : List En) : lenD (.lst (es.map enD)) = some es.length := by show some _ = _; rw [List.length_map]
abbrev nAg : List Str := ["first", "second", "start", "left", "right", "entry", "other"]
abbrev sAg : Stmt := top 62
theorem scAg : FnScope nAg ["first", "second"] (defScope sAg) := ⟨rfl, rfl, rfl, by decide +kernel, rfl, by decide +kernel, by decide +kernel⟩
structure OkEs (es : List En) : Prop where
  ok : ∀ e ∈ es, OkEn e
  few : es.length ≤ 3000
def agB (s t : JS) : Bool := agZ (s.ents.drop (max s.past.drop t.past.drop - s.past.drop)) (t.ents.drop (max s.past.drop t.past.drop - t.past.drop))
def gAg (C CP : Addr) : List D → (D → Prop) → Prop := fun ds P => ∃ s t : JS, ds = [jsD C CP s, jsD C CP t] ∧ OkEs s.ents ∧ OkEs t.ents ∧ P = fun d => d = .bl (agB s t)
theorem j_max0 (a b : Nat) : (if (b : Int) > (a : Int) then (b : Int) else (a : Int)) = ((max a b : Nat) : Int) := by
  split
  · rw [Nat.max_eq_right (by omega)]
  · rw [Nat.max_eq_left (by omega)]
theorem ok_ag {C CP : Addr} {f : Addr} {fd : FuncData} (F : Fun K "agree" "agree" sAg f fd) (T : Bt mg) (X : Kj K mg C) (cF : PMeth P w K mg base 1 C "first_entry" 1 (gJf C CP)) (cE : PMeth P w K mg base 1 C "entries" 1 (gJe C CP)) : FnOk P w K mg base CX0 2 f fd ["first", "second"] (spP K 2 (gAg C CP)) := by
  refine fn_pure F scAg (by rintro ds Pd ⟨_, _, rfl, _⟩; rfl) fun cdv A outer s0 H E ds Pd hr hG => ?_
  obtain ⟨s, t, rfl, hs, ht, rfl⟩ := hG
  have nd := scAg.nd
  have fs := hs.few
  have ft := ht.few
  have hd : ∀ {es : List En} {n : Nat}, OkEs es → ∀ e ∈ es.drop n, OkEn e := fun h e he => h.ok e (List.mem_of_mem_drop he)
  refine jss_cons (js_set (i := 2) (J.to (jb_max2 T (ja_cons (j_meth0 cF X.cl hr (jv 0 rfl) (lkJ (by decide +kernel)) ⟨s, rfl, rfl⟩ (fun _ h => h)) (ja_cons (j_meth0 cF X.cl hr (jv 1 rfl) (lkJ (by decide +kernel)) ⟨t, rfl, rfl⟩ (fun _ h => h)) ja_nil))) (congrArg D.int (j_max0 s.past.drop t.past.drop))) ?_ nd)
  have h1 : s.past.drop ≤ max s.past.drop t.past.drop := Nat.le_max_left _ _
  have h2 : t.past.drop ≤ max s.past.drop t.past.drop := Nat.le_max_right _ _
  have eB : agB s t = agZ (s.ents.drop (max s.past.drop t.past.drop - s.past.drop)) (t.ents.drop (max s.past.drop t.past.drop - t.past.drop)) := rfl
  rw [eB]
  generalize max s.past.drop t.past.drop = mx at h1 h2
  refine jss_cons (js_set (i := 3) (J.to (j_sl (j_meth0 cE X.cl hr (jv 0 rfl) (lkJ (by decide +kernel)) ⟨s, rfl, rfl⟩ (fun _ h => h)) (jo_some (J.to (j_bin (jv 2 rfl) (j_meth0 cF X.cl hr (jv 0 rfl) (lkJ (by decide +kernel)) ⟨s, rfl, rfl⟩ (fun _ h => h)) od_subI) (d' := .int ((mx - s.past.drop : Nat) : Int)) (by rw [Int.ofNat_sub h1]))) jo_none sld_L) (d' := .lst ((s.ents.drop (mx - s.past.drop)).map enD)) (by rw [cut_map, cut_dropN])) ?_ nd)
  refine jss_cons (js_set (i := 4) (J.to (j_sl (j_meth0 cE X.cl hr (jv 1 rfl) (lkJ (by decide +kernel)) ⟨t, rfl, rfl⟩ (fun _ h => h)) (jo_some (J.to (j_bin (jv 2 rfl) (j_meth0 cF X.cl hr (jv 1 rfl) (lkJ (by decide +kernel)) ⟨t, rfl, rfl⟩ (fun _ h => h)) od_subI) (d' := .int ((mx - t.past.drop : Nat) : Int)) (by rw [Int.ofNat_sub h2]))) jo_none sld_L) (d' := .lst ((t.ents.drop (mx - t.past.drop)).map enD)) (by rw [cut_map, cut_dropN])) ?_ nd)
  have o1 : ∀ e ∈ s.ents.drop (mx - s.past.drop), OkEn e := hd hs
  have o2 : ∀ e ∈ t.ents.drop (mx - t.past.drop), OkEn e := hd ht
  have l1 : (s.ents.drop (mx - s.past.drop)).length ≤ 3000 := by rw [List.length_drop]; omega
  show JSs _ [] _ [some (.fz (jsD C CP s)), some (.fz (jsD C CP t)), some (.fz (.int (mx : Nat))), some (.fz (.lst ((s.ents.drop (mx - s.past.drop)).map enD))), some (.fz (.lst ((t.ents.drop (mx - t.past.drop)).map enD))), none, none] _
  generalize s.ents.drop (mx - s.past.drop) = xs at o1 l1
  generalize t.ents.drop (mx - t.past.drop) = ys at o2
  refine jss_cons (js_ret (jb_all T (bs := (xs.zip ys).map fun p => decide (p.1 = p.2)) (ja_cons (J.to (j_lc (own := [("entry", 5), ("other", 6)]) (pat := .tp [5, 6]) (its := (xs.zip ys).map fun p => (D.tup [enD p.1, enD p.2], some (D.bl (decide (p.1 = p.2))))) ?_ (blkOk_by (N := nAg) (sc := defScope sAg) (by decide +kernel)) (fun _ _ _ _ _ => pg_tup rfl (pgs_cons (pg_name nd rfl (Or.inl rfl)) (pgs_cons (pg_name nd rfl (Or.inl rfl)) pgs_nil))) (by decide) (by rw [List.length_map, List.length_zip]; exact lt_size (by omega)) (fun q hq => ?_) nd) ?_) ja_nil)) ?_)
  · rw [fst_map]
    have e : ((xs.map enD).zip (ys.map enD)).map (fun p => D.tup [p.1, p.2]) = (xs.zip ys).map fun p => D.tup [enD p.1, enD p.2] := by
      rw [List.zip_map, List.map_map]; rfl
    rw [← e]
    exact ji_zipL T.zip (jv 3 rfl) (jv 4 rfl)
  · obtain ⟨x, hx, rfl⟩ := List.mem_map.mp hq
    have hx := List.of_mem_zip hx
    exact ⟨_, rfl, fun _ _ _ _ _ => ⟨jts_nil, J.to (j_cm (jv 5 rfl) (jv 6 rfl) (cd_eqF 3 hr.units (en_fit (o1 _ hx.1)) (en_fit (o2 _ hx.2)))) (congrArg D.bl (eqv_en x.1 x.2))⟩⟩
  · rw [List.filterMap_map, List.map_map]
    exact congrArg D.lst (List.filterMap_eq_map.symm ▸ rfl)
  · show D.bl _ = D.bl (agZ xs ys)
    unfold agZ
    rw [List.all_map]; rfl
abbrev sIb : Stmt := top 64
theorem scIb : FnScope ["first", "second"] ["first", "second"] (defScope sIb) := ⟨rfl, rfl, rfl, by decide +kernel, rfl, by decide +kernel, by decide +kernel⟩
def gIb : List D → (D → Prop) → Prop := fun ds P => ∃ es fs : List En, ds = [.lst (es.map enD), .lst (fs.map enD)] ∧ OkEs es ∧ OkEs fs ∧ P = fun d => d = .bl (decide (fs.take es.length = es))
theorem ok_ib {f : Addr} {fd : FuncData} (F : Fun K "is_beginning" "is_beginning" sIb f fd) (T : Bt mg) : FnOk P w K mg base CX0 1 f fd ["first", "second"] (spP K 2 gIb) := by
  refine fn_pure F scIb (by rintro ds Pd ⟨_, _, rfl, _⟩; rfl) fun cdv A outer s H E ds Pd hr hG => ?_
  obtain ⟨es, fs, rfl, he, hf, rfl⟩ := hG
  refine jss_cons (js_ret (j_cm (J.to (j_sl (jv 1 rfl) jo_none (jo_some (jb_len T (ja_cons (jv 0 rfl) ja_nil) (lenE es))) sld_L) (d' := .lst ((fs.take es.length).map enD)) (by rw [cut_map, cut_takeN])) (jv 0 rfl) (cd_eqF 4 hr.units (ens_fit fun x hx => hf.ok x (List.mem_of_mem_take hx)) (ens_fit he.ok))) ?_)
  show D.bl (eqvD _ _) = _
  exact congrArg D.bl (eqv_ens _ _)
abbrev sCm : Stmt := top 63
theorem scCm : FnScope ["first", "second", "many"] ["first", "second"] (defScope sCm) := ⟨rfl, rfl, rfl, by decide +kernel, rfl, by decide +kernel, by decide +kernel⟩
def gCm : List D → (List D → Prop) → Prop := fun ds P => ∃ es fs : List En, ds = [.lst (es.map enD), .lst (fs.map enD)] ∧ OkEs es ∧ OkEs fs ∧ P = fun l => l = (es.take (cpl es fs)).map enD
theorem j_min0 (a b : Nat) : (if (b : Int) < (a : Int) then (b : Int) else (a : Int)) = ((min a b : Nat) : Int) := by
  split
  · rw [Nat.min_eq_right (by omega)]
  · rw [Nat.min_eq_left (by omega)]
theorem at_en {es : List En} {k : Nat} (h : k < es.length) : atI (es.map enD) (k : Int) = some (enD es[k]) := atI_list k rfl (by rw [List.getElem?_map, List.getElem?_eq_getElem h]; rfl)
theorem ok_cm {f : Addr} {fd : FuncData} (F : Fun K "common_beginning" "common_beginning" sCm f fd) (T : Bt mg) : FnOk P w K mg base CX0 1 f fd ["first", "second"] (spN K 2 gCm) := by
  refine fn_newB F scCm (by rintro ds Pd ⟨_, _, rfl, _⟩; rfl) fun cdv A outer s H E ds Pd hr hG => ?_
  obtain ⟨es, fs, rfl, he, hf, rfl⟩ := hG
  have nd := scCm.nd
  refine jr_cons (js_set (i := 2) j_int ?_ nd)
  refine jr_mid (fun ρ => ρ = [some (.fz (.lst (es.map enD))), some (.fz (.lst (fs.map enD))), some (.fz (.int (cpl es fs : Nat)))]) (js_while (fun ρ => ∃ k : Nat, ρ = [some (.fz (.lst (es.map enD))), some (.fz (.lst (fs.map enD))), some (.fz (.int (k : Nat)))] ∧ cpl es fs = k + cpl (es.drop k) (fs.drop k)) (fun ρ => es.length - numAt 2 ρ) ⟨0, rfl, by rw [Nat.zero_add]; rfl⟩ ?_ PassesOwn.never) ?_
  · rintro _ ⟨k, rfl, hk⟩
    by_cases hm : k < min es.length fs.length
    · have h1 : k < es.length := by omega
      have h2 : k < fs.length := by omega
      refine ⟨decide (es[k] = fs[k]), JT.to (jt_w (jw_and (t := true) (JT.to (jt_cm (jv 2 rfl) (J.to (jb_min2 T (ja_cons (jb_len T (ja_cons (jv 0 rfl) ja_nil) (lenE es)) (ja_cons (jb_len T (ja_cons (jv 1 rfl) ja_nil) (lenE fs)) ja_nil))) (congrArg D.int (j_min0 es.length fs.length))) cd_ltI) (decide_eq_true (by omega))) (fun _ => jw_and1 (JT.to (jt_cm (j_ix (jv 0 rfl) (jv 2 rfl) (ixd_L (at_en h1))) (j_ix (jv 1 rfl) (jv 2 rfl) (ixd_L (at_en h2))) (cd_eqF 3 hr.units (en_fit (he.ok _ (List.getElem_mem h1))) (en_fit (hf.ok _ (List.getElem_mem h2))))) (eqv_en _ _))))) (Bool.true_and _), fun h => ?_, fun h => ?_⟩
      · have h := of_decide_eq_true h
        refine jss_cons (js_augAdd (i := 2) rfl j_int ?_ nd)
        refine jss_nil ⟨⟨k + 1, ?_, ?_⟩, ?_⟩
        · show [_, _, some (SV.fz (.int ((k : Int) + 1)))] = [_, _, some (SV.fz (.int ((k + 1 : Nat) : Int)))]
          rw [show ((k + 1 : Nat) : Int) = (k : Int) + 1 from by omega]
        · rw [hk, List.drop_eq_getElem_cons h1, List.drop_eq_getElem_cons h2]
          show k + (if es[k] = fs[k] then _ else _) = _
          rw [if_pos h]; omega
        · show es.length - ((k : Int) + 1).toNat < es.length - ((k : Int)).toNat
          omega
      · have h := of_decide_eq_false h
        refine ⟨_, rfl, ?_⟩
        have : cpl es fs = k := by
          rw [hk, List.drop_eq_getElem_cons h1, List.drop_eq_getElem_cons h2]
          show k + (if es[k] = fs[k] then _ else _) = _
          rw [if_neg h]; rfl
        rw [this]
    · refine ⟨false, JT.to (jt_w (jw_andF (JT.to (jt_cm (jv 2 rfl) (J.to (jb_min2 T (ja_cons (jb_len T (ja_cons (jv 0 rfl) ja_nil) (lenE es)) (ja_cons (jb_len T (ja_cons (jv 1 rfl) ja_nil) (lenE fs)) ja_nil))) (congrArg D.int (j_min0 es.length fs.length))) cd_ltI) (decide_eq_false (by omega))))) rfl, fun h => (by cases h), fun h => ?_⟩
      refine ⟨_, rfl, ?_⟩
      have : cpl es fs = k := by
        rw [hk]
        by_cases z : es.length ≤ k
        · rw [List.drop_of_length_le z]
          show k + cpl [] _ = k
          unfold cpl; omega
        · rw [List.drop_of_length_le (i := k) (l := fs) (by omega)]
          cases es.drop k <;> (show k + cpl _ [] = k) <;> (unfold cpl; omega)
      rw [this]
  rintro _ rfl
  refine jr_retN (jnp_imp (jnp_of (jn_slL (ds := es.map enD) (jv 0 rfl) jo_none (jo_some (jv 2 rfl)))) fun l hl => ?_)
  rw [hl, cut_map, cut_takeN]
abbrev sLa : Stmt := top 90
theorem scLa : FnScope ["first", "second", "begin", "k"] ["first", "second", "begin"] (defScope sLa) := ⟨rfl, rfl, rfl, by decide +kernel, rfl, by decide +kernel, by decide +kernel⟩
def gLa : List D → (D → Prop) → Prop := fun ds P => ∃ (es fs : List En) (b : Nat), ds = [.lst (es.map enD), .lst (fs.map enD), .int (b : Nat)] ∧ OkEs es ∧ OkEs fs ∧ b ≤ 10000 ∧ P = fun d => d = .bl (agZ (es.drop b) (fs.drop b))
theorem ok_la {f : Addr} {fd : FuncData} (F : Fun K "_law_agree" "_law_agree" sLa f fd) (T : Bt mg) : FnOk P w K mg base CX0 1 f fd ["first", "second", "begin"] (spP K 3 gLa) := by
  refine fn_pure F scLa (by rintro ds Pd ⟨_, _, _, rfl, _⟩; rfl) fun cdv A outer s H E ds Pd hr hG => ?_
  obtain ⟨es, fs, b, rfl, he, hf, hb, rfl⟩ := hG
  have nd := scLa.nd
  have fe := he.few
  have ff := hf.few
  have ji : JI (cxOf CX0 P w K mg base ["first", "second", "begin", "k"] "_law_agree" (defScope sLa) f cdv A outer s H E).nox (forTg ((defBody sLa).getD 0 (.Pass ⟨0, 0, 0, 0⟩))) (forIt ((defBody sLa).getD 0 (.Pass ⟨0, 0, 0, 0⟩))) (fzR [some (.fz (.lst (es.map enD))), some (.fz (.lst (fs.map enD))), some (.fz (.int (b : Nat))), none]) (rangeD (b : Int) (min es.length fs.length - b)) := by
    have e : (((min es.length fs.length : Nat) : Int) - (b : Int)).toNat = min es.length fs.length - b := by omega
    rw [← e]
    exact ji_range2 T.range (jv 2 rfl) (J.to (jb_min2 T (ja_cons (jb_len T (ja_cons (jv 0 rfl) ja_nil) (lenE es)) (ja_cons (jb_len T (ja_cons (jv 1 rfl) ja_nil) (lenE fs)) ja_nil))) (congrArg D.int (j_min0 es.length fs.length))) ⟨by omega, by omega, by omega, by omega⟩
  have zl : ((es.drop b).zip (fs.drop b)).length = min es.length fs.length - b := by rw [List.length_zip, List.length_drop, List.length_drop]; omega
  refine jss_cons (js_for (pat := .nm 3) (ds := rangeD (b : Int) (min es.length fs.length - b)) (fun k ρ => ∃ o : Option SV, ρ = [some (.fz (.lst (es.map enD))), some (.fz (.lst (fs.map enD))), some (.fz (.int (b : Nat))), o] ∧ (((es.drop b).zip (fs.drop b)).take k).all (fun p => decide (p.1 = p.2)) = true) ji (pg_name nd rfl (Or.inl rfl)) ⟨none, rfl, rfl⟩ ?_ ?_ PassesOwn.never)
  · rintro k d _ hd ⟨o, rfl, hall⟩
    obtain ⟨rfl, hk⟩ := rangeD_get hd
    have h1 : b + k < es.length := by omega
    have h2 : b + k < fs.length := by omega
    refine ⟨_, rfl, ?_⟩
    show JSs _ [] _ [some (.fz (.lst (es.map enD))), some (.fz (.lst (fs.map enD))), some (.fz (.int (b : Nat))), some (.fz (.int ((b : Int) + (k : Int))))] _
    rw [show (b : Int) + (k : Int) = ((b + k : Nat) : Int) from by omega]
    have hz : ((es.drop b).zip (fs.drop b))[k]? = some (es[b + k], fs[b + k]) := by
      rw [List.getElem?_zip_eq_some]
      exact ⟨by rw [List.getElem?_drop, List.getElem?_eq_getElem h1], by rw [List.getElem?_drop, List.getElem?_eq_getElem h2]⟩
    refine jss_cons (js_if (t := !decide (es[b + k] = fs[b + k])) (JT.to (jt_cm (j_ix (jv 0 rfl) (jv 3 rfl) (ixd_L (at_en h1))) (j_ix (jv 1 rfl) (jv 3 rfl) (ixd_L (at_en h2))) (cd_neF 3 hr.units (en_fit (he.ok _ (List.getElem_mem h1))) (en_fit (hf.ok _ (List.getElem_mem h2))))) (congrArg not (eqv_en _ _))) (fun h => ?_) (fun h => ?_))
    · rw [Bool.not_eq_true'] at h
      refine jss_cons (js_ret j_bl ?_)
      show D.bl false = D.bl (agZ _ _)
      unfold agZ
      rw [show ((es.drop b).zip (fs.drop b)).all (fun p => decide (p.1 = p.2)) = false from List.all_eq_false.mpr ⟨_, List.mem_of_getElem? hz, by rw [h]; decide⟩]
    · rw [Bool.not_eq_false'] at h
      refine jss_nil (jss_nil ⟨_, rfl, ?_⟩)
      rw [List.take_succ, hz, List.all_append, hall]
      show (true && (decide (es[b + k] = fs[b + k]) && true)) = true
      rw [h]; rfl
  · rintro _ ⟨o, rfl, hall⟩
    rw [rangeD_length, ← zl, List.take_length] at hall
    refine jss_cons (js_ret j_bl ?_)
    show D.bl true = D.bl (agZ _ _)
    unfold agZ
    rw [hall]
end
end Toy

namespace Toy
open PySem PyProof.Rows L2 Pf
theorem at_end {α : Type} {l : List α} {c : α} : atI (l ++ [c]) (-1) = some c := by
  unfold atI ixN
  rw [if_neg (by decide), List.length_append]
  simp only [List.length_cons, List.length_nil]
  rw [if_pos (by omega)]
  show (l ++ [c])[_]? = _
  rw [show (-1 + ((l.length + (0 + 1) : Nat) : Int)).toNat = l.length by omega, List.getElem?_append_right (by simp)]
  simp
theorem agZ_comm (es fs : List En) : agZ es fs = agZ fs es := by
  unfold agZ
  induction es generalizing fs with
  | nil => cases fs <;> rfl
  | cons a as ih => cases fs with
    | nil => rfl
    | cons b bs =>
      rw [List.zip_cons_cons, List.zip_cons_cons, List.all_cons, List.all_cons, ih]
      exact congrArg (fun z => z && _) (decide_eq_decide.mpr eq_comm)
def sCut (c : Nat) (b : Bool) : Nat := if b = true then c else 0
theorem agB_is {es fs : List En} {c d : Nat} {a b : Bool} {s t : JS} (hs : shortD es c a s) (ht : shortD fs d b t) : agB s t = agZ (es.drop (max (sCut c a) (sCut d b))) (fs.drop (max (sCut c a) (sCut d b))) := by
  have h1 : s.past.drop = sCut c a := hs.2
  have h2 : t.past.drop = sCut d b := ht.2
  have e1 : s.ents = es.drop (sCut c a) := by rw [hs.1]; unfold sCut; cases a <;> simp
  have e2 : t.ents = fs.drop (sCut d b) := by rw [ht.1]; unfold sCut; cases b <;> simp
  unfold agB
  rw [h1, h2, e1, e2, List.drop_drop, List.drop_drop]
  rw [show sCut c a + (max (sCut c a) (sCut d b) - sCut c a) = max (sCut c a) (sCut d b) from by omega, show sCut d b + (max (sCut c a) (sCut d b) - sCut d b) = max (sCut c a) (sCut d b) from by omega]
theorem fitAll_up : ∀ {es : List En}, fitAllD 3 (es.map enD) = true → fitAllD 4 (es.map enD) = true
  | [], _ => rfl
  | e :: es, h => by
    have h : (fitD 3 (enD e) && fitAllD 3 (es.map enD)) = true := h
    rw [Bool.and_eq_true] at h
    show (fitD 4 (enD e) && fitAllD 4 (es.map enD)) = true
    rw [fitAll_up h.2, Bool.and_true]
    cases e with
    | ask a => exact h.1
    | rel k m => exact h.1
section
variable {P : Program} {w : World} {K : PySem.W.Frag} {mg : Str → Option Value} {base : Heap}
theorem OkEs.take {es : List En} (h : OkEs es) (n : Nat) : OkEs (es.take n) := ⟨fun e he => h.ok e (List.mem_of_mem_take he), by rw [List.length_take]; have := h.few; omega⟩
abbrev nLaw : List Str := ["script", "numbers", "limits", "common", "last", "first", "second", "same", "handed", "told", "one", "other", "actual", "cut", "short", "begin", "journals", "due", "k"]
abbrev sLaw : Stmt := top 91
theorem scLaw : FnScope nLaw ["script"] (defScope sLaw) := ⟨rfl, rfl, rfl, by decide +kernel, rfl, by decide +kernel, by decide +kernel⟩
def gLaw : List D → (D → Prop) → Prop := fun ds P => ∃ (ns : List Int), ds = [.scr ns] ∧ ns.length ≤ 63 ∧ P = fun d => d = .bl true
theorem ok_law {C CP : Addr} {f : Addr} {fd : FuncData} (F : Fun K "law" "law" sLaw f fd) (T : Bt mg) (cN : PFn P w K mg base 2 "_law_numbers" 2 gNumbers) (cL : PFn P w K mg base 2 "_law_limits" 2 gLs) (cE : PFn P w K mg base 1 "_law_entries" 5 gEs) (cA : PFn P w K mg base 1 "_law_asked" 1 gAk) (cC : NFn P w K mg base 1 "common_beginning" 2 gCm) (cI : PFn P w K mg base 1 "is_beginning" 2 gIb) (cJ : PFn P w K mg base 11 "_law_journal" 4 (gLj C CP)) (cG : PFn P w K mg base 2 "agree" 2 (gAg C CP)) (cD : PFn P w K mg base 1 "_law_agree" 3 gLa) : FnOk P w K mg base CX0 12 f fd ["script"] (spP K 1 gLaw) := by
  refine fn_pure F scLaw (by rintro ds Pd ⟨_, rfl, _⟩; rfl) fun cdv A outer s0 H E ds Pd hr hG => ?_
  obtain ⟨sc, rfl, hsc, rfl⟩ := hG
  have nd := scLaw.nd
  refine jss_cons (js_setP (i := 1) (jp_call cN hr (ja_cons (jv 0 rfl) (ja_cons j_int ja_nil)) ⟨sc, 130, rfl, hsc, by decide, rfl⟩) ?_ nd)
  rintro _ ⟨ns, rfl, hl, hb⟩
  have gn : ∀ i : Nat, 0 ≤ ns.getD i 0 ∧ ns.getD i 0 < 1009 := getD_in hb
  refine jss_cons (js_setP (i := 2) (jp_call cL hr (ja_cons (jv 1 rfl) (ja_cons j_int ja_nil)) ⟨ns, rfl, by omega, hb, rfl⟩) ?_ nd)
  rintro _ ⟨ls, rfl, hls⟩
  have nat6 : ∀ (i m : Nat), 1 ≤ m → ∃ k : Nat, ns.getD i 0 % (m : Int) = (k : Int) ∧ k < m := fun i m hm => ⟨(ns.getD i 0 % (m : Int)).toNat, by have := Int.emod_nonneg (ns.getD i 0) (show (m : Int) ≠ 0 by omega); omega, by have := Int.emod_nonneg (ns.getD i 0) (show (m : Int) ≠ 0 by omega); have := Int.emod_lt_of_pos (ns.getD i 0) (show (0 : Int) < (m : Int) by omega); omega⟩
  obtain ⟨n1, hn1, hn1'⟩ := nat6 19 6 (by omega)
  obtain ⟨m1, hm1, hm1'⟩ := nat6 18 9 (by omega)
  obtain ⟨n2, hn2, hn2'⟩ := nat6 48 4 (by omega)
  obtain ⟨n3, hn3, hn3'⟩ := nat6 49 4 (by omega)
  refine jss_cons (js_setP (i := 3) (jp_call cE hr (ja_cons (jv 1 rfl) (ja_cons j_int (ja_cons (J.to (j_bin (jb_int T (ja_cons (j_ix (jv 1 rfl) j_int (ixd_N 19 rfl (by omega))) ja_nil)) j_int (od_modI (by decide))) (congrArg D.int hn1)) (ja_cons (j_lst ja_nil) (ja_cons (J.to (j_bin (jb_int T (ja_cons (j_ix (jv 1 rfl) j_int (ixd_N 18 rfl (by omega))) ja_nil)) j_int (od_modI (by decide))) (congrArg D.int hm1)) ja_nil))))) ⟨ns, 20, n1, 0, m1, rfl, hb, by omega, by omega, by omega, by omega, rfl⟩) ?_ nd)
  rintro _ ⟨co, rfl, hcl, hcg⟩
  -- last
  have hcok := goE_ok hcg (by omega) (by omega)
  obtain ⟨mm, hmm, hmm2⟩ : ∃ mm : Nat, GoE 0 mm co ∧ lastE mm co = (momE co).getD 0 ∧ mm ≤ 9 := by
    by_cases h : co = []
    · subst h; exact ⟨0, trivial, rfl, by omega⟩
    · refine ⟨m1, hcg, ?_, by omega⟩
      rw [← momE_last co m1]
      cases q : momE co with
      | none => exact absurd (momE_none q) h
      | some x => rfl
  obtain ⟨hmm2, hmm3⟩ := hmm2
  refine jss_cons (js_set (i := 4) (J.to (j_ifExp (t := !co.isEmpty) (d1 := .int ((momE co).getD 0 : Nat)) (d2 := .int 0) (jt_truth (jv 3 rfl) (by cases co <;> rfl)) (fun h => ?_) (fun _ => j_int)) (d' := .int ((momE co).getD 0 : Nat)) (by cases co with | nil => rfl | cons e r => exact if_pos rfl)) ?_ nd)
  · have hne : co ≠ [] := fun z => by rw [z] at h; cases h
    have hlt : co.length - 1 < co.length := by have := List.length_pos_iff.mpr hne; omega
    have e1 : atI (co.map enD) (-1) = some (enD co[co.length - 1]) := by
      have : co = co.dropLast ++ [co[co.length - 1]] := by
        have := List.dropLast_concat_getLast hne
        rw [List.getLast_eq_getElem] at this
        exact this.symm
      conv => lhs; rw [this, List.map_append]
      exact at_end
    have e2 : (momE co).getD 0 = enM co[co.length - 1] := by
      unfold momE
      rw [List.getLast?_eq_getElem?, List.getElem?_eq_getElem hlt]; rfl
    have e3 : atI (enL co[co.length - 1]) (-1) = some (.int (enM co[co.length - 1] : Int)) := by cases co[co.length - 1] <;> rfl
    rw [e2]
    exact j_ix (j_ix (jv 3 rfl) (j_neg j_int) (ixd_L (d := .tup (enL co[co.length - 1])) e1)) (j_neg j_int) (ixd_T e3)
  have hla := lastE_le hmm
  have hcc := cntE_le co 0
  have hkeys : askedE co = keysJ (cntE 0 co) := asked_go hmm
  rw [← hmm2]
  have mkE : ∀ (at0 n : Nat) (nx : Nat), ns.getD nx 0 % 4 = (n : Int) → n < 4 → at0 + 12 ≤ 130 → nx < 130 → True := fun _ _ _ _ _ _ _ => trivial
  have okc : OkEs co := ⟨hcok, by omega⟩
  -- first, second
  refine jss_cons (js_setP (i := 5) (jp_addL (jv 3 rfl) (jp_call cE hr (ja_cons (jv 1 rfl) (ja_cons j_int (ja_cons (J.to (j_bin (jb_int T (ja_cons (j_ix (jv 1 rfl) j_int (ixd_N 48 rfl (by omega))) ja_nil)) j_int (od_modI (by decide))) (congrArg D.int hn2)) (ja_cons (J.to (j_call cA hr (ja_cons (jv 3 rfl) ja_nil) ⟨co, rfl, by omega, rfl⟩ (fun _ h => h)) (congrArg (fun z => D.lst (List.map D.str z)) hkeys)) (ja_cons (jv 4 rfl) ja_nil))))) ⟨ns, 50, n2, cntE 0 co, lastE mm co, rfl, hb, by omega, by omega, by omega, by omega, rfl⟩) (fun d ⟨es, e, h1, h2⟩ => ⟨es.map enD, e, by rw [List.length_map, List.length_map]; exact le_size (by omega)⟩)) ?_ nd)
  rintro _ ⟨_, ⟨fa, he, hfa, hga⟩, rfl⟩
  have he := D.lst.inj he
  subst he
  refine jss_cons (js_setP (i := 6) (jp_addL (jv 3 rfl) (jp_call cE hr (ja_cons (jv 1 rfl) (ja_cons j_int (ja_cons (J.to (j_bin (jb_int T (ja_cons (j_ix (jv 1 rfl) j_int (ixd_N 49 rfl (by omega))) ja_nil)) j_int (od_modI (by decide))) (congrArg D.int hn3)) (ja_cons (J.to (j_call cA hr (ja_cons (jv 3 rfl) ja_nil) ⟨co, rfl, by omega, rfl⟩ (fun _ h => h)) (congrArg (fun z => D.lst (List.map D.str z)) hkeys)) (ja_cons (jv 4 rfl) ja_nil))))) ⟨ns, 70, n3, cntE 0 co, lastE mm co, rfl, hb, by omega, by omega, by omega, by omega, rfl⟩) (fun d ⟨es, e, h1, h2⟩ => ⟨es.map enD, e, by rw [List.length_map, List.length_map]; exact le_size (by omega)⟩)) ?_ nd)
  rintro _ ⟨_, ⟨fb, he, hfb, hgb⟩, rfl⟩
  have he := D.lst.inj he
  subst he
  have g1 : GoE 0 mm (co ++ fa) := goE_app.mpr ⟨hmm, hga⟩
  have g2 : GoE 0 mm (co ++ fb) := goE_app.mpr ⟨hmm, hgb⟩
  have e1 : co.map enD ++ fa.map enD = (co ++ fa).map enD := (List.map_append).symm
  have e2 : co.map enD ++ fb.map enD = (co ++ fb).map enD := (List.map_append).symm
  have l1 : (co ++ fa).length ≤ 10 := by rw [List.length_append]; omega
  have l2 : (co ++ fb).length ≤ 10 := by rw [List.length_append]; omega
  show JSs _ [] _ [some (.fz (.scr sc)), some (.fz (.lst (ns.map D.int))), some (.fz (.lst (ls.map ljD))), some (.fz (.lst (co.map enD))), some (.fz (.int (lastE mm co : Nat))), some (.fz (.lst (co.map enD ++ fa.map enD))), some (.fz (.lst (co.map enD ++ fb.map enD))), none, none, none, none, none, none, none, none, none, none, none, none] _
  rw [e1, e2]
  generalize co ++ fa = es at g1 l1
  generalize co ++ fb = fs at g2 l2
  clear e1 e2 hga hgb
  have o1 : OkEs es := ⟨goE_ok g1 (by omega) (by omega), by omega⟩
  have o2 : OkEs fs := ⟨goE_ok g2 (by omega) (by omega), by omega⟩
  generalize lastE mm co = la
  -- same
  refine jss_cons (js_setLcN (own := [("k", 18)]) (i := 7) (j := 18) (List.range (min es.length fs.length)) (fun k => D.int (0 + (k : Nat))) (fun k => decide (es.take (k + 1) = fs.take (k + 1))) (fun k => D.int (0 + (k : Nat))) (ji_rangeN _ T (J.to (jb_min2 T (ja_cons (jb_len T (ja_cons (jv 5 rfl) ja_nil) (lenE es)) (ja_cons (jb_len T (ja_cons (jv 6 rfl) ja_nil) (lenE fs)) ja_nil))) (congrArg D.int (j_min0 es.length fs.length))) (by omega) (by omega) (by omega)) (blkOk_by (N := nLaw) (sc := defScope sLaw) (by decide +kernel)) (fun _ _ _ _ _ => pg_name nd rfl (Or.inl rfl)) (by rw [List.length_range]; exact lt_size (by omega)) (fun k hk _ _ _ _ _ => ⟨jts_one (JT.to (jt_cm (J.to (j_sl (jv 5 rfl) jo_none (jo_some (J.to (j_bin (jv 18 rfl) j_int od_addI) (d' := .int ((k + 1 : Nat) : Int)) (by rw [Int.zero_add]; rfl))) sld_L) (d' := .lst ((es.take (k + 1)).map enD)) (by rw [cut_map, cut_takeN])) (J.to (j_sl (jv 6 rfl) jo_none (jo_some (J.to (j_bin (jv 18 rfl) j_int od_addI) (d' := .int ((k + 1 : Nat) : Int)) (by rw [Int.zero_add]; rfl))) sld_L) (d' := .lst ((fs.take (k + 1)).map enD)) (by rw [cut_map, cut_takeN])) (cd_eqF 4 hr.units (ens_fit (o1.take _).ok) (ens_fit (o2.take _).ok))) (eqv_ens _ _)), fun _ => jv 18 rfl⟩) ?_ nd (by rfl))
  have hsl := same_len es fs
  have lenS : lenD (.lst (((List.range (min es.length fs.length)).filter fun k => decide (es.take (k + 1) = fs.take (k + 1))).map fun k => D.int (0 + (k : Nat)))) = some (cpl es fs) := by show some _ = _; rw [List.length_map, hsl]
  generalize ((List.range (min es.length fs.length)).filter fun k => decide (es.take (k + 1) = fs.take (k + 1))).map (fun k => D.int (0 + (k : Nat))) = sm at lenS
  have hcp := cpl_le es fs
  -- handed, told
  refine jss_cons (js_set (i := 8) (j_lst (ja_cons (jb_listL T (ja_cons (jv 5 rfl) ja_nil)) (ja_cons (jb_listL T (ja_cons (jv 6 rfl) ja_nil)) ja_nil))) ?_ nd)
  refine jss_cons (js_setNP (i := 9) (jnp_call cC hr (ja_cons (j_ix (jv 8 rfl) j_int (ixd_L (d := .lst (es.map enD)) rfl)) (ja_cons (j_ix (jv 8 rfl) j_int (ixd_L (d := .lst (fs.map enD)) rfl)) ja_nil)) ⟨es, fs, rfl, o1, o2, rfl⟩) ?_ nd)
  rintro _ rfl
  have jtk : ∀ {ρ : Rho} {X : Cx}, True := fun {_ _} => trivial
  refine jss_cons (js_ifF (jt_w (jw_or (t := false) (u := false) (jt_not (jt_val (jb_isi (b := true) T (ja_cons (jv 9 rfl) (ja_cons (j_ty (T := "list") T.list (by decide +kernel)) ja_nil)) rfl (by rfl)))) (fun _ => jw_or1 (JT.to (jt_cm (jv 9 rfl) (J.to (j_sl (jv 5 rfl) jo_none (jo_some (jb_len T (ja_cons (jv 7 rfl) ja_nil) lenS)) sld_L) (d' := .lst ((es.take (cpl es fs)).map enD)) (by rw [cut_map, cut_takeN])) (cd_neF 4 hr.units (ens_fit (o1.take _).ok) (ens_fit (o1.take _).ok))) (by rw [show eqvD (SV.d (.ow (.lst ((es.take (cpl es fs)).map enD)))) (.lst ((es.take (cpl es fs)).map enD)) = true from (eqv_ens _ _).trans (decide_eq_true rfl)]; rfl))))) (jss_nil ?_))
  refine jss_cons (js_append (i := 9) (ds := (es.take (cpl es fs)).map enD) rfl j_int (by rw [List.length_map, List.length_take]; exact lt_size (by omega)) ?_)
  have o3 : OkEs (es.take (cpl es fs)) := o1.take _
  have hprs : ∀ p ∈ [(es, fs), (fs, es), (co, es), (es.take (cpl es fs), fs)], OkEs p.1 ∧ OkEs p.2 := fun p hp => by
    simp only [List.mem_cons, List.not_mem_nil, or_false] at hp
    rcases hp with rfl | rfl | rfl | rfl
    · exact ⟨o1, o2⟩
    · exact ⟨o2, o1⟩
    · exact ⟨okc, o1⟩
    · exact ⟨o3, o2⟩
  show JSs _ [] _ [some (.fz (.scr sc)), some (.fz (.lst (ns.map D.int))), some (.fz (.lst (ls.map ljD))), some (.fz (.lst (co.map enD))), some (.fz (.int (la : Nat))), some (.fz (.lst (es.map enD))), some (.fz (.lst (fs.map enD))), some (.fz (.lst sm)), some (.fz (.lst [.lst (es.map enD), .lst (fs.map enD)])), some (.ow (.lst ((es.take (cpl es fs)).map enD ++ [.int 0]))), none, none, none, none, none, none, none, none, none] _
  refine jss_mid (fun ρ => ∃ o9 o10 o11 o12 : Option SV, ρ = [some (.fz (.scr sc)), some (.fz (.lst (ns.map D.int))), some (.fz (.lst (ls.map ljD))), some (.fz (.lst (co.map enD))), some (.fz (.int (la : Nat))), some (.fz (.lst (es.map enD))), some (.fz (.lst (fs.map enD))), some (.fz (.lst sm)), some (.fz (.lst [.lst (es.map enD), .lst (fs.map enD)])), o9, o10, o11, o12, none, none, none, none, none, none]) (js_for (pat := .tp [10, 11]) (ds := [(es, fs), (fs, es), (co, es), (es.take (cpl es fs), fs)].map fun p => D.tup [.lst (p.1.map enD), .lst (p.2.map enD)]) (fun k ρ => ∃ o9 o10 o11 o12 : Option SV, ρ = [some (.fz (.scr sc)), some (.fz (.lst (ns.map D.int))), some (.fz (.lst (ls.map ljD))), some (.fz (.lst (co.map enD))), some (.fz (.int (la : Nat))), some (.fz (.lst (es.map enD))), some (.fz (.lst (fs.map enD))), some (.fz (.lst sm)), some (.fz (.lst [.lst (es.map enD), .lst (fs.map enD)])), o9, o10, o11, o12, none, none, none, none, none, none]) (ji_list (J.to (j_lst (ja_cons (j_tup (ja_cons (jv 5 rfl) (ja_cons (jv 6 rfl) ja_nil))) (ja_cons (j_tup (ja_cons (jv 6 rfl) (ja_cons (jv 5 rfl) ja_nil))) (ja_cons (j_tup (ja_cons (jv 3 rfl) (ja_cons (jv 5 rfl) ja_nil))) (ja_cons (j_tup (ja_cons (J.to (j_sl (jv 5 rfl) jo_none (jo_some (jb_len T (ja_cons (jv 7 rfl) ja_nil) lenS)) sld_L) (d' := .lst ((es.take (cpl es fs)).map enD)) (by rw [cut_map, cut_takeN])) (ja_cons (jv 6 rfl) ja_nil))) ja_nil))))) rfl)) (pg_tup rfl (pgs_cons (pg_name nd rfl (Or.inl rfl)) (pgs_cons (pg_name nd rfl (Or.inl rfl)) pgs_nil))) ⟨_, _, _, _, rfl⟩ ?_ ?_ PassesOwn.never) ?_
  · rintro k d _ hd ⟨o9, o10, o11, o12, rfl⟩
    obtain ⟨p, hp, rfl⟩ := map_get hd
    obtain ⟨p1, p2⟩ := hprs p (List.mem_of_getElem? hp)
    obtain ⟨a, b⟩ := p
    refine ⟨_, rfl, ?_⟩
    show JSs _ [] _ [some (.fz (.scr sc)), some (.fz (.lst (ns.map D.int))), some (.fz (.lst (ls.map ljD))), some (.fz (.lst (co.map enD))), some (.fz (.int (la : Nat))), some (.fz (.lst (es.map enD))), some (.fz (.lst (fs.map enD))), some (.fz (.lst sm)), some (.fz (.lst [.lst (es.map enD), .lst (fs.map enD)])), o9, some (.fz (.lst (a.map enD))), some (.fz (.lst (b.map enD))), o12, none, none, none, none, none, none] _
    refine jss_cons (js_set (i := 12) (j_call cI hr (ja_cons (jb_listL T (ja_cons (jv 10 rfl) ja_nil)) (ja_cons (jb_listL T (ja_cons (jv 11 rfl) ja_nil)) ja_nil)) ⟨a, b, rfl, p1, p2, rfl⟩ (fun _ h => h)) ?_ nd)
    refine jss_cons (js_ifF (jt_w (jw_or (t := false) (u := false) (jt_not (jt_val (jb_isi (b := true) T (ja_cons (jv 12 rfl) (ja_cons (j_ty (T := "bool") T.bool (by decide +kernel)) ja_nil)) rfl (by rfl)))) (fun _ => jw_or1 (JT.to (jt_cm (jv 12 rfl) (J.to (j_cm (J.to (j_sl (jv 11 rfl) jo_none (jo_some (jb_len T (ja_cons (jv 10 rfl) ja_nil) (lenE a))) sld_L) (d' := .lst ((b.take a.length).map enD)) (by rw [cut_map, cut_takeN])) (jv 10 rfl) (cd_eqF 4 hr.units (ens_fit (p2.take _).ok) (ens_fit p1.ok))) (congrArg D.bl (eqv_ens _ _))) cd_neB) (by rw [decide_eq_true rfl]; rfl))))) (jss_nil ?_))
    exact jss_nil ⟨_, _, _, _, rfl⟩
  · rintro _ ⟨o9, o10, o11, o12, rfl⟩
    exact ⟨_, rfl, o9, o10, o11, o12, rfl⟩
  rintro _ ⟨o9, o10, o11, o12, rfl⟩
  have modn : ∀ (i n : Nat), ∃ k : Nat, ns.getD i 0 % ((n : Int) + 1) = (k : Int) ∧ k ≤ n := fun i n => ⟨(ns.getD i 0 % ((n : Int) + 1)).toNat, by have := Int.emod_nonneg (ns.getD i 0) (show ((n : Int) + 1) ≠ 0 by omega); omega, by have := Int.emod_nonneg (ns.getD i 0) (show ((n : Int) + 1) ≠ 0 by omega); have := Int.emod_lt_of_pos (ns.getD i 0) (show (0 : Int) < (n : Int) + 1 by omega); omega⟩
  obtain ⟨c1, hc1, hc1'⟩ := modn 90 es.length
  obtain ⟨c2, hc2, hc2'⟩ := modn 91 fs.length
  refine jss_cons (js_set (i := 13) (j_lst (ja_cons (J.to (j_bin (jb_int T (ja_cons (j_ix (jv 1 rfl) j_int (ixd_N 90 rfl (by omega))) ja_nil)) (j_bin (jb_len T (ja_cons (jv 5 rfl) ja_nil) (lenE es)) j_int od_addI) (od_modI (by omega))) (d' := .int (c1 : Nat)) (congrArg D.int hc1)) (ja_cons (J.to (j_bin (jb_int T (ja_cons (j_ix (jv 1 rfl) j_int (ixd_N 91 rfl (by omega))) ja_nil)) (j_bin (jb_len T (ja_cons (jv 6 rfl) ja_nil) (lenE fs)) j_int od_addI) (od_modI (by omega))) (d' := .int (c2 : Nat)) (congrArg D.int hc2)) ja_nil))) ?_ nd)
  refine jss_cons (js_set (i := 14) (j_lst (ja_cons (j_cm (j_bin (jb_int T (ja_cons (j_ix (jv 1 rfl) j_int (ixd_N 92 rfl (by omega))) ja_nil)) j_int (od_modI (by decide))) j_int cd_gtI) (ja_cons (j_cm (j_bin (jb_int T (ja_cons (j_ix (jv 1 rfl) j_int (ixd_N 93 rfl (by omega))) ja_nil)) j_int (od_modI (by decide))) j_int cd_gtI) ja_nil))) ?_ nd)
  generalize decide (0 < ns.getD 92 0 % 3) = b1
  generalize decide (0 < ns.getD 93 0 % 3) = b2
  show JSs _ [] _ [some (.fz (.scr sc)), some (.fz (.lst (ns.map D.int))), some (.fz (.lst (ls.map ljD))), some (.fz (.lst (co.map enD))), some (.fz (.int (la : Nat))), some (.fz (.lst (es.map enD))), some (.fz (.lst (fs.map enD))), some (.fz (.lst sm)), some (.fz (.lst [.lst (es.map enD), .lst (fs.map enD)])), o9, o10, o11, o12, some (.fz (.lst [.int (c1 : Nat), .int (c2 : Nat)])), some (.fz (.lst [.bl b1, .bl b2])), none, none, none, none] _
  -- begin
  have hbg : ∀ y ∈ ((List.range 2).filter fun k => ([b1, b2] : List Bool).getD k false).map (fun k => ((([c1, c2] : List Nat).getD k 0 : Nat) : Int)) ++ [0], y ≤ ((max (sCut c1 b1) (sCut c2 b2) : Nat) : Int) := by
    intro y hy
    unfold sCut
    rcases List.mem_append.mp hy with q | q
    · obtain ⟨k, hk, rfl⟩ := List.mem_map.mp q
      obtain ⟨hk1, hk2⟩ := List.mem_filter.mp hk
      have hk1 := List.mem_range.mp hk1
      have e : k = 0 ∨ k = 1 := by omega
      rcases e with rfl | rfl
      · have hk2 : b1 = true := hk2
        rw [if_pos hk2]
        show (c1 : Int) ≤ _
        omega
      · have hk2 : b2 = true := hk2
        rw [if_pos hk2]
        show (c2 : Int) ≤ _
        omega
    · rw [List.mem_singleton.mp q]; omega
  have hbm : ((max (sCut c1 b1) (sCut c2 b2) : Nat) : Int) ∈ ((List.range 2).filter fun k => ([b1, b2] : List Bool).getD k false).map (fun k => ((([c1, c2] : List Nat).getD k 0 : Nat) : Int)) ++ [0] := by
    by_cases z : max (sCut c1 b1) (sCut c2 b2) = 0
    · rw [z]; exact List.mem_append_right _ (List.mem_singleton.mpr rfl)
    · refine List.mem_append_left _ ?_
      unfold sCut at z ⊢
      by_cases q : (if b2 = true then c2 else 0) ≤ (if b1 = true then c1 else 0)
      · rw [Nat.max_eq_left q] at z ⊢
        by_cases y : b1 = true
        · rw [if_pos y]
          exact List.mem_map.mpr ⟨0, List.mem_filter.mpr ⟨List.mem_range.mpr (by omega), y⟩, rfl⟩
        · rw [if_neg y] at z; exact absurd rfl z
      · rw [Nat.max_eq_right (by omega)] at z ⊢
        by_cases y : b2 = true
        · rw [if_pos y]
          exact List.mem_map.mpr ⟨1, List.mem_filter.mpr ⟨List.mem_range.mpr (by omega), y⟩, rfl⟩
        · rw [if_neg y] at z; exact absurd rfl z
  refine jss_cons (js_set (i := 15) (jb_maxL T (m := ((max (sCut c1 b1) (sCut c2 b2) : Nat) : Int)) (ja_cons (J.to (j_bin (j_lcN (own := [("k", 18)]) (i := 18) (List.range 2) (fun k => D.int (0 + (k : Nat))) (fun k => ([b1, b2] : List Bool).getD k false) (fun k => D.int ((([c1, c2] : List Nat).getD k 0 : Nat) : Int)) (ji_rangeN 2 T j_int rfl (by omega) (by omega)) (blkOk_by (N := nLaw) (sc := defScope sLaw) (by decide +kernel)) (fun _ _ _ _ _ => pg_name nd rfl (Or.inl rfl)) (by decide) (fun k hk _ _ _ _ _ => ?_) nd) (j_lst (ja_cons j_int ja_nil)) (od_addL (by rw [List.length_map]; exact le_size (by have := List.length_filter_le (fun k => ([b1, b2] : List Bool).getD k false) (List.range 2); rw [List.length_range] at this; simp only [List.length_cons, List.length_nil]; omega)))) (d' := .lst ((((List.range 2).filter fun k => ([b1, b2] : List Bool).getD k false).map (fun k => ((([c1, c2] : List Nat).getD k 0 : Nat) : Int)) ++ [0]).map D.int)) (by rw [List.map_append, List.map_map]; rfl)) ja_nil) hbm hbg) ?_ nd)
  · have hk := List.mem_range.mp hk
    have e : k = 0 ∨ k = 1 := by omega
    rcases e with rfl | rfl
    · exact ⟨jts_one (jt_val (j_ix (jv 14 rfl) (J.to (jv 18 rfl) (d' := .int 0) rfl) (ixd_L (d := .bl b1) rfl))), fun _ => j_ix (jv 13 rfl) (J.to (jv 18 rfl) (d' := .int 0) rfl) (ixd_L (d := .int (c1 : Nat)) rfl)⟩
    · exact ⟨jts_one (jt_val (j_ix (jv 14 rfl) (J.to (jv 18 rfl) (d' := .int 1) rfl) (ixd_L (d := .bl b2) rfl))), fun _ => j_ix (jv 13 rfl) (J.to (jv 18 rfl) (d' := .int 1) rfl) (ixd_L (d := .int (c2 : Nat)) rfl)⟩
  have hmx : max (sCut c1 b1) (sCut c2 b2) ≤ 10 := by unfold sCut; split <;> split <;> omega
  clear hbg hbm
  have j1 : JOk es mm c1 := ⟨g1, by omega, by omega, hc1'⟩
  have j2 : JOk fs mm c2 := ⟨g2, by omega, by omega, hc2'⟩
  have s1 := jourJ_is hls b1 j1
  have s2 := jourJ_is hls b2 j2
  have a1 := agB_is s1 s2
  have a2 := agB_is s2 s1
  rw [Nat.max_comm, agZ_comm] at a2
  have x1 : OkEs (jourJ ls es c1 b1).ents := by
    rw [s1.1]
    split
    · exact ⟨fun e he => o1.ok e (List.mem_of_mem_drop he), by rw [List.length_drop]; omega⟩
    · exact o1
  have x2 : OkEs (jourJ ls fs c2 b2).ents := by
    rw [s2.1]
    split
    · exact ⟨fun e he => o2.ok e (List.mem_of_mem_drop he), by rw [List.length_drop]; omega⟩
    · exact o2
  generalize max (sCut c1 b1) (sCut c2 b2) = mx at hmx a1 a2
  refine jss_cons (js_set (i := 16) (j_lst (ja_cons (j_call cJ hr (ja_cons (jv 2 rfl) (ja_cons (jv 5 rfl) (ja_cons (j_ix (jv 13 rfl) j_int (ixd_L (d := .int (c1 : Nat)) rfl)) (ja_cons (j_ix (jv 14 rfl) j_int (ixd_L (d := .bl b1) rfl)) ja_nil)))) ⟨ls, es, mm, c1, b1, rfl, hls, j1, rfl⟩ (fun _ h => h)) (ja_cons (j_call cJ hr (ja_cons (jv 2 rfl) (ja_cons (jv 6 rfl) (ja_cons (j_ix (jv 13 rfl) j_int (ixd_L (d := .int (c2 : Nat)) rfl)) (ja_cons (j_ix (jv 14 rfl) j_int (ixd_L (d := .bl b2) rfl)) ja_nil)))) ⟨ls, fs, mm, c2, b2, rfl, hls, j2, rfl⟩ (fun _ h => h)) ja_nil))) ?_ nd)
  refine jss_cons (js_set (i := 17) (j_call cD hr (ja_cons (jv 5 rfl) (ja_cons (jv 6 rfl) (ja_cons (jv 15 rfl) ja_nil))) ⟨es, fs, mx, rfl, o1, o2, by omega, rfl⟩ (fun _ h => h)) ?_ nd)
  generalize jourJ ls es c1 b1 = q1 at a1 a2 x1
  generalize jourJ ls fs c2 b2 = q2 at a1 a2 x2
  generalize agZ (es.drop mx) (fs.drop mx) = ag at a1 a2
  show JSs _ [] _ [some (.fz (.scr sc)), some (.fz (.lst (ns.map D.int))), some (.fz (.lst (ls.map ljD))), some (.fz (.lst (co.map enD))), some (.fz (.int (la : Nat))), some (.fz (.lst (es.map enD))), some (.fz (.lst (fs.map enD))), some (.fz (.lst sm)), some (.fz (.lst [.lst (es.map enD), .lst (fs.map enD)])), o9, o10, o11, o12, some (.fz (.lst [.int (c1 : Nat), .int (c2 : Nat)])), some (.fz (.lst [.bl b1, .bl b2])), some (.fz (.int (mx : Nat))), some (.fz (.lst [jsD C CP q1, jsD C CP q2])), some (.fz (.bl ag)), none] _
  refine jss_cons (js_each (i := 9) ([ag, ag] : List Bool) D.bl (fun k ρ => ∃ o9 : Option SV, ρ = [some (.fz (.scr sc)), some (.fz (.lst (ns.map D.int))), some (.fz (.lst (ls.map ljD))), some (.fz (.lst (co.map enD))), some (.fz (.int (la : Nat))), some (.fz (.lst (es.map enD))), some (.fz (.lst (fs.map enD))), some (.fz (.lst sm)), some (.fz (.lst [.lst (es.map enD), .lst (fs.map enD)])), o9, o10, o11, o12, some (.fz (.lst [.int (c1 : Nat), .int (c2 : Nat)])), some (.fz (.lst [.bl b1, .bl b2])), some (.fz (.int (mx : Nat))), some (.fz (.lst [jsD C CP q1, jsD C CP q2])), some (.fz (.bl ag)), none]) (ji_list (J.to (j_lst (ja_cons (J.to (j_call cG hr (ja_cons (j_ix (jv 16 rfl) j_int (ixd_L (d := jsD C CP q1) rfl)) (ja_cons (j_ix (jv 16 rfl) j_int (ixd_L (d := jsD C CP q2) rfl)) ja_nil)) ⟨q1, q2, rfl, x1, x2, rfl⟩ (fun _ h => h)) (congrArg D.bl a1)) (ja_cons (J.to (j_call cG hr (ja_cons (j_ix (jv 16 rfl) j_int (ixd_L (d := jsD C CP q2) rfl)) (ja_cons (j_ix (jv 16 rfl) j_int (ixd_L (d := jsD C CP q1) rfl)) ja_nil)) ⟨q2, q1, rfl, x2, x1, rfl⟩ (fun _ h => h)) (congrArg D.bl a2)) ja_nil))) rfl)) nd ⟨_, rfl⟩ ?_ ?_)
  · rintro k x _ hx ⟨o9, rfl⟩
    have hx : x = ag := by
      have := List.mem_of_getElem? hx
      simp at this
      exact this
    subst hx
    refine jss_cons (js_ifF (jt_w (jw_or (t := false) (u := false) (jt_not (jt_val (jb_isi (b := true) T (ja_cons (jv 9 rfl) (ja_cons (j_ty (T := "bool") T.bool (by decide +kernel)) ja_nil)) rfl (by rfl)))) (fun _ => jw_or1 (JT.to (jt_cm (jv 9 rfl) (jv 17 rfl) cd_neB) (by rw [decide_eq_true rfl]; rfl))))) (jss_nil ?_))
    exact jss_nil ⟨_, rfl⟩
  · rintro _ ⟨o9, rfl⟩
    have f1 : fitD 5 (.lst (es.map enD)) = true := by show fitAllD 4 _ = true; exact fitAll_up (ens_fit o1.ok)
    have f2 : fitD 5 (.lst (fs.map enD)) = true := by show fitAllD 4 _ = true; exact fitAll_up (ens_fit o2.ok)
    have f3 : fitD 6 (.lst [.lst (es.map enD), .lst (fs.map enD)]) = true := by
      show (fitD 5 (.lst (es.map enD)) && (fitD 5 (.lst (fs.map enD)) && true)) = true
      rw [f1, f2]; rfl
    refine jss_cons (js_ret (j_and (t := true) (u := true) (J.to (j_cm (jv 8 rfl) (j_lst (ja_cons (jv 5 rfl) (ja_cons (jv 6 rfl) ja_nil))) (cd_eqF 6 hr.units f3 f3)) (congrArg D.bl (eqvD_refl 6 _ f3))) (fun _ => j_one (J.to (j_cm (j_NP (jnp_call cC hr (ja_cons (jv 5 rfl) (ja_cons (jv 6 rfl) ja_nil)) ⟨es, fs, rfl, o1, o2, rfl⟩) (fun l h => h)) (J.to (j_sl (jv 5 rfl) jo_none (jo_some (jb_len T (ja_cons (jv 7 rfl) ja_nil) lenS)) sld_L) (d' := .lst ((es.take (cpl es fs)).map enD)) (by rw [cut_map, cut_takeN])) (cd_eqF 4 hr.units (ens_fit o3.ok) (ens_fit o3.ok))) (congrArg D.bl ((eqv_ens _ _).trans (decide_eq_true rfl)))))) rfl)
end
end Toy

namespace Toy
open PySem PyProof.Rows L2 Pf
abbrev sCkD : Stmt := top 50
abbrev sRcL : Stmt := top 51
abbrev sIsY : Stmt := top 53
abbrev sRdR : Stmt := top 54
abbrev sWhR : Stmt := top 55
abbrev sThr : Stmt := top 68
abbrev sDgt : Stmt := top 69
abbrev sLnR : Stmt := top 70
end Toy

namespace Toy
open PySem PyProof.Rows L2 Pf
def spLaw (K : PySem.W.Frag) : Sp := fun args H Q _ =>
  ∃ (ns : List Int) (a : Addr), args = [.ref a] ∧ ns.length ≤ 63 ∧ SqL K H a (ns.map V.int) ∧ (∀ H', Q (.bl true) H')
theorem law_of {K : PySem.W.Frag} (vs : List V) (H : Hp) (Q : VK) (E : XK) (h : spLaw K vs H Q E) : spP K 1 gLaw vs H Q E := by
  obtain ⟨ns, a, rfl, hl, hS, q⟩ := h
  refine ⟨rfl, H, [.scr ns], _, .refl _, .cons (.scr hS) .nil, ⟨ns, rfl, hl, rfl⟩, ?_⟩
  rintro _ rfl v W' H' _ r
  cases r
  exact q H'
theorem all_mk {l : PySem.W.OpenLaw} {w : World} {K : PySem.W.Frag} {h : Heap} {mg : Str → Option Value} {fa C0 C1 f0 f1 f2 f3 f4 f5 f6 f7 f8 f9 f10 f11 f12 f13 f14 f15 f16 f17 f18 f19 f20 f21 f22 f23 f24 f25 f26 f27 f28 f29 f30 f31 f32 f33 f34 f35 f36 f37 f38 f39 f40 f41 f42 f43 f44 f45 f46 f47 f48 f49 f50 f51 f52 f53 f54 f55 f56 f57 f58 f59 f60 f61 f62 f63 f64 f65 f66 f67 : Addr} (X : K.In h) (G : h.Ns mainGlobals mg) (hfa : mg "law" = some (.ref fa))
    {tg0 tg1 tg2 tg3 tg4 tg5 tg6 tg7 tg8 tg9 tg10 tg11 tg12 tg13 tg14 tg15 tg16 tg17 tg18 : Tok}
    (zC0 : PySem.W.nsIn K mainGlobals "Past" = some (some (.ref C0)))
    (pg0 : PySem.W.plainGet K C0 Str.empty = true)
    (hd0 : PySem.W.hasDictIn K C0 = true)
    (po0 : PySem.W.plainOver K C0 = true)
    (sa0 : PySem.W.findIn K (.ref C0) "__setattr__" = some (some (.builtin "object.__setattr__")))
    (mk0 : PySem.W.makesIn K C0 = true)
    (kc0 : PySem.W.keepIn K (.ref C0) = true)
    (n0x0 : PySem.W.findIn K (.ref C0) "is_blank" = some none)
    (n0x1 : PySem.W.findIn K (.ref C0) "dropped" = some none)
    (n0x2 : PySem.W.findIn K (.ref C0) "many_entries" = some none)
    (n0x3 : PySem.W.findIn K (.ref C0) "moment" = some none)
    (n0x4 : PySem.W.findIn K (.ref C0) "view" = some none)
    (n0x5 : PySem.W.findIn K (.ref C0) "_asked" = some none)
    (n0x6 : PySem.W.findIn K (.ref C0) "_was_let" = some none)
    (n0x7 : PySem.W.findIn K (.ref C0) "_released" = some none)
    (zC1 : PySem.W.nsIn K mainGlobals "Journal" = some (some (.ref C1)))
    (pg1 : PySem.W.plainGet K C1 Str.empty = true)
    (hd1 : PySem.W.hasDictIn K C1 = true)
    (po1 : PySem.W.plainOver K C1 = true)
    (sa1 : PySem.W.findIn K (.ref C1) "__setattr__" = some (some (.builtin "object.__setattr__")))
    (mk1 : PySem.W.makesIn K C1 = true)
    (kc1 : PySem.W.keepIn K (.ref C1) = true)
    (n1x0 : PySem.W.findIn K (.ref C1) "_first" = some none)
    (n1x1 : PySem.W.findIn K (.ref C1) "_bodies" = some none)
    (n1x2 : PySem.W.findIn K (.ref C1) "_entries" = some none)
    (n1x3 : PySem.W.findIn K (.ref C1) "_past" = some none)
    (n1x4 : PySem.W.findIn K (.ref C1) "_lines" = some none)
    (n1x5 : PySem.W.findIn K (.ref C1) "_last_head" = some none)
    (a0 : PySem.W.findIn K (.ref C0) "__init__" = some (some (.ref f0)))
    (i0 : PySem.W.isFn K (.ref f0) = true)
    (q0 : HX.FnIn K f0 "__init__" "Past.__init__" sPi)
    (a1 : PySem.W.findIn K (.ref C0) "fits" = some (some (.ref f1)))
    (i1 : PySem.W.isFn K (.ref f1) = true)
    (q1 : HX.FnIn K f1 "fits" "Past.fits" sFi)
    (a2 : PySem.W.findIn K (.ref C0) "take" = some (some (.ref f2)))
    (i2 : PySem.W.isFn K (.ref f2) = true)
    (q2 : HX.FnIn K f2 "take" "Past.take" sTk)
    (a3 : PySem.W.findIn K (.ref C0) "_fits_view" = some (some (.ref f3)))
    (i3 : PySem.W.isFn K (.ref f3) = true)
    (q3 : HX.FnIn K f3 "_fits_view" "Past._fits_view" sFv)
    (a4 : PySem.W.findIn K (.ref C0) "_is_told_by" = some (some (.ref f4)))
    (i4 : PySem.W.isFn K (.ref f4) = true)
    (q4 : HX.FnIn K f4 "_is_told_by" "Past._is_told_by" sTb)
    (a5 : PySem.W.findIn K (.ref C0) "_fits_row" = some (some (.ref f5)))
    (i5 : PySem.W.isFn K (.ref f5) = true)
    (q5 : HX.FnIn K f5 "_fits_row" "Past._fits_row" sFr)
    (a6 : PySem.W.findIn K (.ref C0) "_take_entry" = some (some (.ref f6)))
    (i6 : PySem.W.isFn K (.ref f6) = true)
    (q6 : HX.FnIn K f6 "_take_entry" "Past._take_entry" sTe)
    (a7 : PySem.W.findIn K (.ref C0) "_take_snapshot" = some (some (.ref f7)))
    (i7 : PySem.W.isFn K (.ref f7) = true)
    (q7 : HX.FnIn K f7 "_take_snapshot" "Past._take_snapshot" sTs)
    (a8 : PySem.W.findIn K (.ref C1) "__init__" = some (some (.ref f8)))
    (i8 : PySem.W.isFn K (.ref f8) = true)
    (q8 : HX.FnIn K f8 "__init__" "Journal.__init__" sJi)
    (a9 : PySem.W.findIn K (.ref C1) "entries" = some (some (.ref f9)))
    (i9 : PySem.W.isFn K (.ref f9) = true)
    (q9 : HX.FnIn K f9 "entries" "Journal.entries" sJe)
    (a10 : PySem.W.findIn K (.ref C1) "first_entry" = some (some (.ref f10)))
    (i10 : PySem.W.isFn K (.ref f10) = true)
    (q10 : HX.FnIn K f10 "first_entry" "Journal.first_entry" sJf)
    (a11 : PySem.W.findIn K (.ref C1) "_put" = some (some (.ref f11)))
    (i11 : PySem.W.isFn K (.ref f11) = true)
    (q11 : HX.FnIn K f11 "_put" "Journal._put" sJp)
    (a12 : PySem.W.findIn K (.ref C1) "_take" = some (some (.ref f12)))
    (i12 : PySem.W.isFn K (.ref f12) = true)
    (q12 : HX.FnIn K f12 "_take" "Journal._take" sJt)
    (a13 : PySem.W.nsIn K mainGlobals "is_name" = some (some (.ref f13)))
    (q13 : HX.FnIn K f13 "is_name" "is_name" sName)
    (a14 : PySem.W.nsIn K mainGlobals "is_key" = some (some (.ref f14)))
    (q14 : HX.FnIn K f14 "is_key" "is_key" sKey)
    (a15 : PySem.W.nsIn K mainGlobals "is_within" = some (some (.ref f15)))
    (q15 : HX.FnIn K f15 "is_within" "is_within" sIn)
    (a16 : PySem.W.nsIn K mainGlobals "is_moment" = some (some (.ref f16)))
    (q16 : HX.FnIn K f16 "is_moment" "is_moment" sMo)
    (a17 : PySem.W.nsIn K mainGlobals "is_request" = some (some (.ref f17)))
    (q17 : HX.FnIn K f17 "is_request" "is_request" sRq)
    (a18 : PySem.W.nsIn K mainGlobals "is_entry" = some (some (.ref f18)))
    (q18 : HX.FnIn K f18 "is_entry" "is_entry" sEnt)
    (a19 : PySem.W.nsIn K mainGlobals "goes_on" = some (some (.ref f19)))
    (q19 : HX.FnIn K f19 "goes_on" "goes_on" sGo)
    (a20 : PySem.W.nsIn K mainGlobals "is_ascending" = some (some (.ref f20)))
    (q20 : HX.FnIn K f20 "is_ascending" "is_ascending" sAs)
    (a21 : PySem.W.nsIn K mainGlobals "parse_number" = some (some (.ref f21)))
    (q21 : HX.FnIn K f21 "parse_number" "parse_number" sNum)
    (a22 : PySem.W.nsIn K mainGlobals "parse_entry" = some (some (.ref f22)))
    (q22 : HX.FnIn K f22 "parse_entry" "parse_entry" sPe)
    (a23 : PySem.W.nsIn K mainGlobals "is_count" = some (some (.ref f23)))
    (q23 : HX.FnIn K f23 "is_count" "is_count" sCt)
    (a24 : PySem.W.nsIn K mainGlobals "is_view" = some (some (.ref f24)))
    (q24 : HX.FnIn K f24 "is_view" "is_view" sIv)
    (a25 : PySem.W.nsIn K mainGlobals "read_view" = some (some (.ref f25)))
    (q25 : HX.FnIn K f25 "read_view" "read_view" sRv)
    (a26 : PySem.W.nsIn K mainGlobals "read_head" = some (some (.ref f26)))
    (q26 : HX.FnIn K f26 "read_head" "read_head" sRh)
    (a27 : PySem.W.nsIn K mainGlobals "read_decision" = some (some (.ref f27)))
    (q27 : HX.FnIn K f27 "read_decision" "read_decision" sRd)
    (a28 : PySem.W.nsIn K mainGlobals "read_row" = some (some (.ref f28)))
    (q28 : HX.FnIn K f28 "read_row" "read_row" sRr)
    (a29 : PySem.W.nsIn K mainGlobals "read_body" = some (some (.ref f29)))
    (q29 : HX.FnIn K f29 "read_body" "read_body" sRb)
    (a30 : PySem.W.nsIn K mainGlobals "is_descending" = some (some (.ref f30)))
    (q30 : HX.FnIn K f30 "is_descending" "is_descending" sDs)
    (a31 : PySem.W.nsIn K mainGlobals "can_begin" = some (some (.ref f31)))
    (q31 : HX.FnIn K f31 "can_begin" "can_begin" sCb)
    (a32 : PySem.W.nsIn K mainGlobals "check_digits" = some (some (.ref f32)))
    (q32 : HX.FnIn K f32 "check_digits" "check_digits" sCkD)
    (a33 : PySem.W.nsIn K mainGlobals "record_line" = some (some (.ref f33)))
    (q33 : HX.FnIn K f33 "record_line" "record_line" sRcL)
    (a34 : PySem.W.nsIn K mainGlobals "is_body" = some (some (.ref f34)))
    (q34 : HX.FnIn K f34 "is_body" "is_body" sIsY)
    (a35 : PySem.W.nsIn K mainGlobals "read_record" = some (some (.ref f35)))
    (q35 : HX.FnIn K f35 "read_record" "read_record" sRdR)
    (a36 : PySem.W.nsIn K mainGlobals "whole_records" = some (some (.ref f36)))
    (q36 : HX.FnIn K f36 "whole_records" "whole_records" sWhR)
    (a37 : PySem.W.nsIn K mainGlobals "read_unit" = some (some (.ref f37)))
    (q37 : HX.FnIn K f37 "read_unit" "read_unit" sRu)
    (a38 : PySem.W.nsIn K mainGlobals "journal_of" = some (some (.ref f38)))
    (q38 : HX.FnIn K f38 "journal_of" "journal_of" sJo)
    (a39 : PySem.W.nsIn K mainGlobals "recovered" = some (some (.ref f39)))
    (q39 : HX.FnIn K f39 "recovered" "recovered" sRe)
    (a40 : PySem.W.nsIn K mainGlobals "agree" = some (some (.ref f40)))
    (q40 : HX.FnIn K f40 "agree" "agree" sAg)
    (a41 : PySem.W.nsIn K mainGlobals "common_beginning" = some (some (.ref f41)))
    (q41 : HX.FnIn K f41 "common_beginning" "common_beginning" sCm)
    (a42 : PySem.W.nsIn K mainGlobals "is_beginning" = some (some (.ref f42)))
    (q42 : HX.FnIn K f42 "is_beginning" "is_beginning" sIb)
    (a43 : PySem.W.nsIn K mainGlobals "_law_row" = some (some (.ref f43)))
    (q43 : HX.FnIn K f43 "_law_row" "_law_row" sRow)
    (a44 : PySem.W.nsIn K mainGlobals "_law_numbers" = some (some (.ref f44)))
    (q44 : HX.FnIn K f44 "_law_numbers" "_law_numbers" sNumbers)
    (a45 : PySem.W.nsIn K mainGlobals "_law_three" = some (some (.ref f45)))
    (q45 : HX.FnIn K f45 "_law_three" "_law_three" sThr)
    (a46 : PySem.W.nsIn K mainGlobals "_law_digits" = some (some (.ref f46)))
    (q46 : HX.FnIn K f46 "_law_digits" "_law_digits" sDgt)
    (a47 : PySem.W.nsIn K mainGlobals "_law_line" = some (some (.ref f47)))
    (q47 : HX.FnIn K f47 "_law_line" "_law_line" sLnR)
    (a48 : PySem.W.nsIn K mainGlobals "_law_text" = some (some (.ref f48)))
    (q48 : HX.FnIn K f48 "_law_text" "_law_text" sLt)
    (a49 : PySem.W.nsIn K mainGlobals "_law_limit" = some (some (.ref f49)))
    (q49 : HX.FnIn K f49 "_law_limit" "_law_limit" sLm)
    (a50 : PySem.W.nsIn K mainGlobals "_law_limits" = some (some (.ref f50)))
    (q50 : HX.FnIn K f50 "_law_limits" "_law_limits" sLs)
    (a51 : PySem.W.nsIn K mainGlobals "_law_entries" = some (some (.ref f51)))
    (q51 : HX.FnIn K f51 "_law_entries" "_law_entries" sEs)
    (a52 : PySem.W.nsIn K mainGlobals "_law_asked" = some (some (.ref f52)))
    (q52 : HX.FnIn K f52 "_law_asked" "_law_asked" sAk)
    (a53 : PySem.W.nsIn K mainGlobals "_law_body" = some (some (.ref f53)))
    (q53 : HX.FnIn K f53 "_law_body" "_law_body" sBo)
    (a54 : PySem.W.nsIn K mainGlobals "_law_looks" = some (some (.ref f54)))
    (q54 : HX.FnIn K f54 "_law_looks" "_law_looks" sLk)
    (a55 : PySem.W.nsIn K mainGlobals "_law_pool_fits" = some (some (.ref f55)))
    (q55 : HX.FnIn K f55 "_law_pool_fits" "_law_pool_fits" sPf)
    (a56 : PySem.W.nsIn K mainGlobals "_law_bucket_fits" = some (some (.ref f56)))
    (q56 : HX.FnIn K f56 "_law_bucket_fits" "_law_bucket_fits" sBf)
    (a57 : PySem.W.nsIn K mainGlobals "_law_fits" = some (some (.ref f57)))
    (q57 : HX.FnIn K f57 "_law_fits" "_law_fits" sFt)
    (a58 : PySem.W.nsIn K mainGlobals "_law_never" = some (some (.ref f58)))
    (q58 : HX.FnIn K f58 "_law_never" "_law_never" sNv)
    (a59 : PySem.W.nsIn K mainGlobals "_law_earliest" = some (some (.ref f59)))
    (q59 : HX.FnIn K f59 "_law_earliest" "_law_earliest" sEa)
    (a60 : PySem.W.nsIn K mainGlobals "_law_taken" = some (some (.ref f60)))
    (q60 : HX.FnIn K f60 "_law_taken" "_law_taken" sTa)
    (a61 : PySem.W.nsIn K mainGlobals "_law_rows" = some (some (.ref f61)))
    (q61 : HX.FnIn K f61 "_law_rows" "_law_rows" sRs)
    (a62 : PySem.W.nsIn K mainGlobals "_law_row_body" = some (some (.ref f62)))
    (q62 : HX.FnIn K f62 "_law_row_body" "_law_row_body" sLr)
    (a63 : PySem.W.nsIn K mainGlobals "_law_head_body" = some (some (.ref f63)))
    (q63 : HX.FnIn K f63 "_law_head_body" "_law_head_body" sLh)
    (a64 : PySem.W.nsIn K mainGlobals "_law_view_words" = some (some (.ref f64)))
    (q64 : HX.FnIn K f64 "_law_view_words" "_law_view_words" sLw)
    (a65 : PySem.W.nsIn K mainGlobals "_law_journal" = some (some (.ref f65)))
    (q65 : HX.FnIn K f65 "_law_journal" "_law_journal" sLj)
    (a66 : PySem.W.nsIn K mainGlobals "_law_agree" = some (some (.ref f66)))
    (q66 : HX.FnIn K f66 "_law_agree" "_law_agree" sLa)
    (a67 : PySem.W.nsIn K mainGlobals "law" = some (some (.ref f67)))
    (q67 : HX.FnIn K f67 "law" "law" sLaw)
    (z0 : PySem.W.nsIn K mainGlobals "len" = some none)
    (z1 : PySem.W.nsIn K mainGlobals "int" = some none)
    (z2 : PySem.W.nsIn K mainGlobals "abs" = some none)
    (z3 : PySem.W.nsIn K mainGlobals "range" = some none)
    (z4 : PySem.W.nsIn K mainGlobals "tuple" = some none)
    (z5 : PySem.W.nsIn K mainGlobals "list" = some none)
    (z6 : PySem.W.nsIn K mainGlobals "sorted" = some none)
    (z7 : PySem.W.nsIn K mainGlobals "set" = some none)
    (z8 : PySem.W.nsIn K mainGlobals "isinstance" = some none)
    (z9 : PySem.W.nsIn K mainGlobals "bool" = some none)
    (z10 : PySem.W.nsIn K mainGlobals "min" = some none)
    (z11 : PySem.W.nsIn K mainGlobals "max" = some none)
    (z12 : PySem.W.nsIn K mainGlobals "sum" = some none)
    (z13 : PySem.W.nsIn K mainGlobals "all" = some none)
    (z14 : PySem.W.nsIn K mainGlobals "any" = some none)
    (z15 : PySem.W.nsIn K mainGlobals "str" = some none)
    (z16 : PySem.W.nsIn K mainGlobals "zip" = some none)
    (z17 : PySem.W.nsIn K mainGlobals "enumerate" = some none)
    (zg0 : PySem.W.nsIn K mainGlobals "NAME_SIGNS" = some (some (.str "abcdefghijklmnopqrstuvwxyz0123456789" tg0)))
    (zg1 : PySem.W.nsIn K mainGlobals "KEY_SIGNS" = some (some (.str "abcdefghijklmnopqrstuvwxyz0123456789-" tg1)))
    (zg2 : PySem.W.nsIn K mainGlobals "GREATEST_MOMENT" = some (some (.int 1000000000 tg2)))
    (zg3 : PySem.W.nsIn K mainGlobals "GREATEST_COST" = some (some (.int 1000 tg3)))
    (zg4 : PySem.W.nsIn K mainGlobals "DIGITS" = some (some (.str "0123456789" tg4)))
    (zg5 : PySem.W.nsIn K mainGlobals "NUMBER_DIGITS_notation" = some (some (.int 7 tg5)))
    (zg6 : PySem.W.nsIn K mainGlobals "MOMENT_DIGITS" = some (some (.int 10 tg6)))
    (zg7 : PySem.W.nsIn K mainGlobals "NONE" = some (some (.str "none" tg7)))
    (zg8 : PySem.W.nsIn K mainGlobals "NEVER" = some (some (.str "never" tg8)))
    (zg9 : PySem.W.nsIn K mainGlobals "GREATEST_COUNT" = some (some (.int 999999 tg9)))
    (zg10 : PySem.W.nsIn K mainGlobals "COUNT_DIGITS" = some (some (.int 6 tg10)))
    (zg11 : PySem.W.nsIn K mainGlobals "COST_DIGITS" = some (some (.int 4 tg11)))
    (zg12 : PySem.W.nsIn K mainGlobals "EARLIEST_DIGITS" = some (some (.int 12 tg12)))
    (zg13 : PySem.W.nsIn K mainGlobals "MOST_NAMES" = some (some (.int 8 tg13)))
    (zg14 : PySem.W.nsIn K mainGlobals "LONGEST_BODY" = some (some (.int 700 tg14)))
    (zg15 : PySem.W.nsIn K mainGlobals "PRIME" = some (some (.int 997 tg15)))
    (zg16 : PySem.W.nsIn K mainGlobals "SIZE_DIGITS" = some (some (.int 3 tg16)))
    (zg17 : PySem.W.nsIn K mainGlobals "NUMBER_DIGITS_records" = some (some (.int 6 tg17)))
    (zg18 : PySem.W.nsIn K mainGlobals "END" = some (some (.int 7 tg18)))
    (zord : PySem.W.nsIn K mainGlobals "ord" = some none) :
    ∃ fn : FuncData, (∀ (s : Shared) (v : Value), BindsTo s fn ⟨[v], []⟩ [("script", v)]) ∧ ∀ base : Heap, K.In base → base.Ns mainGlobals mg → FnOk l.prog w K mg base CX0 12 fa fn ["script"] (spLaw K) := by
  obtain ⟨oc0, od0, kV0, dc0, pm0, an0, cd0, ct0, sl0, l0, c0, k0⟩ := q0
  obtain ⟨oc1, od1, kV1, dc1, pm1, an1, cd1, ct1, sl1, l1, c1, k1⟩ := q1
  obtain ⟨oc2, od2, kV2, dc2, pm2, an2, cd2, ct2, sl2, l2, c2, k2⟩ := q2
  obtain ⟨oc3, od3, kV3, dc3, pm3, an3, cd3, ct3, sl3, l3, c3, k3⟩ := q3
  obtain ⟨oc4, od4, kV4, dc4, pm4, an4, cd4, ct4, sl4, l4, c4, k4⟩ := q4
  obtain ⟨oc5, od5, kV5, dc5, pm5, an5, cd5, ct5, sl5, l5, c5, k5⟩ := q5
  obtain ⟨oc6, od6, kV6, dc6, pm6, an6, cd6, ct6, sl6, l6, c6, k6⟩ := q6
  obtain ⟨oc7, od7, kV7, dc7, pm7, an7, cd7, ct7, sl7, l7, c7, k7⟩ := q7
  obtain ⟨oc8, od8, kV8, dc8, pm8, an8, cd8, ct8, sl8, l8, c8, k8⟩ := q8
  obtain ⟨oc9, od9, kV9, dc9, pm9, an9, cd9, ct9, sl9, l9, c9, k9⟩ := q9
  obtain ⟨oc10, od10, kV10, dc10, pm10, an10, cd10, ct10, sl10, l10, c10, k10⟩ := q10
  obtain ⟨oc11, od11, kV11, dc11, pm11, an11, cd11, ct11, sl11, l11, c11, k11⟩ := q11
  obtain ⟨oc12, od12, kV12, dc12, pm12, an12, cd12, ct12, sl12, l12, c12, k12⟩ := q12
  obtain ⟨oc13, od13, kV13, dc13, pm13, an13, cd13, ct13, sl13, l13, c13, k13⟩ := q13
  obtain ⟨oc14, od14, kV14, dc14, pm14, an14, cd14, ct14, sl14, l14, c14, k14⟩ := q14
  obtain ⟨oc15, od15, kV15, dc15, pm15, an15, cd15, ct15, sl15, l15, c15, k15⟩ := q15
  obtain ⟨oc16, od16, kV16, dc16, pm16, an16, cd16, ct16, sl16, l16, c16, k16⟩ := q16
  obtain ⟨oc17, od17, kV17, dc17, pm17, an17, cd17, ct17, sl17, l17, c17, k17⟩ := q17
  obtain ⟨oc18, od18, kV18, dc18, pm18, an18, cd18, ct18, sl18, l18, c18, k18⟩ := q18
  obtain ⟨oc19, od19, kV19, dc19, pm19, an19, cd19, ct19, sl19, l19, c19, k19⟩ := q19
  obtain ⟨oc20, od20, kV20, dc20, pm20, an20, cd20, ct20, sl20, l20, c20, k20⟩ := q20
  obtain ⟨oc21, od21, kV21, dc21, pm21, an21, cd21, ct21, sl21, l21, c21, k21⟩ := q21
  obtain ⟨oc22, od22, kV22, dc22, pm22, an22, cd22, ct22, sl22, l22, c22, k22⟩ := q22
  obtain ⟨oc23, od23, kV23, dc23, pm23, an23, cd23, ct23, sl23, l23, c23, k23⟩ := q23
  obtain ⟨oc24, od24, kV24, dc24, pm24, an24, cd24, ct24, sl24, l24, c24, k24⟩ := q24
  obtain ⟨oc25, od25, kV25, dc25, pm25, an25, cd25, ct25, sl25, l25, c25, k25⟩ := q25
  obtain ⟨oc26, od26, kV26, dc26, pm26, an26, cd26, ct26, sl26, l26, c26, k26⟩ := q26
  obtain ⟨oc27, od27, kV27, dc27, pm27, an27, cd27, ct27, sl27, l27, c27, k27⟩ := q27
  obtain ⟨oc28, od28, kV28, dc28, pm28, an28, cd28, ct28, sl28, l28, c28, k28⟩ := q28
  obtain ⟨oc29, od29, kV29, dc29, pm29, an29, cd29, ct29, sl29, l29, c29, k29⟩ := q29
  obtain ⟨oc30, od30, kV30, dc30, pm30, an30, cd30, ct30, sl30, l30, c30, k30⟩ := q30
  obtain ⟨oc31, od31, kV31, dc31, pm31, an31, cd31, ct31, sl31, l31, c31, k31⟩ := q31
  obtain ⟨oc32, od32, kV32, dc32, pm32, an32, cd32, ct32, sl32, l32, c32, k32⟩ := q32
  obtain ⟨oc33, od33, kV33, dc33, pm33, an33, cd33, ct33, sl33, l33, c33, k33⟩ := q33
  obtain ⟨oc34, od34, kV34, dc34, pm34, an34, cd34, ct34, sl34, l34, c34, k34⟩ := q34
  obtain ⟨oc35, od35, kV35, dc35, pm35, an35, cd35, ct35, sl35, l35, c35, k35⟩ := q35
  obtain ⟨oc36, od36, kV36, dc36, pm36, an36, cd36, ct36, sl36, l36, c36, k36⟩ := q36
  obtain ⟨oc37, od37, kV37, dc37, pm37, an37, cd37, ct37, sl37, l37, c37, k37⟩ := q37
  obtain ⟨oc38, od38, kV38, dc38, pm38, an38, cd38, ct38, sl38, l38, c38, k38⟩ := q38
  obtain ⟨oc39, od39, kV39, dc39, pm39, an39, cd39, ct39, sl39, l39, c39, k39⟩ := q39
  obtain ⟨oc40, od40, kV40, dc40, pm40, an40, cd40, ct40, sl40, l40, c40, k40⟩ := q40
  obtain ⟨oc41, od41, kV41, dc41, pm41, an41, cd41, ct41, sl41, l41, c41, k41⟩ := q41
  obtain ⟨oc42, od42, kV42, dc42, pm42, an42, cd42, ct42, sl42, l42, c42, k42⟩ := q42
  obtain ⟨oc43, od43, kV43, dc43, pm43, an43, cd43, ct43, sl43, l43, c43, k43⟩ := q43
  obtain ⟨oc44, od44, kV44, dc44, pm44, an44, cd44, ct44, sl44, l44, c44, k44⟩ := q44
  obtain ⟨oc45, od45, kV45, dc45, pm45, an45, cd45, ct45, sl45, l45, c45, k45⟩ := q45
  obtain ⟨oc46, od46, kV46, dc46, pm46, an46, cd46, ct46, sl46, l46, c46, k46⟩ := q46
  obtain ⟨oc47, od47, kV47, dc47, pm47, an47, cd47, ct47, sl47, l47, c47, k47⟩ := q47
  obtain ⟨oc48, od48, kV48, dc48, pm48, an48, cd48, ct48, sl48, l48, c48, k48⟩ := q48
  obtain ⟨oc49, od49, kV49, dc49, pm49, an49, cd49, ct49, sl49, l49, c49, k49⟩ := q49
  obtain ⟨oc50, od50, kV50, dc50, pm50, an50, cd50, ct50, sl50, l50, c50, k50⟩ := q50
  obtain ⟨oc51, od51, kV51, dc51, pm51, an51, cd51, ct51, sl51, l51, c51, k51⟩ := q51
  obtain ⟨oc52, od52, kV52, dc52, pm52, an52, cd52, ct52, sl52, l52, c52, k52⟩ := q52
  obtain ⟨oc53, od53, kV53, dc53, pm53, an53, cd53, ct53, sl53, l53, c53, k53⟩ := q53
  obtain ⟨oc54, od54, kV54, dc54, pm54, an54, cd54, ct54, sl54, l54, c54, k54⟩ := q54
  obtain ⟨oc55, od55, kV55, dc55, pm55, an55, cd55, ct55, sl55, l55, c55, k55⟩ := q55
  obtain ⟨oc56, od56, kV56, dc56, pm56, an56, cd56, ct56, sl56, l56, c56, k56⟩ := q56
  obtain ⟨oc57, od57, kV57, dc57, pm57, an57, cd57, ct57, sl57, l57, c57, k57⟩ := q57
  obtain ⟨oc58, od58, kV58, dc58, pm58, an58, cd58, ct58, sl58, l58, c58, k58⟩ := q58
  obtain ⟨oc59, od59, kV59, dc59, pm59, an59, cd59, ct59, sl59, l59, c59, k59⟩ := q59
  obtain ⟨oc60, od60, kV60, dc60, pm60, an60, cd60, ct60, sl60, l60, c60, k60⟩ := q60
  obtain ⟨oc61, od61, kV61, dc61, pm61, an61, cd61, ct61, sl61, l61, c61, k61⟩ := q61
  obtain ⟨oc62, od62, kV62, dc62, pm62, an62, cd62, ct62, sl62, l62, c62, k62⟩ := q62
  obtain ⟨oc63, od63, kV63, dc63, pm63, an63, cd63, ct63, sl63, l63, c63, k63⟩ := q63
  obtain ⟨oc64, od64, kV64, dc64, pm64, an64, cd64, ct64, sl64, l64, c64, k64⟩ := q64
  obtain ⟨oc65, od65, kV65, dc65, pm65, an65, cd65, ct65, sl65, l65, c65, k65⟩ := q65
  obtain ⟨oc66, od66, kV66, dc66, pm66, an66, cd66, ct66, sl66, l66, c66, k66⟩ := q66
  obtain ⟨oc67, od67, kV67, dc67, pm67, an67, cd67, ct67, sl67, l67, c67, k67⟩ := q67
  have e := hfa.symm.trans (PySem.W.mg_of X G a67)
  cases e
  have T : Bt mg := ⟨PySem.W.mg_none_of X G z0, PySem.W.mg_none_of X G z1, PySem.W.mg_none_of X G z2, PySem.W.mg_none_of X G z3, PySem.W.mg_none_of X G z4, PySem.W.mg_none_of X G z5, PySem.W.mg_none_of X G z6, PySem.W.mg_none_of X G z7, PySem.W.mg_none_of X G z8, PySem.W.mg_none_of X G z9, PySem.W.mg_none_of X G z10, PySem.W.mg_none_of X G z11, PySem.W.mg_none_of X G z12, PySem.W.mg_none_of X G z13, PySem.W.mg_none_of X G z14, PySem.W.mg_none_of X G z15, PySem.W.mg_none_of X G z16, PySem.W.mg_none_of X G z17⟩
  have F0 := fun_mk (st := sPi) l0 c0 k0
  have b0 := F0.binds (ps := ["self"]) fun _ _ _ _ _ _ us hl => match us, hl with | [_], _ => rfl
  have F1 := fun_mk (st := sFi) l1 c1 k1
  have b1 := F1.binds (ps := ["self", "word", "told"]) fun _ _ _ _ _ _ us hl => match us, hl with | [_, _, _], _ => rfl
  have F2 := fun_mk (st := sTk) l2 c2 k2
  have b2 := F2.binds (ps := ["self", "word", "told"]) fun _ _ _ _ _ _ us hl => match us, hl with | [_, _, _], _ => rfl
  have F3 := fun_mk (st := sFv) l3 c3 k3
  have b3 := F3.binds (ps := ["self", "view"]) fun _ _ _ _ _ _ us hl => match us, hl with | [_, _], _ => rfl
  have F4 := fun_mk (st := sTb) l4 c4 k4
  have b4 := F4.binds (ps := ["self", "head", "rows"]) fun _ _ _ _ _ _ us hl => match us, hl with | [_, _, _], _ => rfl
  have F5 := fun_mk (st := sFr) l5 c5 k5
  have b5 := F5.binds (ps := ["self", "row"]) fun _ _ _ _ _ _ us hl => match us, hl with | [_, _], _ => rfl
  have F6 := fun_mk (st := sTe) l6 c6 k6
  have b6 := F6.binds (ps := ["self", "entry"]) fun _ _ _ _ _ _ us hl => match us, hl with | [_, _], _ => rfl
  have F7 := fun_mk (st := sTs) l7 c7 k7
  have b7 := F7.binds (ps := ["self", "head", "rows"]) fun _ _ _ _ _ _ us hl => match us, hl with | [_, _, _], _ => rfl
  have F8 := fun_mk (st := sJi) l8 c8 k8
  have b8 := F8.binds (ps := ["self"]) fun _ _ _ _ _ _ us hl => match us, hl with | [_], _ => rfl
  have F9 := fun_mk (st := sJe) l9 c9 k9
  have b9 := F9.binds (ps := ["self"]) fun _ _ _ _ _ _ us hl => match us, hl with | [_], _ => rfl
  have F10 := fun_mk (st := sJf) l10 c10 k10
  have b10 := F10.binds (ps := ["self"]) fun _ _ _ _ _ _ us hl => match us, hl with | [_], _ => rfl
  have F11 := fun_mk (st := sJp) l11 c11 k11
  have b11 := F11.binds (ps := ["self", "word", "told", "bodies"]) fun _ _ _ _ _ _ us hl => match us, hl with | [_, _, _, _], _ => rfl
  have F12 := fun_mk (st := sJt) l12 c12 k12
  have b12 := F12.binds (ps := ["self", "records"]) fun _ _ _ _ _ _ us hl => match us, hl with | [_, _], _ => rfl
  have F13 := fun_mk (st := sName) l13 c13 k13
  have b13 := F13.binds (ps := ["text"]) fun _ _ _ _ _ _ us hl => match us, hl with | [_], _ => rfl
  have F14 := fun_mk (st := sKey) l14 c14 k14
  have b14 := F14.binds (ps := ["text"]) fun _ _ _ _ _ _ us hl => match us, hl with | [_], _ => rfl
  have F15 := fun_mk (st := sIn) l15 c15 k15
  have b15 := F15.binds (ps := ["number", "least", "greatest"]) fun _ _ _ _ _ _ us hl => match us, hl with | [_, _, _], _ => rfl
  have F16 := fun_mk (st := sMo) l16 c16 k16
  have b16 := F16.binds (ps := ["moment"]) fun _ _ _ _ _ _ us hl => match us, hl with | [_], _ => rfl
  have F17 := fun_mk (st := sRq) l17 c17 k17
  have b17 := F17.binds (ps := ["key", "group", "cost"]) fun _ _ _ _ _ _ us hl => match us, hl with | [_, _, _], _ => rfl
  have F18 := fun_mk (st := sEnt) l18 c18 k18
  have b18 := F18.binds (ps := ["entry"]) fun _ _ _ _ _ _ us hl => match us, hl with | [_], _ => rfl
  have F19 := fun_mk (st := sGo) l19 c19 k19
  have b19 := F19.binds (ps := ["entry", "moment", "asked"]) fun _ _ _ _ _ _ us hl => match us, hl with | [_, _, _], _ => rfl
  have F20 := fun_mk (st := sAs) l20 c20 k20
  have b20 := F20.binds (ps := ["names"]) fun _ _ _ _ _ _ us hl => match us, hl with | [_], _ => rfl
  have F21 := fun_mk (st := sNum) l21 c21 k21
  have b21 := F21.binds (ps := ["word", "digits"]) fun _ _ _ _ _ _ us hl => match us, hl with | [_, _], _ => rfl
  have F22 := fun_mk (st := sPe) l22 c22 k22
  have b22 := F22.binds (ps := ["line"]) fun _ _ _ _ _ _ us hl => match us, hl with | [_], _ => rfl
  have F23 := fun_mk (st := sCt) l23 c23 k23
  have b23 := F23.binds (ps := ["number"]) fun _ _ _ _ _ _ us hl => match us, hl with | [_], _ => rfl
  have F24 := fun_mk (st := sIv) l24 c24 k24
  have b24 := F24.binds (ps := ["view"]) fun _ _ _ _ _ _ us hl => match us, hl with | [_], _ => rfl
  have F25 := fun_mk (st := sRv) l25 c25 k25
  have b25 := F25.binds (ps := ["words"]) fun _ _ _ _ _ _ us hl => match us, hl with | [_], _ => rfl
  have F26 := fun_mk (st := sRh) l26 c26 k26
  have b26 := F26.binds (ps := ["words"]) fun _ _ _ _ _ _ us hl => match us, hl with | [_], _ => rfl
  have F27 := fun_mk (st := sRd) l27 c27 k27
  have b27 := F27.binds (ps := ["words", "moment"]) fun _ _ _ _ _ _ us hl => match us, hl with | [_, _], _ => rfl
  have F28 := fun_mk (st := sRr) l28 c28 k28
  have b28 := F28.binds (ps := ["words"]) fun _ _ _ _ _ _ us hl => match us, hl with | [_], _ => rfl
  have F29 := fun_mk (st := sRb) l29 c29 k29
  have b29 := F29.binds (ps := ["body"]) fun _ _ _ _ _ _ us hl => match us, hl with | [_], _ => rfl
  have F30 := fun_mk (st := sDs) l30 c30 k30
  have b30 := F30.binds (ps := ["moments"]) fun _ _ _ _ _ _ us hl => match us, hl with | [_], _ => rfl
  have F31 := fun_mk (st := sCb) l31 c31 k31
  have b31 := F31.binds (ps := ["head", "rows"]) fun _ _ _ _ _ _ us hl => match us, hl with | [_, _], _ => rfl
  have F32 := fun_mk (st := sCkD) l32 c32 k32
  have b32 := F32.binds (ps := ["text"]) fun _ _ _ _ _ _ us hl => match us, hl with | [_], _ => rfl
  have F33 := fun_mk (st := sRcL) l33 c33 k33
  have b33 := F33.binds (ps := ["number", "body"]) fun _ _ _ _ _ _ us hl => match us, hl with | [_, _], _ => rfl
  have F34 := fun_mk (st := sIsY) l34 c34 k34
  have b34 := F34.binds (ps := ["text"]) fun _ _ _ _ _ _ us hl => match us, hl with | [_], _ => rfl
  have F35 := fun_mk (st := sRdR) l35 c35 k35
  have b35 := F35.binds (ps := ["line"]) fun _ _ _ _ _ _ us hl => match us, hl with | [_], _ => rfl
  have F36 := fun_mk (st := sWhR) l36 c36 k36
  have b36 := F36.binds (ps := ["text"]) fun _ _ _ _ _ _ us hl => match us, hl with | [_], _ => rfl
  have F37 := fun_mk (st := sRu) l37 c37 k37
  have b37 := F37.binds (ps := ["records", "at"]) fun _ _ _ _ _ _ us hl => match us, hl with | [_, _], _ => rfl
  have F38 := fun_mk (st := sJo) l38 c38 k38
  have b38 := F38.binds (ps := ["records"]) fun _ _ _ _ _ _ us hl => match us, hl with | [_], _ => rfl
  have F39 := fun_mk (st := sRe) l39 c39 k39
  have b39 := F39.binds (ps := ["text"]) fun _ _ _ _ _ _ us hl => match us, hl with | [_], _ => rfl
  have F40 := fun_mk (st := sAg) l40 c40 k40
  have b40 := F40.binds (ps := ["first", "second"]) fun _ _ _ _ _ _ us hl => match us, hl with | [_, _], _ => rfl
  have F41 := fun_mk (st := sCm) l41 c41 k41
  have b41 := F41.binds (ps := ["first", "second"]) fun _ _ _ _ _ _ us hl => match us, hl with | [_, _], _ => rfl
  have F42 := fun_mk (st := sIb) l42 c42 k42
  have b42 := F42.binds (ps := ["first", "second"]) fun _ _ _ _ _ _ us hl => match us, hl with | [_, _], _ => rfl
  have F43 := fun_mk (st := sRow) l43 c43 k43
  have b43 := F43.binds (ps := ["cell", "many"]) fun _ _ _ _ _ _ us hl => match us, hl with | [_, _], _ => rfl
  have F44 := fun_mk (st := sNumbers) l44 c44 k44
  have b44 := F44.binds (ps := ["script", "many"]) fun _ _ _ _ _ _ us hl => match us, hl with | [_, _], _ => rfl
  have F45 := fun_mk (st := sThr) l45 c45 k45
  have b45 := F45.binds (ps := ["number"]) fun _ _ _ _ _ _ us hl => match us, hl with | [_], _ => rfl
  have F46 := fun_mk (st := sDgt) l46 c46 k46
  have b46 := F46.binds (ps := ["text"]) fun _ _ _ _ _ _ us hl => match us, hl with | [_], _ => rfl
  have F47 := fun_mk (st := sLnR) l47 c47 k47
  have b47 := F47.binds (ps := ["number", "body"]) fun _ _ _ _ _ _ us hl => match us, hl with | [_, _], _ => rfl
  have F48 := fun_mk (st := sLt) l48 c48 k48
  have b48 := F48.binds (ps := ["records"]) fun _ _ _ _ _ _ us hl => match us, hl with | [_], _ => rfl
  have F49 := fun_mk (st := sLm) l49 c49 k49
  have b49 := F49.binds (ps := ["numbers", "at", "name"]) fun _ _ _ _ _ _ us hl => match us, hl with | [_, _, _], _ => rfl
  have F50 := fun_mk (st := sLs) l50 c50 k50
  have b50 := F50.binds (ps := ["numbers", "at"]) fun _ _ _ _ _ _ us hl => match us, hl with | [_, _], _ => rfl
  have F51 := fun_mk (st := sEs) l51 c51 k51
  have b51 := F51.binds (ps := ["numbers", "at", "many", "keys", "moment"]) fun _ _ _ _ _ _ us hl => match us, hl with | [_, _, _, _, _], _ => rfl
  have F52 := fun_mk (st := sAk) l52 c52 k52
  have b52 := F52.binds (ps := ["entries"]) fun _ _ _ _ _ _ us hl => match us, hl with | [_], _ => rfl
  have F53 := fun_mk (st := sBo) l53 c53 k53
  have b53 := F53.binds (ps := ["entry"]) fun _ _ _ _ _ _ us hl => match us, hl with | [_], _ => rfl
  have F54 := fun_mk (st := sLk) l54 c54 k54
  have b54 := F54.binds (ps := ["limit", "group"]) fun _ _ _ _ _ _ us hl => match us, hl with | [_, _], _ => rfl
  have F55 := fun_mk (st := sPf) l55 c55 k55
  have b55 := F55.binds (ps := ["numbers", "held", "request"]) fun _ _ _ _ _ _ us hl => match us, hl with | [_, _, _], _ => rfl
  have F56 := fun_mk (st := sBf) l56 c56 k56
  have b56 := F56.binds (ps := ["numbers", "let", "request", "moment"]) fun _ _ _ _ _ _ us hl => match us, hl with | [_, _, _, _], _ => rfl
  have F57 := fun_mk (st := sFt) l57 c57 k57
  have b57 := F57.binds (ps := ["limit", "rows", "request", "moment"]) fun _ _ _ _ _ _ us hl => match us, hl with | [_, _, _, _], _ => rfl
  have F58 := fun_mk (st := sNv) l58 c58 k58
  have b58 := F58.binds (ps := ["limit", "rows", "request", "moment"]) fun _ _ _ _ _ _ us hl => match us, hl with | [_, _, _, _], _ => rfl
  have F59 := fun_mk (st := sEa) l59 c59 k59
  have b59 := F59.binds (ps := ["limits", "rows", "request", "moment"]) fun _ _ _ _ _ _ us hl => match us, hl with | [_, _, _, _], _ => rfl
  have F60 := fun_mk (st := sTa) l60 c60 k60
  have b60 := F60.binds (ps := ["limits", "rows", "entry"]) fun _ _ _ _ _ _ us hl => match us, hl with | [_, _, _], _ => rfl
  have F61 := fun_mk (st := sRs) l61 c61 k61
  have b61 := F61.binds (ps := ["limits", "entries"]) fun _ _ _ _ _ _ us hl => match us, hl with | [_, _], _ => rfl
  have F62 := fun_mk (st := sLr) l62 c62 k62
  have b62 := F62.binds (ps := ["row"]) fun _ _ _ _ _ _ us hl => match us, hl with | [_], _ => rfl
  have F63 := fun_mk (st := sLh) l63 c63 k63
  have b63 := F63.binds (ps := ["rows", "entries", "moment", "view"]) fun _ _ _ _ _ _ us hl => match us, hl with | [_, _, _, _], _ => rfl
  have F64 := fun_mk (st := sLw) l64 c64 k64
  have b64 := F64.binds (ps := ["view"]) fun _ _ _ _ _ _ us hl => match us, hl with | [_], _ => rfl
  have F65 := fun_mk (st := sLj) l65 c65 k65
  have b65 := F65.binds (ps := ["limits", "entries", "number", "is_short"]) fun _ _ _ _ _ _ us hl => match us, hl with | [_, _, _, _], _ => rfl
  have F66 := fun_mk (st := sLa) l66 c66 k66
  have b66 := F66.binds (ps := ["first", "second", "begin"]) fun _ _ _ _ _ _ us hl => match us, hl with | [_, _, _], _ => rfl
  have F67 := fun_mk (st := sLaw) l67 c67 k67
  have m13 := PySem.W.mg_of X G a13
  have m14 := PySem.W.mg_of X G a14
  have m15 := PySem.W.mg_of X G a15
  have m16 := PySem.W.mg_of X G a16
  have m17 := PySem.W.mg_of X G a17
  have m18 := PySem.W.mg_of X G a18
  have m19 := PySem.W.mg_of X G a19
  have m20 := PySem.W.mg_of X G a20
  have m21 := PySem.W.mg_of X G a21
  have m22 := PySem.W.mg_of X G a22
  have m23 := PySem.W.mg_of X G a23
  have m24 := PySem.W.mg_of X G a24
  have m25 := PySem.W.mg_of X G a25
  have m26 := PySem.W.mg_of X G a26
  have m27 := PySem.W.mg_of X G a27
  have m28 := PySem.W.mg_of X G a28
  have m29 := PySem.W.mg_of X G a29
  have m30 := PySem.W.mg_of X G a30
  have m31 := PySem.W.mg_of X G a31
  have m32 := PySem.W.mg_of X G a32
  have m33 := PySem.W.mg_of X G a33
  have m34 := PySem.W.mg_of X G a34
  have m35 := PySem.W.mg_of X G a35
  have m36 := PySem.W.mg_of X G a36
  have m37 := PySem.W.mg_of X G a37
  have m38 := PySem.W.mg_of X G a38
  have m39 := PySem.W.mg_of X G a39
  have m40 := PySem.W.mg_of X G a40
  have m41 := PySem.W.mg_of X G a41
  have m42 := PySem.W.mg_of X G a42
  have m43 := PySem.W.mg_of X G a43
  have m44 := PySem.W.mg_of X G a44
  have m45 := PySem.W.mg_of X G a45
  have m46 := PySem.W.mg_of X G a46
  have m47 := PySem.W.mg_of X G a47
  have m48 := PySem.W.mg_of X G a48
  have m49 := PySem.W.mg_of X G a49
  have m50 := PySem.W.mg_of X G a50
  have m51 := PySem.W.mg_of X G a51
  have m52 := PySem.W.mg_of X G a52
  have m53 := PySem.W.mg_of X G a53
  have m54 := PySem.W.mg_of X G a54
  have m55 := PySem.W.mg_of X G a55
  have m56 := PySem.W.mg_of X G a56
  have m57 := PySem.W.mg_of X G a57
  have m58 := PySem.W.mg_of X G a58
  have m59 := PySem.W.mg_of X G a59
  have m60 := PySem.W.mg_of X G a60
  have m61 := PySem.W.mg_of X G a61
  have m62 := PySem.W.mg_of X G a62
  have m63 := PySem.W.mg_of X G a63
  have m64 := PySem.W.mg_of X G a64
  have m65 := PySem.W.mg_of X G a65
  have m66 := PySem.W.mg_of X G a66
  have GB : Gb mg := ⟨⟨_, PySem.W.mg_of X G zg0⟩, ⟨_, PySem.W.mg_of X G zg1⟩, ⟨_, PySem.W.mg_of X G zg2⟩, ⟨_, PySem.W.mg_of X G zg3⟩⟩
  have GD : Gd mg := ⟨⟨_, PySem.W.mg_of X G zg4⟩, ⟨_, PySem.W.mg_of X G zg5⟩, ⟨_, PySem.W.mg_of X G zg6⟩⟩
  have GN : Gn mg := ⟨⟨_, PySem.W.mg_of X G zg7⟩, ⟨_, PySem.W.mg_of X G zg8⟩, ⟨_, PySem.W.mg_of X G zg9⟩, ⟨_, PySem.W.mg_of X G zg10⟩, ⟨_, PySem.W.mg_of X G zg11⟩, ⟨_, PySem.W.mg_of X G zg12⟩, ⟨_, PySem.W.mg_of X G zg13⟩⟩
  have G39 : R39.Gb mg := ⟨⟨_, PySem.W.mg_of X G zg4⟩, ⟨_, PySem.W.mg_of X G zg14⟩, ⟨_, PySem.W.mg_of X G zg15⟩, ⟨_, PySem.W.mg_of X G zg16⟩, ⟨_, PySem.W.mg_of X G zg17⟩, ⟨_, PySem.W.mg_of X G zg18⟩⟩
  have HO : mg "ord" = none := PySem.W.mg_none_of X G zord
  have XP : Kp K mg C0 := ⟨⟨pg0, hd0, po0, sa0⟩, n0x0, n0x1, n0x2, n0x3, n0x4, n0x5, n0x6, n0x7, PySem.W.mg_of X G zC0⟩
  have XJ : Kj K mg C1 := ⟨⟨pg1, hd1, po1, sa1⟩, n1x0, n1x1, n1x2, n1x3, n1x4, n1x5, PySem.W.mg_of X G zC1⟩
  have M0 : Mk K C0 f0 := ⟨mk0, a0, i0, kc0⟩
  have M1 : Meth K C0 "fits" f1 := ⟨a1, i1, k1⟩
  have M2 : Meth K C0 "take" f2 := ⟨a2, i2, k2⟩
  have M3 : Meth K C0 "_fits_view" f3 := ⟨a3, i3, k3⟩
  have M4 : Meth K C0 "_is_told_by" f4 := ⟨a4, i4, k4⟩
  have M5 : Meth K C0 "_fits_row" f5 := ⟨a5, i5, k5⟩
  have M6 : Meth K C0 "_take_entry" f6 := ⟨a6, i6, k6⟩
  have M7 : Meth K C0 "_take_snapshot" f7 := ⟨a7, i7, k7⟩
  have M8 : Mk K C1 f8 := ⟨mk1, a8, i8, kc1⟩
  have M9 : Meth K C1 "entries" f9 := ⟨a9, i9, k9⟩
  have M10 : Meth K C1 "first_entry" f10 := ⟨a10, i10, k10⟩
  have M11 : Meth K C1 "_put" f11 := ⟨a11, i11, k11⟩
  have M12 : Meth K C1 "_take" f12 := ⟨a12, i12, k12⟩
  refine ⟨PySem.W.fnOf "law" "law" (defArgs sLaw) (defBody sLaw) (defScope sLaw) .none kV67 dc67 pm67 an67 cd67 ct67, fun s v => .of_eq rfl, fun base _ _ => ?_⟩
  have cNa : PFn l.prog w K mg base 1 "is_name" 1 gName := ⟨_, _, _, ok_name F13 T GB, m13, k13, b13⟩
  have cKe : PFn l.prog w K mg base 1 "is_key" 1 gKey := ⟨_, _, _, ok_key F14 T GB, m14, k14, b14⟩
  have cIn : PFn l.prog w K mg base 1 "is_within" 3 gIn := ⟨_, _, _, ok_in F15 T, m15, k15, b15⟩
  have cMo : PFn l.prog w K mg base 2 "is_moment" 1 gMo := ⟨_, _, _, ok_mo F16 GB cIn, m16, k16, b16⟩
  have cRq : PFn l.prog w K mg base 2 "is_request" 3 gRq := ⟨_, _, _, ok_rq F17 GB cNa cKe cIn, m17, k17, b17⟩
  have cEn : PFn l.prog w K mg base 3 "is_entry" 1 gEnt := ⟨_, _, _, ok_ent F18 T cKe cMo cRq, m18, k18, b18⟩
  have cGo : PFn l.prog w K mg base 4 "goes_on" 3 gGo := ⟨_, _, _, ok_go F19 T cEn, m19, k19, b19⟩
  have cAs : PFn l.prog w K mg base 1 "is_ascending" 1 gAsL := ⟨_, _, _, ok_asL F20 T, m20, k20, b20⟩
  have cNu : PFn l.prog w K mg base 1 "parse_number" 2 gNum := ⟨_, _, _, ok_num F21 T GD, m21, k21, b21⟩
  have cPe : PFn l.prog w K mg base 4 "parse_entry" 1 gPe := ⟨_, _, _, ok_pe F22 T GD cNu cEn, m22, k22, b22⟩
  have cCt : PFn l.prog w K mg base 2 "is_count" 1 gCt := ⟨_, _, _, ok_ct F23 GN cIn, m23, k23, b23⟩
  have cIv : PFn l.prog w K mg base 3 "is_view" 1 gIv := ⟨_, _, _, ok_iv F24 T GN cCt cNa, m24, k24, b24⟩
  have cRv : PFn l.prog w K mg base 4 "read_view" 1 gRv := ⟨_, _, _, ok_rv F25 T GN cNu cIv, m25, k25, b25⟩
  have cRh : PFn l.prog w K mg base 5 "read_head" 1 gRh := ⟨_, _, _, ok_rh F26 T GN GD cNu cMo cRv, m26, k26, b26⟩
  have cRd : PFn l.prog w K mg base 2 "read_decision" 2 gRd := ⟨_, _, _, ok_rd F27 T GN cNu cNa cAs, m27, k27, b27⟩
  have cRr : PFn l.prog w K mg base 3 "read_row" 1 gRr := ⟨_, _, _, ok_rr F28 T GN GD cNu cRq cMo cRd, m28, k28, b28⟩
  have cRb : PFn l.prog w K mg base 6 "read_body" 1 gRb := ⟨_, _, _, ok_rb F29 cRv cRh cRr cPe, m29, k29, b29⟩
  have cDs : PFn l.prog w K mg base 1 "is_descending" 1 gDs := ⟨_, _, _, ok_ds F30 T, m30, k30, b30⟩
  have cCb : PFn l.prog w K mg base 2 "can_begin" 2 gCb := ⟨_, _, _, ok_cb F31 T cDs, m31, k31, b31⟩
  have mkP : MMake l.prog w K mg base 1 "Past" C0 1 (gPi C0) := ⟨_, _, _, ok_pi F0 XP, M0, XP.mgC, b0⟩
  have mFv : PMeth l.prog w K mg base 1 C0 "_fits_view" 2 (gFv C0) := ⟨_, _, _, ok_fv F3 XP, M3, b3⟩
  have mFr : PMeth l.prog w K mg base 1 C0 "_fits_row" 2 (gFr C0) := ⟨_, _, _, ok_fr F5 XP, M5, b5⟩
  have mTb : PMeth l.prog w K mg base 2 C0 "_is_told_by" 3 (gTb C0) := ⟨_, _, _, ok_tb F4 T XP mFr, M4, b4⟩
  have mFi : PMeth l.prog w K mg base 5 C0 "fits" 3 (gFi C0) := ⟨_, _, _, ok_fi F1 XP cGo cCb mFv mTb, M1, b1⟩
  have mTe : MMeth l.prog w K mg base 1 C0 "_take_entry" 2 (gTe C0) := ⟨_, _, _, ok_te F6 XP, M6, b6⟩
  have mTs : MMeth l.prog w K mg base 1 C0 "_take_snapshot" 3 (gTs C0) := ⟨_, _, _, ok_ts F7 XP, M7, b7⟩
  have mTk : MMeth l.prog w K mg base 2 C0 "take" 3 (gTk C0) := ⟨_, _, _, ok_tk F2 XP mTe mTs, M2, b2⟩
  have cCk : PFn l.prog w K mg base 1 "check_digits" 1 R39.gChk := ⟨_, _, _, R39.ok_chk F32 T G39 HO, m32, k32, b32⟩
  have cRcL : PFn l.prog w K mg base 2 "record_line" 2 R39.gRec := ⟨_, _, _, R39.ok_rec F33 T cCk, m33, k33, b33⟩
  have cIsY : PFn l.prog w K mg base 1 "is_body" 1 R39.gIsB := ⟨_, _, _, R39.ok_isB F34 T G39, m34, k34, b34⟩
  have cNu9 : PFn l.prog w K mg base 1 "parse_number" 2 R39.gNum := ⟨_, _, _, R39.ok_num F21 T G39, m21, k21, b21⟩
  have cRdR : PFn l.prog w K mg base 3 "read_record" 1 R39.gRead := ⟨_, _, _, R39.ok_read F35 T G39 cNu9 cIsY cRcL, m35, k35, b35⟩
  have cWh : NFn l.prog w K mg base 4 "whole_records" 1 R39.gWh := ⟨_, _, _, R39.ok_wh F36 T cRdR, m36, k36, b36⟩
  have cThr : PFn l.prog w K mg base 1 "_law_three" 1 R39.gThree := ⟨_, _, _, R39.ok_three F45 T, m45, k45, b45⟩
  have cDg : PFn l.prog w K mg base 2 "_law_digits" 1 R39.gChk := ⟨_, _, _, R39.ok_dig F46 T HO cThr, m46, k46, b46⟩
  have cLn : PFn l.prog w K mg base 3 "_law_line" 2 R39.gRec := ⟨_, _, _, R39.ok_line F47 T cDg, m47, k47, b47⟩
  have cRu : PFn l.prog w K mg base 7 "read_unit" 2 gRu := ⟨_, _, _, ok_ru F37 T cRb, m37, k37, b37⟩
  have mkJ : MMake l.prog w K mg base 3 "Journal" C1 1 (gJi C1 C0) := ⟨_, _, _, ok_ji F8 XJ mkP, M8, XJ.mgC, b8⟩
  have mJe : PMeth l.prog w K mg base 1 C1 "entries" 1 (gJe C1 C0) := ⟨_, _, _, ok_je F9 T XJ, M9, b9⟩
  have mJf : PMeth l.prog w K mg base 1 C1 "first_entry" 1 (gJf C1 C0) := ⟨_, _, _, ok_jf F10 XJ XP, M10, b10⟩
  have mPut : MMeth l.prog w K mg base 3 C1 "_put" 4 (gJp C1 C0) := ⟨_, _, _, ok_jp F11 T XJ XP mTk, M11, b11⟩
  have mTake : MMeth l.prog w K mg base 8 C1 "_take" 2 (gJt C1 C0) := ⟨_, _, _, ok_jt F12 T XJ XP cRu mFi mPut, M12, b12⟩
  have cJo : OFn l.prog w K mg base 9 "journal_of" 1 (gJo C1 C0) := ⟨_, _, _, ok_jo F38 XJ mkJ mTake, m38, k38, b38⟩
  have cRe : OFn l.prog w K mg base 10 "recovered" 1 (gRe C1 C0) := ⟨_, _, _, ok_re F39 cJo cWh, m39, k39, b39⟩
  have cAg : PFn l.prog w K mg base 2 "agree" 2 (gAg C1 C0) := ⟨_, _, _, ok_ag F40 T XJ mJf mJe, m40, k40, b40⟩
  have cCm : NFn l.prog w K mg base 1 "common_beginning" 2 gCm := ⟨_, _, _, ok_cm F41 T, m41, k41, b41⟩
  have cIb : PFn l.prog w K mg base 1 "is_beginning" 2 gIb := ⟨_, _, _, ok_ib F42 T, m42, k42, b42⟩
  have cRow : PFn l.prog w K mg base 1 "_law_row" 2 gRow := ⟨_, _, _, ok_row F43 T, m43, k43, b43⟩
  have cNum : PFn l.prog w K mg base 2 "_law_numbers" 2 gNumbers := ⟨_, _, _, ok_numbers F44 T cRow, m44, k44, b44⟩
  have cLt : PFn l.prog w K mg base 4 "_law_text" 1 gLt := ⟨_, _, _, ok_lt F48 cLn, m48, k48, b48⟩
  have cLm : PFn l.prog w K mg base 1 "_law_limit" 3 gLm := ⟨_, _, _, ok_lm F49 T, m49, k49, b49⟩
  have cLs : PFn l.prog w K mg base 2 "_law_limits" 2 gLs := ⟨_, _, _, ok_ls F50 T cLm, m50, k50, b50⟩
  have cEs : PFn l.prog w K mg base 1 "_law_entries" 5 gEs := ⟨_, _, _, ok_es F51 T, m51, k51, b51⟩
  have cAk : PFn l.prog w K mg base 1 "_law_asked" 1 gAk := ⟨_, _, _, ok_ak F52, m52, k52, b52⟩
  have cBo : PFn l.prog w K mg base 1 "_law_body" 1 gBo := ⟨_, _, _, ok_bo F53 T, m53, k53, b53⟩
  have cLk : PFn l.prog w K mg base 1 "_law_looks" 2 gLk := ⟨_, _, _, ok_lk F54 T, m54, k54, b54⟩
  have cPf : PFn l.prog w K mg base 1 "_law_pool_fits" 3 gPf := ⟨_, _, _, ok_pf F55 T, m55, k55, b55⟩
  have cBf : PFn l.prog w K mg base 1 "_law_bucket_fits" 4 gBf := ⟨_, _, _, ok_bf F56 T, m56, k56, b56⟩
  have cFt : PFn l.prog w K mg base 2 "_law_fits" 4 gFt := ⟨_, _, _, ok_ft F57 T cLk cPf cBf, m57, k57, b57⟩
  have cNv : PFn l.prog w K mg base 3 "_law_never" 4 gNv := ⟨_, _, _, ok_nv F58 T cLk cFt, m58, k58, b58⟩
  have cEa : PFn l.prog w K mg base 4 "_law_earliest" 4 gEa := ⟨_, _, _, ok_ea F59 T cNv cFt, m59, k59, b59⟩
  have cTa : PFn l.prog w K mg base 5 "_law_taken" 3 gTa := ⟨_, _, _, ok_ta F60 T cFt cEa, m60, k60, b60⟩
  have cRs : PFn l.prog w K mg base 6 "_law_rows" 2 gRs := ⟨_, _, _, ok_rs F61 cTa, m61, k61, b61⟩
  have cLr : PFn l.prog w K mg base 1 "_law_row_body" 1 gRo := ⟨_, _, _, ok_lr F62 T, m62, k62, b62⟩
  have cLw : PFn l.prog w K mg base 1 "_law_view_words" 1 gVw := ⟨_, _, _, ok_lw F64 T, m64, k64, b64⟩
  have cLh : PFn l.prog w K mg base 2 "_law_head_body" 4 gLh2 := ⟨_, _, _, ok_lh2 F63 T cLw, m63, k63, b63⟩
  have cLj : PFn l.prog w K mg base 11 "_law_journal" 4 (gLj C1 C0) := ⟨_, _, _, ok_lj F65 T cRs cBo cLh cLr cLt cRe, m65, k65, b65⟩
  have cLa : PFn l.prog w K mg base 1 "_law_agree" 3 gLa := ⟨_, _, _, ok_la F66 T, m66, k66, b66⟩
  exact (ok_law F67 T cNum cLs cEs cAk cCm cIb cLj cAg cLa).imp (law_of (K := K))
end Toy

open PySem.W PyProof.Rows PySem
set_option maxRecDepth 90000 in
set_option maxHeartbeats 0 in
theorem PySem.Challenge.cw_limitweave_k48_beginnings_of_rows_holds : PySem.Challenge.rw_limitweave_k48_beginnings_of_rows.Holds := by
  refine Hd.head ?_
  refine L2.walk_ofE (l := PySem.Challenge.rw_limitweave_k48_beginnings_of_rows) (n := 63) (k := 12) (x := "script") (CX := L2.CX0) rfl (by decide) (by kernel_rfl) ⟨rfl, by decide, by decide⟩ ?F (fun _ _ _ _ z => z)
  intro w mg fa h Y G hmg0
  obtain ⟨K, KX, S⟩ := Y
  have hmg : mg ("law" : PySem.Str) = some (.ref fa) := by
    have e : (HandSHeadRun.topDef Hd.R.prog 91).name = ("law" : PySem.Str) := by kernel_rfl
    rw [← e]
    exact hmg0
  have zC0 : PySem.W.nsIn K mainGlobals "Past" = some (some (.ref (He.ga K "Past"))) := of_decide_eq_true (S.b 0 0 rfl rfl)
  have pg0 : PySem.W.plainGet K (He.ga K "Past") Str.empty = true := of_decide_eq_true (S.b 0 1 rfl rfl)
  have hd0 : PySem.W.hasDictIn K (He.ga K "Past") = true := of_decide_eq_true (S.b 0 2 rfl rfl)
  have po0 : PySem.W.plainOver K (He.ga K "Past") = true := of_decide_eq_true (S.b 0 3 rfl rfl)
  have sa0 : PySem.W.findIn K (.ref (He.ga K "Past")) "__setattr__" = some (some (.builtin "object.__setattr__")) := of_decide_eq_true (S.b 0 4 rfl rfl)
  have mk0 : PySem.W.makesIn K (He.ga K "Past") = true := of_decide_eq_true (S.b 0 5 rfl rfl)
  have kc0 : PySem.W.keepIn K (.ref (He.ga K "Past")) = true := of_decide_eq_true (S.b 0 6 rfl rfl)
  have n0x0 : PySem.W.findIn K (.ref (He.ga K "Past")) "is_blank" = some none := of_decide_eq_true (S.b 0 7 rfl rfl)
  have n0x1 : PySem.W.findIn K (.ref (He.ga K "Past")) "dropped" = some none := of_decide_eq_true (S.b 0 8 rfl rfl)
  have n0x2 : PySem.W.findIn K (.ref (He.ga K "Past")) "many_entries" = some none := of_decide_eq_true (S.b 0 9 rfl rfl)
  have n0x3 : PySem.W.findIn K (.ref (He.ga K "Past")) "moment" = some none := of_decide_eq_true (S.b 0 10 rfl rfl)
  have n0x4 : PySem.W.findIn K (.ref (He.ga K "Past")) "view" = some none := of_decide_eq_true (S.b 0 11 rfl rfl)
  have n0x5 : PySem.W.findIn K (.ref (He.ga K "Past")) "_asked" = some none := of_decide_eq_true (S.b 0 12 rfl rfl)
  have n0x6 : PySem.W.findIn K (.ref (He.ga K "Past")) "_was_let" = some none := of_decide_eq_true (S.b 0 13 rfl rfl)
  have n0x7 : PySem.W.findIn K (.ref (He.ga K "Past")) "_released" = some none := of_decide_eq_true (S.b 0 14 rfl rfl)
  have zC1 : PySem.W.nsIn K mainGlobals "Journal" = some (some (.ref (He.ga K "Journal"))) := of_decide_eq_true (S.b 0 15 rfl rfl)
  have pg1 : PySem.W.plainGet K (He.ga K "Journal") Str.empty = true := of_decide_eq_true (S.b 0 16 rfl rfl)
  have hd1 : PySem.W.hasDictIn K (He.ga K "Journal") = true := of_decide_eq_true (S.b 0 17 rfl rfl)
  have po1 : PySem.W.plainOver K (He.ga K "Journal") = true := of_decide_eq_true (S.b 0 18 rfl rfl)
  have sa1 : PySem.W.findIn K (.ref (He.ga K "Journal")) "__setattr__" = some (some (.builtin "object.__setattr__")) := of_decide_eq_true (S.b 0 19 rfl rfl)
  have mk1 : PySem.W.makesIn K (He.ga K "Journal") = true := of_decide_eq_true (S.b 0 20 rfl rfl)
  have kc1 : PySem.W.keepIn K (.ref (He.ga K "Journal")) = true := of_decide_eq_true (S.b 0 21 rfl rfl)
  have n1x0 : PySem.W.findIn K (.ref (He.ga K "Journal")) "_first" = some none := of_decide_eq_true (S.b 0 22 rfl rfl)
  have n1x1 : PySem.W.findIn K (.ref (He.ga K "Journal")) "_bodies" = some none := of_decide_eq_true (S.b 0 23 rfl rfl)
  have n1x2 : PySem.W.findIn K (.ref (He.ga K "Journal")) "_entries" = some none := of_decide_eq_true (S.b 0 24 rfl rfl)
  have n1x3 : PySem.W.findIn K (.ref (He.ga K "Journal")) "_past" = some none := of_decide_eq_true (S.b 0 25 rfl rfl)
  have n1x4 : PySem.W.findIn K (.ref (He.ga K "Journal")) "_lines" = some none := of_decide_eq_true (S.b 0 26 rfl rfl)
  have n1x5 : PySem.W.findIn K (.ref (He.ga K "Journal")) "_last_head" = some none := of_decide_eq_true (S.b 0 27 rfl rfl)
  have a0 : PySem.W.findIn K (.ref (He.ga K "Past")) "__init__" = some (some (.ref (He.ma K (He.ga K "Past") "__init__"))) := of_decide_eq_true (S.b 0 28 rfl rfl)
  have i0 : PySem.W.isFn K (.ref (He.ma K (He.ga K "Past") "__init__")) = true := of_decide_eq_true (S.b 0 29 rfl rfl)
  have q0 : HX.FnIn K (He.ma K (He.ga K "Past") "__init__") "__init__" "Past.__init__" Toy.sPi := S.fn 0 rfl rfl
  have a1 : PySem.W.findIn K (.ref (He.ga K "Past")) "fits" = some (some (.ref (He.ma K (He.ga K "Past") "fits"))) := of_decide_eq_true (S.b 1 0 rfl rfl)
  have i1 : PySem.W.isFn K (.ref (He.ma K (He.ga K "Past") "fits")) = true := of_decide_eq_true (S.b 1 1 rfl rfl)
  have q1 : HX.FnIn K (He.ma K (He.ga K "Past") "fits") "fits" "Past.fits" Toy.sFi := S.fn 1 rfl rfl
  have a2 : PySem.W.findIn K (.ref (He.ga K "Past")) "take" = some (some (.ref (He.ma K (He.ga K "Past") "take"))) := of_decide_eq_true (S.b 1 2 rfl rfl)
  have i2 : PySem.W.isFn K (.ref (He.ma K (He.ga K "Past") "take")) = true := of_decide_eq_true (S.b 1 3 rfl rfl)
  have q2 : HX.FnIn K (He.ma K (He.ga K "Past") "take") "take" "Past.take" Toy.sTk := S.fn 2 rfl rfl
  have a3 : PySem.W.findIn K (.ref (He.ga K "Past")) "_fits_view" = some (some (.ref (He.ma K (He.ga K "Past") "_fits_view"))) := of_decide_eq_true (S.b 1 4 rfl rfl)
  have i3 : PySem.W.isFn K (.ref (He.ma K (He.ga K "Past") "_fits_view")) = true := of_decide_eq_true (S.b 1 5 rfl rfl)
  have q3 : HX.FnIn K (He.ma K (He.ga K "Past") "_fits_view") "_fits_view" "Past._fits_view" Toy.sFv := S.fn 3 rfl rfl
  have a4 : PySem.W.findIn K (.ref (He.ga K "Past")) "_is_told_by" = some (some (.ref (He.ma K (He.ga K "Past") "_is_told_by"))) := of_decide_eq_true (S.b 1 6 rfl rfl)
  have i4 : PySem.W.isFn K (.ref (He.ma K (He.ga K "Past") "_is_told_by")) = true := of_decide_eq_true (S.b 1 7 rfl rfl)
  have q4 : HX.FnIn K (He.ma K (He.ga K "Past") "_is_told_by") "_is_told_by" "Past._is_told_by" Toy.sTb := S.fn 4 rfl rfl
  have a5 : PySem.W.findIn K (.ref (He.ga K "Past")) "_fits_row" = some (some (.ref (He.ma K (He.ga K "Past") "_fits_row"))) := of_decide_eq_true (S.b 1 8 rfl rfl)
  have i5 : PySem.W.isFn K (.ref (He.ma K (He.ga K "Past") "_fits_row")) = true := of_decide_eq_true (S.b 1 9 rfl rfl)
  have q5 : HX.FnIn K (He.ma K (He.ga K "Past") "_fits_row") "_fits_row" "Past._fits_row" Toy.sFr := S.fn 5 rfl rfl
  have a6 : PySem.W.findIn K (.ref (He.ga K "Past")) "_take_entry" = some (some (.ref (He.ma K (He.ga K "Past") "_take_entry"))) := of_decide_eq_true (S.b 1 10 rfl rfl)
  have i6 : PySem.W.isFn K (.ref (He.ma K (He.ga K "Past") "_take_entry")) = true := of_decide_eq_true (S.b 1 11 rfl rfl)
  have q6 : HX.FnIn K (He.ma K (He.ga K "Past") "_take_entry") "_take_entry" "Past._take_entry" Toy.sTe := S.fn 6 rfl rfl
  have a7 : PySem.W.findIn K (.ref (He.ga K "Past")) "_take_snapshot" = some (some (.ref (He.ma K (He.ga K "Past") "_take_snapshot"))) := of_decide_eq_true (S.b 1 12 rfl rfl)
  have i7 : PySem.W.isFn K (.ref (He.ma K (He.ga K "Past") "_take_snapshot")) = true := of_decide_eq_true (S.b 1 13 rfl rfl)
  have q7 : HX.FnIn K (He.ma K (He.ga K "Past") "_take_snapshot") "_take_snapshot" "Past._take_snapshot" Toy.sTs := S.fn 7 rfl rfl
  have a8 : PySem.W.findIn K (.ref (He.ga K "Journal")) "__init__" = some (some (.ref (He.ma K (He.ga K "Journal") "__init__"))) := of_decide_eq_true (S.b 1 14 rfl rfl)
  have i8 : PySem.W.isFn K (.ref (He.ma K (He.ga K "Journal") "__init__")) = true := of_decide_eq_true (S.b 1 15 rfl rfl)
  have q8 : HX.FnIn K (He.ma K (He.ga K "Journal") "__init__") "__init__" "Journal.__init__" Toy.sJi := S.fn 8 rfl rfl
  have a9 : PySem.W.findIn K (.ref (He.ga K "Journal")) "entries" = some (some (.ref (He.ma K (He.ga K "Journal") "entries"))) := of_decide_eq_true (S.b 1 16 rfl rfl)
  have i9 : PySem.W.isFn K (.ref (He.ma K (He.ga K "Journal") "entries")) = true := of_decide_eq_true (S.b 1 17 rfl rfl)
  have q9 : HX.FnIn K (He.ma K (He.ga K "Journal") "entries") "entries" "Journal.entries" Toy.sJe := S.fn 9 rfl rfl
  have a10 : PySem.W.findIn K (.ref (He.ga K "Journal")) "first_entry" = some (some (.ref (He.ma K (He.ga K "Journal") "first_entry"))) := of_decide_eq_true (S.b 1 18 rfl rfl)
  have i10 : PySem.W.isFn K (.ref (He.ma K (He.ga K "Journal") "first_entry")) = true := of_decide_eq_true (S.b 1 19 rfl rfl)
  have q10 : HX.FnIn K (He.ma K (He.ga K "Journal") "first_entry") "first_entry" "Journal.first_entry" Toy.sJf := S.fn 10 rfl rfl
  have a11 : PySem.W.findIn K (.ref (He.ga K "Journal")) "_put" = some (some (.ref (He.ma K (He.ga K "Journal") "_put"))) := of_decide_eq_true (S.b 1 20 rfl rfl)
  have i11 : PySem.W.isFn K (.ref (He.ma K (He.ga K "Journal") "_put")) = true := of_decide_eq_true (S.b 1 21 rfl rfl)
  have q11 : HX.FnIn K (He.ma K (He.ga K "Journal") "_put") "_put" "Journal._put" Toy.sJp := S.fn 11 rfl rfl
  have a12 : PySem.W.findIn K (.ref (He.ga K "Journal")) "_take" = some (some (.ref (He.ma K (He.ga K "Journal") "_take"))) := of_decide_eq_true (S.b 1 22 rfl rfl)
  have i12 : PySem.W.isFn K (.ref (He.ma K (He.ga K "Journal") "_take")) = true := of_decide_eq_true (S.b 1 23 rfl rfl)
  have q12 : HX.FnIn K (He.ma K (He.ga K "Journal") "_take") "_take" "Journal._take" Toy.sJt := S.fn 12 rfl rfl
  have a13 : PySem.W.nsIn K mainGlobals "is_name" = some (some (.ref (He.ga K "is_name"))) := of_decide_eq_true (S.b 1 24 rfl rfl)
  have q13 : HX.FnIn K (He.ga K "is_name") "is_name" "is_name" Toy.sName := S.fn 13 rfl rfl
  have a14 : PySem.W.nsIn K mainGlobals "is_key" = some (some (.ref (He.ga K "is_key"))) := of_decide_eq_true (S.b 1 25 rfl rfl)
  have q14 : HX.FnIn K (He.ga K "is_key") "is_key" "is_key" Toy.sKey := S.fn 14 rfl rfl
  have a15 : PySem.W.nsIn K mainGlobals "is_within" = some (some (.ref (He.ga K "is_within"))) := of_decide_eq_true (S.b 1 26 rfl rfl)
  have q15 : HX.FnIn K (He.ga K "is_within") "is_within" "is_within" Toy.sIn := S.fn 15 rfl rfl
  have a16 : PySem.W.nsIn K mainGlobals "is_moment" = some (some (.ref (He.ga K "is_moment"))) := of_decide_eq_true (S.b 1 27 rfl rfl)
  have q16 : HX.FnIn K (He.ga K "is_moment") "is_moment" "is_moment" Toy.sMo := S.fn 16 rfl rfl
  have a17 : PySem.W.nsIn K mainGlobals "is_request" = some (some (.ref (He.ga K "is_request"))) := of_decide_eq_true (S.b 1 28 rfl rfl)
  have q17 : HX.FnIn K (He.ga K "is_request") "is_request" "is_request" Toy.sRq := S.fn 17 rfl rfl
  have a18 : PySem.W.nsIn K mainGlobals "is_entry" = some (some (.ref (He.ga K "is_entry"))) := of_decide_eq_true (S.b 1 29 rfl rfl)
  have q18 : HX.FnIn K (He.ga K "is_entry") "is_entry" "is_entry" Toy.sEnt := S.fn 18 rfl rfl
  have a19 : PySem.W.nsIn K mainGlobals "goes_on" = some (some (.ref (He.ga K "goes_on"))) := of_decide_eq_true (S.b 2 0 rfl rfl)
  have q19 : HX.FnIn K (He.ga K "goes_on") "goes_on" "goes_on" Toy.sGo := S.fn 19 rfl rfl
  have a20 : PySem.W.nsIn K mainGlobals "is_ascending" = some (some (.ref (He.ga K "is_ascending"))) := of_decide_eq_true (S.b 2 1 rfl rfl)
  have q20 : HX.FnIn K (He.ga K "is_ascending") "is_ascending" "is_ascending" Toy.sAs := S.fn 20 rfl rfl
  have a21 : PySem.W.nsIn K mainGlobals "parse_number" = some (some (.ref (He.ga K "parse_number"))) := of_decide_eq_true (S.b 2 2 rfl rfl)
  have q21 : HX.FnIn K (He.ga K "parse_number") "parse_number" "parse_number" Toy.sNum := S.fn 21 rfl rfl
  have a22 : PySem.W.nsIn K mainGlobals "parse_entry" = some (some (.ref (He.ga K "parse_entry"))) := of_decide_eq_true (S.b 2 3 rfl rfl)
  have q22 : HX.FnIn K (He.ga K "parse_entry") "parse_entry" "parse_entry" Toy.sPe := S.fn 22 rfl rfl
  have a23 : PySem.W.nsIn K mainGlobals "is_count" = some (some (.ref (He.ga K "is_count"))) := of_decide_eq_true (S.b 2 4 rfl rfl)
  have q23 : HX.FnIn K (He.ga K "is_count") "is_count" "is_count" Toy.sCt := S.fn 23 rfl rfl
  have a24 : PySem.W.nsIn K mainGlobals "is_view" = some (some (.ref (He.ga K "is_view"))) := of_decide_eq_true (S.b 2 5 rfl rfl)
  have q24 : HX.FnIn K (He.ga K "is_view") "is_view" "is_view" Toy.sIv := S.fn 24 rfl rfl
  have a25 : PySem.W.nsIn K mainGlobals "read_view" = some (some (.ref (He.ga K "read_view"))) := of_decide_eq_true (S.b 2 6 rfl rfl)
  have q25 : HX.FnIn K (He.ga K "read_view") "read_view" "read_view" Toy.sRv := S.fn 25 rfl rfl
  have a26 : PySem.W.nsIn K mainGlobals "read_head" = some (some (.ref (He.ga K "read_head"))) := of_decide_eq_true (S.b 2 7 rfl rfl)
  have q26 : HX.FnIn K (He.ga K "read_head") "read_head" "read_head" Toy.sRh := S.fn 26 rfl rfl
  have a27 : PySem.W.nsIn K mainGlobals "read_decision" = some (some (.ref (He.ga K "read_decision"))) := of_decide_eq_true (S.b 2 8 rfl rfl)
  have q27 : HX.FnIn K (He.ga K "read_decision") "read_decision" "read_decision" Toy.sRd := S.fn 27 rfl rfl
  have a28 : PySem.W.nsIn K mainGlobals "read_row" = some (some (.ref (He.ga K "read_row"))) := of_decide_eq_true (S.b 2 9 rfl rfl)
  have q28 : HX.FnIn K (He.ga K "read_row") "read_row" "read_row" Toy.sRr := S.fn 28 rfl rfl
  have a29 : PySem.W.nsIn K mainGlobals "read_body" = some (some (.ref (He.ga K "read_body"))) := of_decide_eq_true (S.b 2 10 rfl rfl)
  have q29 : HX.FnIn K (He.ga K "read_body") "read_body" "read_body" Toy.sRb := S.fn 29 rfl rfl
  have a30 : PySem.W.nsIn K mainGlobals "is_descending" = some (some (.ref (He.ga K "is_descending"))) := of_decide_eq_true (S.b 2 11 rfl rfl)
  have q30 : HX.FnIn K (He.ga K "is_descending") "is_descending" "is_descending" Toy.sDs := S.fn 30 rfl rfl
  have a31 : PySem.W.nsIn K mainGlobals "can_begin" = some (some (.ref (He.ga K "can_begin"))) := of_decide_eq_true (S.b 2 12 rfl rfl)
  have q31 : HX.FnIn K (He.ga K "can_begin") "can_begin" "can_begin" Toy.sCb := S.fn 31 rfl rfl
  have a32 : PySem.W.nsIn K mainGlobals "check_digits" = some (some (.ref (He.ga K "check_digits"))) := of_decide_eq_true (S.b 2 13 rfl rfl)
  have q32 : HX.FnIn K (He.ga K "check_digits") "check_digits" "check_digits" Toy.sCkD := S.fn 32 rfl rfl
  have a33 : PySem.W.nsIn K mainGlobals "record_line" = some (some (.ref (He.ga K "record_line"))) := of_decide_eq_true (S.b 2 14 rfl rfl)
  have q33 : HX.FnIn K (He.ga K "record_line") "record_line" "record_line" Toy.sRcL := S.fn 33 rfl rfl
  have a34 : PySem.W.nsIn K mainGlobals "is_body" = some (some (.ref (He.ga K "is_body"))) := of_decide_eq_true (S.b 2 15 rfl rfl)
  have q34 : HX.FnIn K (He.ga K "is_body") "is_body" "is_body" Toy.sIsY := S.fn 34 rfl rfl
  have a35 : PySem.W.nsIn K mainGlobals "read_record" = some (some (.ref (He.ga K "read_record"))) := of_decide_eq_true (S.b 2 16 rfl rfl)
  have q35 : HX.FnIn K (He.ga K "read_record") "read_record" "read_record" Toy.sRdR := S.fn 35 rfl rfl
  have a36 : PySem.W.nsIn K mainGlobals "whole_records" = some (some (.ref (He.ga K "whole_records"))) := of_decide_eq_true (S.b 2 17 rfl rfl)
  have q36 : HX.FnIn K (He.ga K "whole_records") "whole_records" "whole_records" Toy.sWhR := S.fn 36 rfl rfl
  have a37 : PySem.W.nsIn K mainGlobals "read_unit" = some (some (.ref (He.ga K "read_unit"))) := of_decide_eq_true (S.b 2 18 rfl rfl)
  have q37 : HX.FnIn K (He.ga K "read_unit") "read_unit" "read_unit" Toy.sRu := S.fn 37 rfl rfl
  have a38 : PySem.W.nsIn K mainGlobals "journal_of" = some (some (.ref (He.ga K "journal_of"))) := of_decide_eq_true (S.b 2 19 rfl rfl)
  have q38 : HX.FnIn K (He.ga K "journal_of") "journal_of" "journal_of" Toy.sJo := S.fn 38 rfl rfl
  have a39 : PySem.W.nsIn K mainGlobals "recovered" = some (some (.ref (He.ga K "recovered"))) := of_decide_eq_true (S.b 2 20 rfl rfl)
  have q39 : HX.FnIn K (He.ga K "recovered") "recovered" "recovered" Toy.sRe := S.fn 39 rfl rfl
  have a40 : PySem.W.nsIn K mainGlobals "agree" = some (some (.ref (He.ga K "agree"))) := of_decide_eq_true (S.b 2 21 rfl rfl)
  have q40 : HX.FnIn K (He.ga K "agree") "agree" "agree" Toy.sAg := S.fn 40 rfl rfl
  have a41 : PySem.W.nsIn K mainGlobals "common_beginning" = some (some (.ref (He.ga K "common_beginning"))) := of_decide_eq_true (S.b 2 22 rfl rfl)
  have q41 : HX.FnIn K (He.ga K "common_beginning") "common_beginning" "common_beginning" Toy.sCm := S.fn 41 rfl rfl
  have a42 : PySem.W.nsIn K mainGlobals "is_beginning" = some (some (.ref (He.ga K "is_beginning"))) := of_decide_eq_true (S.b 2 23 rfl rfl)
  have q42 : HX.FnIn K (He.ga K "is_beginning") "is_beginning" "is_beginning" Toy.sIb := S.fn 42 rfl rfl
  have a43 : PySem.W.nsIn K mainGlobals "_law_row" = some (some (.ref (He.ga K "_law_row"))) := of_decide_eq_true (S.b 2 24 rfl rfl)
  have q43 : HX.FnIn K (He.ga K "_law_row") "_law_row" "_law_row" Toy.sRow := S.fn 43 rfl rfl
  have a44 : PySem.W.nsIn K mainGlobals "_law_numbers" = some (some (.ref (He.ga K "_law_numbers"))) := of_decide_eq_true (S.b 2 25 rfl rfl)
  have q44 : HX.FnIn K (He.ga K "_law_numbers") "_law_numbers" "_law_numbers" Toy.sNumbers := S.fn 44 rfl rfl
  have a45 : PySem.W.nsIn K mainGlobals "_law_three" = some (some (.ref (He.ga K "_law_three"))) := of_decide_eq_true (S.b 2 26 rfl rfl)
  have q45 : HX.FnIn K (He.ga K "_law_three") "_law_three" "_law_three" Toy.sThr := S.fn 45 rfl rfl
  have a46 : PySem.W.nsIn K mainGlobals "_law_digits" = some (some (.ref (He.ga K "_law_digits"))) := of_decide_eq_true (S.b 2 27 rfl rfl)
  have q46 : HX.FnIn K (He.ga K "_law_digits") "_law_digits" "_law_digits" Toy.sDgt := S.fn 46 rfl rfl
  have a47 : PySem.W.nsIn K mainGlobals "_law_line" = some (some (.ref (He.ga K "_law_line"))) := of_decide_eq_true (S.b 2 28 rfl rfl)
  have q47 : HX.FnIn K (He.ga K "_law_line") "_law_line" "_law_line" Toy.sLnR := S.fn 47 rfl rfl
  have a48 : PySem.W.nsIn K mainGlobals "_law_text" = some (some (.ref (He.ga K "_law_text"))) := of_decide_eq_true (S.b 2 29 rfl rfl)
  have q48 : HX.FnIn K (He.ga K "_law_text") "_law_text" "_law_text" Toy.sLt := S.fn 48 rfl rfl
  have a49 : PySem.W.nsIn K mainGlobals "_law_limit" = some (some (.ref (He.ga K "_law_limit"))) := of_decide_eq_true (S.b 3 0 rfl rfl)
  have q49 : HX.FnIn K (He.ga K "_law_limit") "_law_limit" "_law_limit" Toy.sLm := S.fn 49 rfl rfl
  have a50 : PySem.W.nsIn K mainGlobals "_law_limits" = some (some (.ref (He.ga K "_law_limits"))) := of_decide_eq_true (S.b 3 1 rfl rfl)
  have q50 : HX.FnIn K (He.ga K "_law_limits") "_law_limits" "_law_limits" Toy.sLs := S.fn 50 rfl rfl
  have a51 : PySem.W.nsIn K mainGlobals "_law_entries" = some (some (.ref (He.ga K "_law_entries"))) := of_decide_eq_true (S.b 3 2 rfl rfl)
  have q51 : HX.FnIn K (He.ga K "_law_entries") "_law_entries" "_law_entries" Toy.sEs := S.fn 51 rfl rfl
  have a52 : PySem.W.nsIn K mainGlobals "_law_asked" = some (some (.ref (He.ga K "_law_asked"))) := of_decide_eq_true (S.b 3 3 rfl rfl)
  have q52 : HX.FnIn K (He.ga K "_law_asked") "_law_asked" "_law_asked" Toy.sAk := S.fn 52 rfl rfl
  have a53 : PySem.W.nsIn K mainGlobals "_law_body" = some (some (.ref (He.ga K "_law_body"))) := of_decide_eq_true (S.b 3 4 rfl rfl)
  have q53 : HX.FnIn K (He.ga K "_law_body") "_law_body" "_law_body" Toy.sBo := S.fn 53 rfl rfl
  have a54 : PySem.W.nsIn K mainGlobals "_law_looks" = some (some (.ref (He.ga K "_law_looks"))) := of_decide_eq_true (S.b 3 5 rfl rfl)
  have q54 : HX.FnIn K (He.ga K "_law_looks") "_law_looks" "_law_looks" Toy.sLk := S.fn 54 rfl rfl
  have a55 : PySem.W.nsIn K mainGlobals "_law_pool_fits" = some (some (.ref (He.ga K "_law_pool_fits"))) := of_decide_eq_true (S.b 3 6 rfl rfl)
  have q55 : HX.FnIn K (He.ga K "_law_pool_fits") "_law_pool_fits" "_law_pool_fits" Toy.sPf := S.fn 55 rfl rfl
  have a56 : PySem.W.nsIn K mainGlobals "_law_bucket_fits" = some (some (.ref (He.ga K "_law_bucket_fits"))) := of_decide_eq_true (S.b 3 7 rfl rfl)
  have q56 : HX.FnIn K (He.ga K "_law_bucket_fits") "_law_bucket_fits" "_law_bucket_fits" Toy.sBf := S.fn 56 rfl rfl
  have a57 : PySem.W.nsIn K mainGlobals "_law_fits" = some (some (.ref (He.ga K "_law_fits"))) := of_decide_eq_true (S.b 3 8 rfl rfl)
  have q57 : HX.FnIn K (He.ga K "_law_fits") "_law_fits" "_law_fits" Toy.sFt := S.fn 57 rfl rfl
  have a58 : PySem.W.nsIn K mainGlobals "_law_never" = some (some (.ref (He.ga K "_law_never"))) := of_decide_eq_true (S.b 3 9 rfl rfl)
  have q58 : HX.FnIn K (He.ga K "_law_never") "_law_never" "_law_never" Toy.sNv := S.fn 58 rfl rfl
  have a59 : PySem.W.nsIn K mainGlobals "_law_earliest" = some (some (.ref (He.ga K "_law_earliest"))) := of_decide_eq_true (S.b 3 10 rfl rfl)
  have q59 : HX.FnIn K (He.ga K "_law_earliest") "_law_earliest" "_law_earliest" Toy.sEa := S.fn 59 rfl rfl
  have a60 : PySem.W.nsIn K mainGlobals "_law_taken" = some (some (.ref (He.ga K "_law_taken"))) := of_decide_eq_true (S.b 3 11 rfl rfl)
  have q60 : HX.FnIn K (He.ga K "_law_taken") "_law_taken" "_law_taken" Toy.sTa := S.fn 60 rfl rfl
  have a61 : PySem.W.nsIn K mainGlobals "_law_rows" = some (some (.ref (He.ga K "_law_rows"))) := of_decide_eq_true (S.b 3 12 rfl rfl)
  have q61 : HX.FnIn K (He.ga K "_law_rows") "_law_rows" "_law_rows" Toy.sRs := S.fn 61 rfl rfl
  have a62 : PySem.W.nsIn K mainGlobals "_law_row_body" = some (some (.ref (He.ga K "_law_row_body"))) := of_decide_eq_true (S.b 3 13 rfl rfl)
  have q62 : HX.FnIn K (He.ga K "_law_row_body") "_law_row_body" "_law_row_body" Toy.sLr := S.fn 62 rfl rfl
  have a63 : PySem.W.nsIn K mainGlobals "_law_head_body" = some (some (.ref (He.ga K "_law_head_body"))) := of_decide_eq_true (S.b 3 14 rfl rfl)
  have q63 : HX.FnIn K (He.ga K "_law_head_body") "_law_head_body" "_law_head_body" Toy.sLh := S.fn 63 rfl rfl
  have a64 : PySem.W.nsIn K mainGlobals "_law_view_words" = some (some (.ref (He.ga K "_law_view_words"))) := of_decide_eq_true (S.b 3 15 rfl rfl)
  have q64 : HX.FnIn K (He.ga K "_law_view_words") "_law_view_words" "_law_view_words" Toy.sLw := S.fn 64 rfl rfl
  have a65 : PySem.W.nsIn K mainGlobals "_law_journal" = some (some (.ref (He.ga K "_law_journal"))) := of_decide_eq_true (S.b 3 16 rfl rfl)
  have q65 : HX.FnIn K (He.ga K "_law_journal") "_law_journal" "_law_journal" Toy.sLj := S.fn 65 rfl rfl
  have a66 : PySem.W.nsIn K mainGlobals "_law_agree" = some (some (.ref (He.ga K "_law_agree"))) := of_decide_eq_true (S.b 3 17 rfl rfl)
  have q66 : HX.FnIn K (He.ga K "_law_agree") "_law_agree" "_law_agree" Toy.sLa := S.fn 66 rfl rfl
  have a67 : PySem.W.nsIn K mainGlobals "law" = some (some (.ref (He.ga K "law"))) := of_decide_eq_true (S.b 3 18 rfl rfl)
  have q67 : HX.FnIn K (He.ga K "law") "law" "law" Toy.sLaw := S.fn 67 rfl rfl
  have z0 : PySem.W.nsIn K mainGlobals "len" = some none := of_decide_eq_true (S.b 3 19 rfl rfl)
  have z1 : PySem.W.nsIn K mainGlobals "int" = some none := of_decide_eq_true (S.b 3 20 rfl rfl)
  have z2 : PySem.W.nsIn K mainGlobals "abs" = some none := of_decide_eq_true (S.b 3 21 rfl rfl)
  have z3 : PySem.W.nsIn K mainGlobals "range" = some none := of_decide_eq_true (S.b 3 22 rfl rfl)
  have z4 : PySem.W.nsIn K mainGlobals "tuple" = some none := of_decide_eq_true (S.b 3 23 rfl rfl)
  have z5 : PySem.W.nsIn K mainGlobals "list" = some none := of_decide_eq_true (S.b 3 24 rfl rfl)
  have z6 : PySem.W.nsIn K mainGlobals "sorted" = some none := of_decide_eq_true (S.b 3 25 rfl rfl)
  have z7 : PySem.W.nsIn K mainGlobals "set" = some none := of_decide_eq_true (S.b 3 26 rfl rfl)
  have z8 : PySem.W.nsIn K mainGlobals "isinstance" = some none := of_decide_eq_true (S.b 3 27 rfl rfl)
  have z9 : PySem.W.nsIn K mainGlobals "bool" = some none := of_decide_eq_true (S.b 3 28 rfl rfl)
  have z10 : PySem.W.nsIn K mainGlobals "min" = some none := of_decide_eq_true (S.b 3 29 rfl rfl)
  have z11 : PySem.W.nsIn K mainGlobals "max" = some none := of_decide_eq_true (S.b 4 0 rfl rfl)
  have z12 : PySem.W.nsIn K mainGlobals "sum" = some none := of_decide_eq_true (S.b 4 1 rfl rfl)
  have z13 : PySem.W.nsIn K mainGlobals "all" = some none := of_decide_eq_true (S.b 4 2 rfl rfl)
  have z14 : PySem.W.nsIn K mainGlobals "any" = some none := of_decide_eq_true (S.b 4 3 rfl rfl)
  have z15 : PySem.W.nsIn K mainGlobals "str" = some none := of_decide_eq_true (S.b 4 4 rfl rfl)
  have z16 : PySem.W.nsIn K mainGlobals "zip" = some none := of_decide_eq_true (S.b 4 5 rfl rfl)
  have z17 : PySem.W.nsIn K mainGlobals "enumerate" = some none := of_decide_eq_true (S.b 4 6 rfl rfl)
  have zg0 : PySem.W.nsIn K mainGlobals "NAME_SIGNS" = some (some (.str "abcdefghijklmnopqrstuvwxyz0123456789" (HX.tk K mainGlobals "NAME_SIGNS"))) := of_decide_eq_true (S.b 4 7 rfl rfl)
  have zg1 : PySem.W.nsIn K mainGlobals "KEY_SIGNS" = some (some (.str "abcdefghijklmnopqrstuvwxyz0123456789-" (HX.tk K mainGlobals "KEY_SIGNS"))) := of_decide_eq_true (S.b 4 8 rfl rfl)
  have zg2 : PySem.W.nsIn K mainGlobals "GREATEST_MOMENT" = some (some (.int 1000000000 (HX.tk K mainGlobals "GREATEST_MOMENT"))) := of_decide_eq_true (S.b 4 9 rfl rfl)
  have zg3 : PySem.W.nsIn K mainGlobals "GREATEST_COST" = some (some (.int 1000 (HX.tk K mainGlobals "GREATEST_COST"))) := of_decide_eq_true (S.b 4 10 rfl rfl)
  have zg4 : PySem.W.nsIn K mainGlobals "DIGITS" = some (some (.str "0123456789" (HX.tk K mainGlobals "DIGITS"))) := of_decide_eq_true (S.b 4 11 rfl rfl)
  have zg5 : PySem.W.nsIn K mainGlobals "NUMBER_DIGITS_notation" = some (some (.int 7 (HX.tk K mainGlobals "NUMBER_DIGITS_notation"))) := of_decide_eq_true (S.b 4 12 rfl rfl)
  have zg6 : PySem.W.nsIn K mainGlobals "MOMENT_DIGITS" = some (some (.int 10 (HX.tk K mainGlobals "MOMENT_DIGITS"))) := of_decide_eq_true (S.b 4 13 rfl rfl)
  have zg7 : PySem.W.nsIn K mainGlobals "NONE" = some (some (.str "none" (HX.tk K mainGlobals "NONE"))) := of_decide_eq_true (S.b 4 14 rfl rfl)
  have zg8 : PySem.W.nsIn K mainGlobals "NEVER" = some (some (.str "never" (HX.tk K mainGlobals "NEVER"))) := of_decide_eq_true (S.b 4 15 rfl rfl)
  have zg9 : PySem.W.nsIn K mainGlobals "GREATEST_COUNT" = some (some (.int 999999 (HX.tk K mainGlobals "GREATEST_COUNT"))) := of_decide_eq_true (S.b 4 16 rfl rfl)
  have zg10 : PySem.W.nsIn K mainGlobals "COUNT_DIGITS" = some (some (.int 6 (HX.tk K mainGlobals "COUNT_DIGITS"))) := of_decide_eq_true (S.b 4 17 rfl rfl)
  have zg11 : PySem.W.nsIn K mainGlobals "COST_DIGITS" = some (some (.int 4 (HX.tk K mainGlobals "COST_DIGITS"))) := of_decide_eq_true (S.b 4 18 rfl rfl)
  have zg12 : PySem.W.nsIn K mainGlobals "EARLIEST_DIGITS" = some (some (.int 12 (HX.tk K mainGlobals "EARLIEST_DIGITS"))) := of_decide_eq_true (S.b 4 19 rfl rfl)
  have zg13 : PySem.W.nsIn K mainGlobals "MOST_NAMES" = some (some (.int 8 (HX.tk K mainGlobals "MOST_NAMES"))) := of_decide_eq_true (S.b 4 20 rfl rfl)
  have zg14 : PySem.W.nsIn K mainGlobals "LONGEST_BODY" = some (some (.int 700 (HX.tk K mainGlobals "LONGEST_BODY"))) := of_decide_eq_true (S.b 4 21 rfl rfl)
  have zg15 : PySem.W.nsIn K mainGlobals "PRIME" = some (some (.int 997 (HX.tk K mainGlobals "PRIME"))) := of_decide_eq_true (S.b 4 22 rfl rfl)
  have zg16 : PySem.W.nsIn K mainGlobals "SIZE_DIGITS" = some (some (.int 3 (HX.tk K mainGlobals "SIZE_DIGITS"))) := of_decide_eq_true (S.b 4 23 rfl rfl)
  have zg17 : PySem.W.nsIn K mainGlobals "NUMBER_DIGITS_records" = some (some (.int 6 (HX.tk K mainGlobals "NUMBER_DIGITS_records"))) := of_decide_eq_true (S.b 4 24 rfl rfl)
  have zg18 : PySem.W.nsIn K mainGlobals "END" = some (some (.int 7 (HX.tk K mainGlobals "END"))) := of_decide_eq_true (S.b 4 25 rfl rfl)
  have zord : PySem.W.nsIn K mainGlobals "ord" = some none := of_decide_eq_true (S.b 4 26 rfl rfl)
  obtain ⟨fn, hb, hF⟩ := Toy.all_mk (l := PySem.Challenge.rw_limitweave_k48_beginnings_of_rows) KX G hmg zC0 pg0 hd0 po0 sa0 mk0 kc0 n0x0 n0x1 n0x2 n0x3 n0x4 n0x5 n0x6 n0x7 zC1 pg1 hd1 po1 sa1 mk1 kc1 n1x0 n1x1 n1x2 n1x3 n1x4 n1x5 a0 i0 q0 a1 i1 q1 a2 i2 q2 a3 i3 q3 a4 i4 q4 a5 i5 q5 a6 i6 q6 a7 i7 q7 a8 i8 q8 a9 i9 q9 a10 i10 q10 a11 i11 q11 a12 i12 q12 a13 q13 a14 q14 a15 q15 a16 q16 a17 q17 a18 q18 a19 q19 a20 q20 a21 q21 a22 q22 a23 q23 a24 q24 a25 q25 a26 q26 a27 q27 a28 q28 a29 q29 a30 q30 a31 q31 a32 q32 a33 q33 a34 q34 a35 q35 a36 q36 a37 q37 a38 q38 a39 q39 a40 q40 a41 q41 a42 q42 a43 q43 a44 q44 a45 q45 a46 q46 a47 q47 a48 q48 a49 q49 a50 q50 a51 q51 a52 q52 a53 q53 a54 q54 a55 q55 a56 q56 a57 q57 a58 q58 a59 q59 a60 q60 a61 q61 a62 q62 a63 q63 a64 q64 a65 q65 a66 q66 a67 q67 z0 z1 z2 z3 z4 z5 z6 z7 z8 z9 z10 z11 z12 z13 z14 z15 z16 z17 zg0 zg1 zg2 zg3 zg4 zg5 zg6 zg7 zg8 zg9 zg10 zg11 zg12 zg13 zg14 zg15 zg16 zg17 zg18 zord
  exact ⟨K, fn, Toy.spLaw K, KX, hb, fun H a ns hl _ hS => ⟨ns, a, rfl, hl, hS, fun _ => rfl⟩, hF⟩


