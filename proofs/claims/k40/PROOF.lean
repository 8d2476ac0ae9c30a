import PyProof.Rows.All
import Wide.All
import OpenK.AllK
import Wide.FinOn
import HandS.ListItems
import KE.KDictList
import HandS.DictTup
import KE.KDictWalk
import HandS.Strs
import KE.KTryMore
import HandS.SetFor
import HandS.WordsDict
import KE.KStateDown
import KE.KSuper
import HandS.Base
import HandS.Call
import HandS.Ends
import HandS.Words
import HandS.Exc
import HandS.Head0
import HandS.Head1
import HandS.Head2
import HandS.HeadEnd
import HandS.HeadHook1
import HandS.HeadHook2
import HandS.HeadHook3
import HandS.ForMost
import HandS.Evl
import HandS.IsInst
import HandS.TupAny
import HandS.SortInts
import HandS.Flow
import HandS.Wide
import HandS.Style
import HandS.StrMore
import KE.SortData
import HandS.DictComp
import PyProof.ListRange
import HandS.Conv
import HandS.Iter
import KE.GoesEnumKw
import KE.KxField
import HandS.FStr
import HandS.StrSplit
import HandS.Text
import KE.KExcSuper
import HandS.ExcInit
import HandS.ExcOwn
import HandS.ExcField
import HandS.TryMany
import HandS.WordsExc
import HandS.RaiseMore
import HandS.Small
import HandS.Nested
import HandS.ExcSuper
import HandS.Zip
import PyProof.StrLawsOcc
import PyProof.StrBlock2
import PyProof.StrLawsChain
import HandS.Set
import PyProof.Rows.SortShellAny
import HandS.ExcIs
import HandS.SortOrd
import HandS.Sort
import HandS.SortRule
import HandS.Deep
import HandS.TupLe
import HandS.Property
import HandS.TryOnly
import HandS.ExcCtx
import HandS.Hot
import HandS.HotCalls
import HandS.SuiteRaise
import HandS.RaiseFrom
import HandS.ExcInitHot
import HandS.NestedHot
import HandS.Replace
import PyProof.MeetsStr3
import PyProof.FitsReplace
import PyProof.StrCalls6
import HandS.More
import HandS.SortKw
import KE.DatumOrd
import PyProof.WalksMore
import PyProof.ReprText
import PyProof.StrLawsRepr
import PyProof.ReprLen
import PySem.Challenge.RW_limitweave_k40_bodies
set_option Elab.async false
set_option linter.all false
set_option maxRecDepth 100000
set_option maxHeartbeats 3900000
namespace HX
open PySem PySem.Spec PyProof.Rows L2
open PySem.W (Frag)
/-- what an object names -/
def refsX (o : Obj) : List Addr := match o.data with
  | .seq its _ => its.toList.flatMap He.refV
  | .dict es _ => es.toList.flatMap fun e => He.refV e.val
  | .func fd => He.refV fd.code ++ (He.refV fd.defaults ++ fd.closure.map (·.2))
  | .cls cd => [cd.ns]
  | .fields vs => (match decide (o.cls = .type "property") with
    | true => vs.toList.flatMap He.refV
    | false => [])
  | _ => []
def lev (g : Addr → Option Obj) : Nat → List Addr → List Addr
  | 0, as => as
  | n + 1, as => as ++ lev g n (as.flatMap fun a => match g a with
    | some o => refsX o
    | none => [])
def asX (g : Addr → Option Obj) (n : Nat) : List Addr := PySem.cStatics :: lev g n [mainGlobals]
def frX (g : Addr → Option Obj) : List Addr → Frag
  | [] => []
  | a :: r => HandSHeadRun.frNat a fun a => match g a with
    | some o => (a, o) :: frX g r
    | none => frX g r
theorem frX_at {g : Addr → Option Obj} {a : Addr} {o : Obj} : ∀ as : List Addr, (frX g as).lookup a = some o → g a = some o
  | [], e => nomatch (show (none : Option Obj) = some o from e)
  | b :: r, e => by
    rw [frX, HandSHeadRun.frNat_eq] at e
    cases hb : g b with
    | none =>
      rw [hb] at e
      exact frX_at r e
    | some ob =>
      rw [hb] at e
      have e2 : (match a == b with | true => some ob | false => (frX g r).lookup a) = some o := e
      cases q : (a == b) with
      | true =>
        rw [q] at e2
        have eo : ob = o := Option.some.inj e2
        rw [beq_iff_eq.mp q, hb, eo]
      | false =>
        rw [q] at e2
        exact frX_at r e2
theorem frX_in {as : List Addr} {h : Heap} : (frX h.get? as).In h := fun _ _ e => frX_at as e
/-- the object that the name x stands for in the dict at ns -/
def na (K : Frag) (ns : Addr) (x : Str) : Addr := match PySem.W.nsIn K ns x with
  | some (some (.ref a)) => a
  | _ => 0
def tk (K : Frag) (ns : Addr) (x : Str) : Tok := match PySem.W.nsIn K ns x with
  | some (some (.int _ t)) => t
  | some (some (.str _ t)) => t
  | _ => default
def ra (K : Frag) (p : Addr) (T : String) : Addr := match PySem.W.recIn K p T with
  | some (.ref a :: _) => a
  | _ => 0
abbrev FV : Type := Option (Str × Str × Arguments × FuncBody × Scope × Addr × List Str × Value × Addr)
def fnO (K : Frag) (a : Addr) : FV := match K.lookup a with
  | some ⟨_, _, .func fd, _⟩ => some (fd.name, fd.qualname, fd.params, fd.body, fd.scope, fd.globals, fd.closure.map (·.1), fd.defaults, fd.builtins)
  | _ => none
structure FD where
  at_ : Frag → Addr
  name : Str
  qual : Str
  st : Stmt
  cl : List Str := []
def FD.val (d : FD) : FV := some (d.name, d.qual, defArgs d.st, .stmts (defBody d.st), defScope d.st, mainGlobals, d.cl, .none, builtinsNs)
def codeB (K : Frag) (a : Addr) (q : Str) : Bool := match K.lookup a with
  | some ⟨_, _, .func fd, _⟩ => PySem.W.codeIn K fd.code q && PySem.W.keepIn K (.ref a)
  | _ => false
def FnIn (K : Frag) (f : Addr) (x qual : Str) (st : Stmt) : Prop := ∃ (oc : Value) (od : Option Addr) (kV dc pm : Value) (an : Option Addr) (cd ct : Value) (sl : Array (Option Value)), K.lookup f = some ⟨oc, od, .func (PySem.W.fnOf x qual (defArgs st) (defBody st) (defScope st) .none kV dc pm an cd ct), sl⟩ ∧ PySem.W.codeIn K cd qual = true ∧ PySem.W.keepIn K (.ref f) = true
theorem fd_cases {K : Frag} {d : FD} (e : fnO K (d.at_ K) = d.val) (c : codeB K (d.at_ K) d.qual = true) :
    ∃ (oc : Value) (od : Option Addr) (fd : FuncData) (sl : Array (Option Value)), K.lookup (d.at_ K) = some ⟨oc, od, .func fd, sl⟩ ∧ fd.closure.map (·.1) = d.cl ∧ (∀ cl, fd.closure = cl → ∃ kV dc pm an ct, fd = PySem.W.fnX d.name d.qual (defArgs d.st) (defBody d.st) (defScope d.st) cl .none kV dc pm an fd.code ct) ∧ PySem.W.codeIn K fd.code d.qual = true ∧ PySem.W.keepIn K (.ref (d.at_ K)) = true := by
  unfold codeB at c
  unfold fnO at e
  cases q : K.lookup (d.at_ K) with
  | none =>
    rw [q] at c
    cases c
  | some o =>
    obtain ⟨oc, od, dt, osl⟩ := o
    rw [q] at c e
    cases dt with
    | func fd =>
      obtain ⟨c1, c2⟩ := Bool.and_eq_true_iff.mp (show (PySem.W.codeIn K fd.code d.qual && PySem.W.keepIn K (.ref (d.at_ K))) = true from c)
      obtain ⟨n1, n2, n3, n4, n5, n6, n7, n8, n9, n10, n11, n12, n13, n14, n15⟩ := fd
      have e2 : (some (n1, n2, n3, n4, n5, n6, n7.map (·.1), n8, n15) : FV) = some (d.name, d.qual, defArgs d.st, .stmts (defBody d.st), defScope d.st, mainGlobals, d.cl, .none, builtinsNs) := e
      simp only [Option.some.injEq, Prod.mk.injEq] at e2
      obtain ⟨h1, h2, h3, h4, h5, h6, h7, h8, h9⟩ := e2
      refine ⟨oc, od, _, osl, rfl, h7, fun cl hc => ⟨n9, n10, n11, n12, n14, ?_⟩, c1, c2⟩
      have hc2 : n7 = cl := hc
      subst h1 h2 h3 h4 h5 h6 h8 h9 hc2
      rfl
    | _ => cases c
theorem fd_in {K : Frag} {d : FD} (hcl : d.cl = []) (e : fnO K (d.at_ K) = d.val) (c : codeB K (d.at_ K) d.qual = true) : FnIn K (d.at_ K) d.name d.qual d.st := by
  obtain ⟨oc, od, fd, sl, h1, h2, h3, h4, h5⟩ := fd_cases e c
  rw [hcl] at h2
  obtain ⟨kV, dc, pm, an, ct, h6⟩ := h3 [] (List.map_eq_nil_iff.mp h2)
  exact ⟨oc, od, kV, dc, pm, an, fd.code, ct, sl, h1.trans (congrArg (fun z => some (⟨oc, od, .func z, sl⟩ : Obj)) h6), h4, h5⟩
abbrev Tab : Type := (Frag → Addr) × List Str
abbrev Al : Type := Bool × List FV × List (Option (List (Option (Str × Int))))
def obsK (bs : List (List (Frag → Bool))) (fs : List FD) (ts : List Tab) (K : Frag) : Al := ((bs.all fun b => b.all fun f => f K) && fs.all fun d => codeB K (d.at_ K) d.qual, fs.map fun d => fnO K (d.at_ K), ts.map fun t => He.dicW K (t.1 K))
def valK (fs : List FD) (ts : List Tab) (w : World) : Al := (true, fs.map FD.val, ts.map fun t => some (He.keysIn w.params t.2))
def obsG (n : Nat) (bs : List (List (Frag → Bool))) (fs : List FD) (ts : List Tab) (g : Addr → Option Obj) : Al := obsK bs fs ts (frX g (asX g n))
def Says (bs : List (List (Frag → Bool))) (fs : List FD) (ts : List Tab) (w : World) (K : Frag) : Prop := obsK bs fs ts K = valK fs ts w
def hook (n : Nat) (bs : List (List (Frag → Bool))) (fs : List FD) (ts : List Tab) : PySem.W.Hook where
  α := Al
  obs := fun s => obsG n bs fs ts s.heap.get?
  val := fun w => valK fs ts w
  says := fun w h => ∃ K : Frag, K.In h ∧ Says bs fs ts w K
  of := fun _ _ e => ⟨_, frX_in, e⟩
  keeps := fun _ _ _ ⟨K, hK, c⟩ k => ⟨K, PySem.W.Frag.In.keeps hK k, c⟩
theorem obsG_eq {n : Nat} {bs : List (List (Frag → Bool))} {fs : List FD} {ts : List Tab} {g : Addr → Option Obj} {s : Shared} (h : ∀ a, g a = s.heap.get? a) : obsG n bs fs ts g = (hook n bs fs ts).obs s := by
  have e : g = s.heap.get? := funext h
  rw [e] <;> rfl
section
variable {bs : List (List (Frag → Bool))} {fs : List FD} {ts : List Tab} {w : World} {K : Frag}
theorem Says.both (c : Says bs fs ts w K) : (bs.all fun b => b.all fun f => f K) = true ∧ (fs.all fun d => codeB K (d.at_ K) d.qual) = true :=
  Bool.and_eq_true_iff.mp (show ((bs.all fun b => b.all fun f => f K) && fs.all fun d => codeB K (d.at_ K) d.qual) = true from congrArg (fun z : Al => z.1) c)
theorem Says.b (c : Says bs fs ts w K) (i j : Nat) {b : List (Frag → Bool)} {f : Frag → Bool} (h : bs[i]? = some b) (h2 : b[j]? = some f) : f K = true :=
  List.all_eq_true.mp (List.all_eq_true.mp c.both.1 b (List.mem_of_getElem? h)) f (List.mem_of_getElem? h2)
theorem Says.fd (c : Says bs fs ts w K) (i : Nat) {d : FD} (h : fs[i]? = some d) : fnO K (d.at_ K) = d.val ∧ codeB K (d.at_ K) d.qual = true := by
  have e : fs.map (fun d => fnO K (d.at_ K)) = fs.map FD.val := congrArg (fun z : Al => z.2.1) c
  have e2 : (fs.map fun d => fnO K (d.at_ K))[i]? = (fs.map FD.val)[i]? := by rw [e]
  rw [List.getElem?_map, List.getElem?_map, h] at e2
  exact ⟨Option.some.inj e2, List.all_eq_true.mp c.both.2 d (List.mem_of_getElem? h)⟩
theorem Says.fn (c : Says bs fs ts w K) (i : Nat) {d : FD} (h : fs[i]? = some d) (hcl : d.cl = []) : FnIn K (d.at_ K) d.name d.qual d.st := fd_in hcl (c.fd i h).1 (c.fd i h).2
end
end HX

namespace Toy
open PySem PyProof.Rows L2
def top (i : Nat) : Stmt := PySem.Challenge.pw_limitweave_k40_bodies.main.body.getD i (.Pass ⟨0, 0, 0, 0⟩)
end Toy

namespace Hd
open PySem PyProof.Rows L2
def bk0 : List (PySem.W.Frag → Bool) := [
  fun K => decide (PySem.W.nsIn K mainGlobals "is_name" = some (some (.ref (He.ga K "is_name")))),
  fun K => decide (PySem.W.nsIn K mainGlobals "is_key" = some (some (.ref (He.ga K "is_key")))),
  fun K => decide (PySem.W.nsIn K mainGlobals "is_within" = some (some (.ref (He.ga K "is_within")))),
  fun K => decide (PySem.W.nsIn K mainGlobals "is_moment" = some (some (.ref (He.ga K "is_moment")))),
  fun K => decide (PySem.W.nsIn K mainGlobals "is_request" = some (some (.ref (He.ga K "is_request")))),
  fun K => decide (PySem.W.nsIn K mainGlobals "is_entry" = some (some (.ref (He.ga K "is_entry")))),
  fun K => decide (PySem.W.nsIn K mainGlobals "is_ascending" = some (some (.ref (He.ga K "is_ascending")))),
  fun K => decide (PySem.W.nsIn K mainGlobals "parse_number" = some (some (.ref (He.ga K "parse_number")))),
  fun K => decide (PySem.W.nsIn K mainGlobals "parse_entry" = some (some (.ref (He.ga K "parse_entry")))),
  fun K => decide (PySem.W.nsIn K mainGlobals "word_for" = some (some (.ref (He.ga K "word_for")))),
  fun K => decide (PySem.W.nsIn K mainGlobals "view_words" = some (some (.ref (He.ga K "view_words")))),
  fun K => decide (PySem.W.nsIn K mainGlobals "view_body" = some (some (.ref (He.ga K "view_body")))),
  fun K => decide (PySem.W.nsIn K mainGlobals "row_body" = some (some (.ref (He.ga K "row_body")))),
  fun K => decide (PySem.W.nsIn K mainGlobals "head_body" = some (some (.ref (He.ga K "head_body")))),
  fun K => decide (PySem.W.nsIn K mainGlobals "is_count" = some (some (.ref (He.ga K "is_count")))),
  fun K => decide (PySem.W.nsIn K mainGlobals "is_view" = some (some (.ref (He.ga K "is_view")))),
  fun K => decide (PySem.W.nsIn K mainGlobals "read_view" = some (some (.ref (He.ga K "read_view")))),
  fun K => decide (PySem.W.nsIn K mainGlobals "read_head" = some (some (.ref (He.ga K "read_head")))),
  fun K => decide (PySem.W.nsIn K mainGlobals "read_decision" = some (some (.ref (He.ga K "read_decision")))),
  fun K => decide (PySem.W.nsIn K mainGlobals "read_row" = some (some (.ref (He.ga K "read_row")))),
  fun K => decide (PySem.W.nsIn K mainGlobals "read_body" = some (some (.ref (He.ga K "read_body")))),
  fun K => decide (PySem.W.nsIn K mainGlobals "_law_row" = some (some (.ref (He.ga K "_law_row")))),
  fun K => decide (PySem.W.nsIn K mainGlobals "_law_numbers" = some (some (.ref (He.ga K "_law_numbers")))),
  fun K => decide (PySem.W.nsIn K mainGlobals "_law_row_body" = some (some (.ref (He.ga K "_law_row_body")))),
  fun K => decide (PySem.W.nsIn K mainGlobals "_law_head_body" = some (some (.ref (He.ga K "_law_head_body")))),
  fun K => decide (PySem.W.nsIn K mainGlobals "_law_view_words" = some (some (.ref (He.ga K "_law_view_words")))),
  fun K => decide (PySem.W.nsIn K mainGlobals "_law_view_body" = some (some (.ref (He.ga K "_law_view_body")))),
  fun K => decide (PySem.W.nsIn K mainGlobals "_law_names" = some (some (.ref (He.ga K "_law_names")))),
  fun K => decide (PySem.W.nsIn K mainGlobals "_law_view" = some (some (.ref (He.ga K "_law_view")))),
  fun K => decide (PySem.W.nsIn K mainGlobals "_law_keeper_row" = some (some (.ref (He.ga K "_law_keeper_row"))))]
def bk1 : List (PySem.W.Frag → Bool) := [
  fun K => decide (PySem.W.nsIn K mainGlobals "_law_wrong_bodies" = some (some (.ref (He.ga K "_law_wrong_bodies")))),
  fun K => decide (PySem.W.nsIn K mainGlobals "law" = some (some (.ref (He.ga K "law")))),
  fun K => decide (PySem.W.nsIn K mainGlobals "len" = some none),
  fun K => decide (PySem.W.nsIn K mainGlobals "int" = some none),
  fun K => decide (PySem.W.nsIn K mainGlobals "abs" = some none),
  fun K => decide (PySem.W.nsIn K mainGlobals "range" = some none),
  fun K => decide (PySem.W.nsIn K mainGlobals "tuple" = some none),
  fun K => decide (PySem.W.nsIn K mainGlobals "list" = some none),
  fun K => decide (PySem.W.nsIn K mainGlobals "sorted" = some none),
  fun K => decide (PySem.W.nsIn K mainGlobals "set" = some none),
  fun K => decide (PySem.W.nsIn K mainGlobals "isinstance" = some none),
  fun K => decide (PySem.W.nsIn K mainGlobals "bool" = some none),
  fun K => decide (PySem.W.nsIn K mainGlobals "min" = some none),
  fun K => decide (PySem.W.nsIn K mainGlobals "max" = some none),
  fun K => decide (PySem.W.nsIn K mainGlobals "sum" = some none),
  fun K => decide (PySem.W.nsIn K mainGlobals "all" = some none),
  fun K => decide (PySem.W.nsIn K mainGlobals "any" = some none),
  fun K => decide (PySem.W.nsIn K mainGlobals "str" = some none),
  fun K => decide (PySem.W.nsIn K mainGlobals "zip" = some none),
  fun K => decide (PySem.W.nsIn K mainGlobals "enumerate" = some none),
  fun K => decide (PySem.W.nsIn K mainGlobals "NAME_SIGNS" = some (some (.str "abcdefghijklmnopqrstuvwxyz0123456789" (HX.tk K mainGlobals "NAME_SIGNS")))),
  fun K => decide (PySem.W.nsIn K mainGlobals "KEY_SIGNS" = some (some (.str "abcdefghijklmnopqrstuvwxyz0123456789-" (HX.tk K mainGlobals "KEY_SIGNS")))),
  fun K => decide (PySem.W.nsIn K mainGlobals "GREATEST_MOMENT" = some (some (.int 1000000000 (HX.tk K mainGlobals "GREATEST_MOMENT")))),
  fun K => decide (PySem.W.nsIn K mainGlobals "GREATEST_COST" = some (some (.int 1000 (HX.tk K mainGlobals "GREATEST_COST")))),
  fun K => decide (PySem.W.nsIn K mainGlobals "DIGITS" = some (some (.str "0123456789" (HX.tk K mainGlobals "DIGITS")))),
  fun K => decide (PySem.W.nsIn K mainGlobals "NUMBER_DIGITS" = some (some (.int 7 (HX.tk K mainGlobals "NUMBER_DIGITS")))),
  fun K => decide (PySem.W.nsIn K mainGlobals "MOMENT_DIGITS" = some (some (.int 10 (HX.tk K mainGlobals "MOMENT_DIGITS")))),
  fun K => decide (PySem.W.nsIn K mainGlobals "NONE" = some (some (.str "none" (HX.tk K mainGlobals "NONE")))),
  fun K => decide (PySem.W.nsIn K mainGlobals "NEVER" = some (some (.str "never" (HX.tk K mainGlobals "NEVER")))),
  fun K => decide (PySem.W.nsIn K mainGlobals "GREATEST_COUNT" = some (some (.int 999999 (HX.tk K mainGlobals "GREATEST_COUNT"))))]
def bk2 : List (PySem.W.Frag → Bool) := [
  fun K => decide (PySem.W.nsIn K mainGlobals "COUNT_DIGITS" = some (some (.int 6 (HX.tk K mainGlobals "COUNT_DIGITS")))),
  fun K => decide (PySem.W.nsIn K mainGlobals "COST_DIGITS" = some (some (.int 4 (HX.tk K mainGlobals "COST_DIGITS")))),
  fun K => decide (PySem.W.nsIn K mainGlobals "EARLIEST_DIGITS" = some (some (.int 12 (HX.tk K mainGlobals "EARLIEST_DIGITS")))),
  fun K => decide (PySem.W.nsIn K mainGlobals "MOST_NAMES" = some (some (.int 8 (HX.tk K mainGlobals "MOST_NAMES")))),
  fun K => decide (PySem.W.nsIn K mainGlobals "repr" = some none)]
def bss : List (List (PySem.W.Frag → Bool)) := [bk0, bk1, bk2]
def fk0 : List HX.FD := [
  ⟨fun K => (He.ga K "is_name"), "is_name", "is_name", Toy.top 5, []⟩,
  ⟨fun K => (He.ga K "is_key"), "is_key", "is_key", Toy.top 6, []⟩,
  ⟨fun K => (He.ga K "is_within"), "is_within", "is_within", Toy.top 7, []⟩,
  ⟨fun K => (He.ga K "is_moment"), "is_moment", "is_moment", Toy.top 8, []⟩,
  ⟨fun K => (He.ga K "is_request"), "is_request", "is_request", Toy.top 9, []⟩,
  ⟨fun K => (He.ga K "is_entry"), "is_entry", "is_entry", Toy.top 10, []⟩,
  ⟨fun K => (He.ga K "is_ascending"), "is_ascending", "is_ascending", Toy.top 11, []⟩,
  ⟨fun K => (He.ga K "parse_number"), "parse_number", "parse_number", Toy.top 16, []⟩,
  ⟨fun K => (He.ga K "parse_entry"), "parse_entry", "parse_entry", Toy.top 17, []⟩,
  ⟨fun K => (He.ga K "word_for"), "word_for", "word_for", Toy.top 26, []⟩,
  ⟨fun K => (He.ga K "view_words"), "view_words", "view_words", Toy.top 27, []⟩,
  ⟨fun K => (He.ga K "view_body"), "view_body", "view_body", Toy.top 28, []⟩,
  ⟨fun K => (He.ga K "row_body"), "row_body", "row_body", Toy.top 29, []⟩,
  ⟨fun K => (He.ga K "head_body"), "head_body", "head_body", Toy.top 30, []⟩,
  ⟨fun K => (He.ga K "is_count"), "is_count", "is_count", Toy.top 31, []⟩,
  ⟨fun K => (He.ga K "is_view"), "is_view", "is_view", Toy.top 32, []⟩,
  ⟨fun K => (He.ga K "read_view"), "read_view", "read_view", Toy.top 33, []⟩,
  ⟨fun K => (He.ga K "read_head"), "read_head", "read_head", Toy.top 34, []⟩,
  ⟨fun K => (He.ga K "read_decision"), "read_decision", "read_decision", Toy.top 35, []⟩,
  ⟨fun K => (He.ga K "read_row"), "read_row", "read_row", Toy.top 36, []⟩,
  ⟨fun K => (He.ga K "read_body"), "read_body", "read_body", Toy.top 37, []⟩,
  ⟨fun K => (He.ga K "_law_row"), "_law_row", "_law_row", Toy.top 39, []⟩,
  ⟨fun K => (He.ga K "_law_numbers"), "_law_numbers", "_law_numbers", Toy.top 40, []⟩,
  ⟨fun K => (He.ga K "_law_row_body"), "_law_row_body", "_law_row_body", Toy.top 41, []⟩,
  ⟨fun K => (He.ga K "_law_head_body"), "_law_head_body", "_law_head_body", Toy.top 42, []⟩,
  ⟨fun K => (He.ga K "_law_view_words"), "_law_view_words", "_law_view_words", Toy.top 43, []⟩,
  ⟨fun K => (He.ga K "_law_view_body"), "_law_view_body", "_law_view_body", Toy.top 44, []⟩,
  ⟨fun K => (He.ga K "_law_names"), "_law_names", "_law_names", Toy.top 45, []⟩,
  ⟨fun K => (He.ga K "_law_view"), "_law_view", "_law_view", Toy.top 46, []⟩,
  ⟨fun K => (He.ga K "_law_keeper_row"), "_law_keeper_row", "_law_keeper_row", Toy.top 47, []⟩]
def fk1 : List HX.FD := [
  ⟨fun K => (He.ga K "_law_wrong_bodies"), "_law_wrong_bodies", "_law_wrong_bodies", Toy.top 48, []⟩,
  ⟨fun K => (He.ga K "law"), "law", "law", Toy.top 49, []⟩]
def fds : List HX.FD := fk0 ++ (fk1)
def tbs : List HX.Tab := []
def nm0 : List PySem.Str := [
  "NAME_SIGNS",
  "KEY_SIGNS",
  "GREATEST_MOMENT",
  "GREATEST_COST",
  "is_name",
  "is_key",
  "is_within",
  "is_moment",
  "is_request",
  "is_entry",
  "is_ascending",
  "DIGITS",
  "NUMBER_DIGITS",
  "MOMENT_DIGITS",
  "parse_number",
  "parse_entry",
  "NONE",
  "NEVER",
  "GREATEST_COUNT",
  "COUNT_DIGITS",
  "COST_DIGITS",
  "EARLIEST_DIGITS",
  "MOST_NAMES",
  "word_for",
  "view_words",
  "view_body",
  "row_body",
  "head_body",
  "is_count",
  "is_view"]
def nm1 : List PySem.Str := [
  "read_view",
  "read_head",
  "read_decision",
  "read_row",
  "read_body",
  "_law_row",
  "_law_numbers",
  "_law_row_body",
  "_law_head_body",
  "_law_view_words",
  "_law_view_body",
  "_law_names",
  "_law_view",
  "_law_keeper_row",
  "_law_wrong_bodies"]
def names : List PySem.Str := nm0 ++ (nm1)
abbrev R : PySem.W.OpenRow := PySem.W.OpenLaw.row PySem.Challenge.rw_limitweave_k40_bodies
abbrev qv : Program := PySem.W.view R.prog [49]
abbrev hk : PySem.W.Hook := HX.hook 5 bss fds tbs
def ob (s : PySem.W.SharedT) : HX.Al := HX.obsG 5 bss fds tbs (HandSHeadRun.getT s)
theorem ob_eq (s : PySem.W.SharedT) : ob s = hk.obs s.abs := HX.obsG_eq (HandSHeadRun.getT_eq s)
theorem runF (w : World) : HandSHeadRun.RunEq R qv hk ob 60000 names (w.withFollow "special-get-raises" false) := by
  intro os
  kernel_rfl
theorem runT (w : World) : HandSHeadRun.RunEq R qv hk ob 60000 names (w.withFollow "special-get-raises" true) := by
  intro os
  kernel_rfl
theorem run (w : World) : HandSHeadRun.RunEq R qv hk ob 60000 names w :=
  PySem.W.byRow2 "special-get-raises" (P := fun w => HandSHeadRun.RunEq R qv hk ob 60000 names w) runF runT w
end Hd
open PySem.W PyProof.Rows PySem in
theorem Hd.head (call : PySem.W.WalkO Hd.qv Hd.names (PySem.W.XL Hd.qv []) Hd.hk.says Hd.R.toRowW (HandSHeadRun.topDef Hd.R.prog 49) [] (fun f vs => PySem.call f vs)) : PySem.Challenge.rw_limitweave_k40_bodies.Holds := by
  w_on; o_law
  refine HandSHeadRun.head_any (r := Hd.R) (q := Hd.qv) (H := Hd.hk) (ob := Hd.ob) (M := 60000) (loose := Hd.names) (d := HandSHeadRun.topDef Hd.R.prog 49) (kwd := []) Hd.ob_eq (by kernel_rfl) (fun s => by kernel_rfl) Hd.run (by kernel_rfl) (by kernel_rfl) (by kernel_rfl) (by rfl) (by first | assumption | decide +kernel) (by decide +kernel) ⟨rfl, rfl, rfl, rfl, rfl, by decide +kernel⟩ ?hw call
  w_witness2

namespace Pf
open PySem L2
open Evl (Ex)

inductive D where
  | non | bl (b : Bool) | int (i : Int) | str (x : Str)
  | lst (xs : List D) | tup (xs : List D) | dct (kvs : List (Key × D)) | ins (C : Addr) (fs : List (Str × D))
  /-- a list of ints that is read only (the script) -/
  | scr (ns : List Int)
  /-- a built-in class -/
  | ty (n : String)
  /-- an error that a handler has caught: where its attributes stand, and they -/
  | exc (a : Addr) (o : Option Addr) (fs : List (Str × D))
  /-- a tuple that is known to have no dict -/
  | ftup (xs : List D)

mutual
/-- v stands for d in H -/
inductive Rep (K : PySem.W.Frag) (H : Hp) : D → V → Prop
  | non : Rep K H .non .non
  | bl (b : Bool) : Rep K H (.bl b) (.bl b)
  | int (i : Int) : Rep K H (.int i) (.int i)
  | str (x : Str) : Rep K H (.str x) (.str x)
  | ty (n : String) : Rep K H (.ty n) (.ty n)
  | exc {a : Addr} {o : Option Addr} {fs : List (Str × V)} {fds : List (Str × D)} : (∀ dd, o = some dd → H dd = some (.xd fs)) → fs.map (·.1) = fds.map (·.1) → RepAll K H (fds.map (·.2)) (fs.map (·.2)) → Rep K H (.exc a o fds) (.ref a)
  | scr {a : Addr} {ns : List Int} : SqL K H a (ns.map V.int) → Rep K H (.scr ns) (.ref a)
  | lst {a : Addr} {vs : List V} {ds : List D} : H a = some (.lst vs) → RepAll K H ds vs → Rep K H (.lst ds) (.ref a)
  | tup {a : Addr} {vs : List V} {ds : List D} : SqT K H a vs → RepAll K H ds vs → Rep K H (.tup ds) (.ref a)
  | dct {a : Addr} {kvs : List (Key × V)} {kds : List (Key × D)} : H a = some (.dK kvs) → kvs.map (·.1) = kds.map (·.1) → RepAll K H (kds.map (·.2)) (kvs.map (·.2)) → Rep K H (.dct kds) (.ref a)
  | ins {a C dx : Addr} {fs : List (Str × V)} {fds : List (Str × D)} : H a = some (.ins C dx fs) → fs.map (·.1) = fds.map (·.1) → RepAll K H (fds.map (·.2)) (fs.map (·.2)) → Rep K H (.ins C fds) (.ref a)
  | ftup {a : Addr} {o : Obj} {vs : List V} {ds : List D} : H a = some (.frz o (.tup vs)) → o.dict = none → o.cls = .type "tuple" → RepAll K H ds vs → Rep K H (.ftup ds) (.ref a)
inductive RepAll (K : PySem.W.Frag) (H : Hp) : List D → List V → Prop
  | nil : RepAll K H [] []
  | cons {d : D} {v : V} {ds : List D} {vs : List V} : Rep K H d v → RepAll K H ds vs → RepAll K H (d :: ds) (v :: vs)
end

section
variable {K : PySem.W.Frag} {H H' : Hp}
theorem Rep.mono (e : Ex H H') {d : D} {v : V} (h : Rep K H d v) : Rep K H' d v := by
  refine Rep.rec (motive_1 := fun d v _ => Rep K H' d v) (motive_2 := fun ds vs _ => RepAll K H' ds vs) ?_ ?_ ?_ ?_ ?_ ?_ ?_ ?_ ?_ ?_ ?_ ?_ ?_ ?_ h
  · exact .non
  · exact fun b => .bl b
  · exact fun b => .int b
  · exact fun b => .str b
  · exact fun b => .ty b
  · exact fun h k _ ih => .exc (fun dd q => e _ _ (h dd q)) k ih
  · exact fun h => .scr (Evl.ex_l e h)
  · exact fun h _ ih => .lst (e _ _ h) ih
  · exact fun h _ ih => .tup (Evl.ex_t e h) ih
  · exact fun h k _ ih => .dct (e _ _ h) k ih
  · exact fun h k _ ih => .ins (e _ _ h) k ih
  · exact fun h k1 k2 _ ih => .ftup (e _ _ h) k1 k2 ih
  · exact .nil
  · exact fun _ _ a b => .cons a b
theorem RepAll.mono (e : Ex H H') : ∀ {ds : List D} {vs : List V}, RepAll K H ds vs → RepAll K H' ds vs
  | _, _, .nil => .nil
  | _, _, .cons a b => .cons (a.mono e) (RepAll.mono e b)
theorem RepAll.length : ∀ {ds : List D} {vs : List V}, RepAll K H ds vs → ds.length = vs.length
  | _, _, .nil => rfl
  | _, _, .cons _ b => congrArg (· + 1) (RepAll.length b)
theorem RepAll.get : ∀ {ds : List D} {vs : List V} {i : Nat} {d : D}, RepAll K H ds vs → ds[i]? = some d → ∃ v, vs[i]? = some v ∧ Rep K H d v
  | _, _, _, _, .nil, e => by simp at e
  | _, _, 0, _, .cons r _, e => by simp at e; subst e; exact ⟨_, rfl, r⟩
  | _, _, i + 1, d, .cons _ t, e => by
    obtain ⟨u, h1, h2⟩ := RepAll.get (i := i) (d := d) t (by simpa using e)
    exact ⟨u, by simpa using h1, h2⟩
theorem RepAll.append : ∀ {ds es : List D} {vs us : List V}, RepAll K H ds vs → RepAll K H es us → RepAll K H (ds ++ es) (vs ++ us)
  | _, _, _, _, .nil, s => s
  | _, _, _, _, .cons r t, s => .cons r (RepAll.append t s)
theorem RepAll.take : ∀ {ds : List D} {vs : List V} (n : Nat), RepAll K H ds vs → RepAll K H (ds.take n) (vs.take n)
  | _, _, 0, _ => .nil
  | _, _, _ + 1, .nil => .nil
  | _, _, n + 1, .cons r t => .cons r (RepAll.take n t)
theorem RepAll.drop : ∀ {ds : List D} {vs : List V} (n : Nat), RepAll K H ds vs → RepAll K H (ds.drop n) (vs.drop n)
  | _, _, 0, r => r
  | _, _, _ + 1, .nil => .nil
  | _, _, n + 1, .cons r t => RepAll.drop n t
theorem RepAll.toInts : ∀ (ns : List Int), RepAll K H (ns.map D.int) (ns.map V.int)
  | [] => .nil
  | n :: ns => .cons (.int n) (RepAll.toInts ns)
theorem RepAll.strs : ∀ {ns : List Str} {vs : List V}, RepAll K H (ns.map D.str) vs → vs = ns.map V.str
  | [], _, .nil => rfl
  | n :: ns, _, .cons r t => by cases r; rw [RepAll.strs t]; rfl
theorem RepAll.toStrs : ∀ (ns : List Str), RepAll K H (ns.map D.str) (ns.map V.str)
  | [] => .nil
  | n :: ns => .cons (.str n) (RepAll.toStrs ns)
theorem RepAll.bools : ∀ {ns : List Bool} {vs : List V}, RepAll K H (ns.map D.bl) vs → vs = ns.map V.bl
  | [], _, .nil => rfl
  | n :: ns, _, .cons r t => by cases r; rw [RepAll.bools t]; rfl
end

def Fr (W W' H : Hp) : Prop := ∀ b, W' b ≠ none → W b = none → H b = none
structure Step (W H W' H' : Hp) : Prop where
  ww : Ex W W'
  wh : Ex W' H'
  hh : Ex H H'
  fr : Fr W W' H
theorem Step.refl {W H : Hp} (e : Ex W H) : Step W H W H := ⟨.refl _, e, .refl _, fun b h1 h2 => absurd h2 h1⟩
theorem Step.trans {W H W1 H1 W2 H2 : Hp} (a : Step W H W1 H1) (b : Step W1 H1 W2 H2) : Step W H W2 H2 :=
  ⟨a.ww.trans b.ww, b.wh, a.hh.trans b.hh, fun c h1 h2 => by
    by_cases e : W1 c = none
    · exact Evl.fresh_back a.hh (b.fr c h1 e)
    · exact a.fr c e h2⟩
theorem Step.new {W H : Hp} {p : Addr} {o : HO} (e : Ex W H) (hp : H p = none) : Step W H (upd W p o) (upd H p o) :=
  ⟨.new (Evl.fresh_back e hp), fun a u h => by
    by_cases ha : a = p
    · subst ha; rw [upd_same] at h ⊢; exact h
    · rw [upd_ne ha] at h ⊢; exact e a u h, .new hp, fun b h1 h2 => by
    by_cases ha : b = p
    · subst ha; exact hp
    · rw [upd_ne ha] at h1; exact absurd h2 h1⟩
/-- new in H alone -/
theorem Step.newH {W H : Hp} {p : Addr} {o : HO} (e : Ex W H) (hp : H p = none) : Step W H W (upd H p o) :=
  ⟨.refl _, e.trans (.new hp), .new hp, fun b h1 h2 => absurd h2 h1⟩

def GoodE (K : PySem.W.Frag) (W H : Hp) (d : D) (Q : VK) : Prop := ∀ v W' H', Step W H W' H' → Rep K W' d v → Q v H'
def GoodA (K : PySem.W.Frag) (W H : Hp) (ds : List D) (Q : List V → Hp → Prop) : Prop := ∀ vs W' H', Step W H W' H' → RepAll K W' ds vs → Q vs H'
def GoodT (W H : Hp) (b : Bool) (Q : Bool → Hp → Prop) : Prop := ∀ W' H', Step W H W' H' → Q b H'
theorem GoodE.step {K : PySem.W.Frag} {W H W1 H1 : Hp} {d : D} {Q : VK} (g : GoodE K W H d Q) (s : Step W H W1 H1) : GoodE K W1 H1 d Q := fun v W' H' t r => g v W' H' (s.trans t) r
theorem GoodE.now {K : PySem.W.Frag} {W H : Hp} {d : D} {v : V} {Q : VK} (g : GoodE K W H d Q) (e : Ex W H) (r : Rep K W d v) : Q v H := g v W H (.refl e) r
theorem GoodT.step {W H W1 H1 : Hp} {b : Bool} {Q : Bool → Hp → Prop} (g : GoodT W H b Q) (s : Step W H W1 H1) : GoodT W1 H1 b Q := fun W' H' t => g W' H' (s.trans t)
theorem GoodT.now {W H : Hp} {b : Bool} {Q : Bool → Hp → Prop} (g : GoodT W H b Q) (e : Ex W H) : Q b H := g W H (.refl e)
theorem GoodA.step {K : PySem.W.Frag} {W H W1 H1 : Hp} {d : List D} {Q : List V → Hp → Prop} (g : GoodA K W H d Q) (s : Step W H W1 H1) : GoodA K W1 H1 d Q := fun v W' H' t r => g v W' H' (s.trans t) r

abbrev Rho := List (Option D)
structure Vis (K : PySem.W.Frag) (ρ : Rho) (W : Hp) (σ : L2.St) : Prop where
  len : ρ.length = σ.length
  at_ : ∀ (i : Nat) (d : D), ρ[i]? = some (some d) → ∃ v, σ[i]? = some (some v) ∧ Rep K W d v
theorem Vis.mono {K : PySem.W.Frag} {ρ : Rho} {W W' : Hp} {σ : L2.St} (h : Vis K ρ W σ) (e : Ex W W') : Vis K ρ W' σ := ⟨h.len, fun i d q => by
  obtain ⟨v, h1, h2⟩ := h.at_ i d q
  exact ⟨v, h1, h2.mono e⟩⟩

def wE (X : Cx) (e : Expr) : TE := fun σ H Q => ∀ (pins : List (Addr × Obj)) (s : Shared), Inv X pins σ H s → wpAny (model X.prog X.w) X.A (eval e X.env) (EP X pins σ Q) X.xe s
def wT (X : Cx) (e : Expr) : TT := fun σ H Q => ∀ (pins : List (Addr × Obj)) (s : Shared), Inv X pins σ H s → wpAny (model X.prog X.w) X.A (isTrue e X.env (eval e X.env)) (TP X pins σ Q) X.xe s
def wW (X : Cx) (e : Expr) : TT := fun σ H Q => ∀ (whole : Sem Value) (pins : List (Addr × Obj)) (s : Shared), Inv X pins σ H s → wpAny (model X.prog X.w) X.A (isTrue e X.env whole) (TP X pins σ Q) X.xe s
def wA (X : Cx) (es : List Expr) : TA := fun σ H Q => ∀ (pos : Pos) (pins : List (Addr × Obj)) (s : Shared), Inv X pins σ H s → wpAny (model X.prog X.w) X.A (spliced (backTo pos (starEach es X.env))) (AP X pins σ Q) X.xe s
def wS (X : Cx) (st : Stmt) : TS := fun D σ H => ∀ (pins : List (Addr × Obj)) (s : Shared), Inv X pins σ H s → wpAny (model X.prog X.w) X.A (exec st X.env) (SP X pins D) X.xe s
def wSs (X : Cx) (st : List Stmt) : TS := fun D σ H => ∀ (pins : List (Addr × Obj)) (s : Shared), Inv X pins σ H s → wpAny (model X.prog X.w) X.A (execs st X.env) (SP X pins D) X.xe s
section
variable {X : Cx} {e : Expr} {es : List Expr} {st : Stmt} {sts : List Stmt}
theorem pe_w : PE X e (wE X e) := ⟨fun pins s _ _ _ I h => h pins s I⟩
theorem pt_w : PT X e (wT X e) := ⟨fun pins s _ _ _ I h => h pins s I⟩
theorem pw_w : PW X e (wW X e) := ⟨fun w pins s _ _ _ I h => h w pins s I⟩
theorem pa_w : PA X es (wA X es) := ⟨fun pos pins s _ _ _ I h => h pos pins s I⟩
theorem ps_w : PS X st (wS X st) := ⟨fun pins s _ _ _ I h => h pins s I⟩
theorem pss_w : PSs X sts (wSs X sts) := ⟨fun pins s _ _ _ I h => h pins s I⟩
theorem wE.of {t : TE} (h : PE X e t) {σ : L2.St} {H : Hp} {Q : VK} (q : t σ H Q) : wE X e σ H Q := fun pins s I => h.run pins s σ H Q I q
theorem wT.of {t : TT} (h : PT X e t) {σ : L2.St} {H : Hp} {Q : Bool → Hp → Prop} (q : t σ H Q) : wT X e σ H Q := fun pins s I => h.run pins s σ H Q I q
theorem wW.of {t : TT} (h : PW X e t) {σ : L2.St} {H : Hp} {Q : Bool → Hp → Prop} (q : t σ H Q) : wW X e σ H Q := fun w pins s I => h.run w pins s σ H Q I q
theorem wA.of {t : TA} (h : PA X es t) {σ : L2.St} {H : Hp} {Q : List V → Hp → Prop} (q : t σ H Q) : wA X es σ H Q := fun pos pins s I => h.run pos pins s σ H Q I q
theorem wS.of {t : TS} (h : PS X st t) {σ : L2.St} {H : Hp} {D : Ends} (q : t D σ H) : wS X st D σ H := fun pins s I => h.run pins s σ H D I q
theorem wSs.of {t : TS} (h : PSs X sts t) {σ : L2.St} {H : Hp} {D : Ends} (q : t D σ H) : wSs X sts D σ H := fun pins s I => h.run pins s σ H D I q
end

structure J (X : Cx) (e : Expr) (ρ : Rho) (d : D) : Prop where
  run : ∀ W σ H, Ex W H → Vis X.K ρ W σ → ∀ Q : VK, GoodE X.K W H d Q → wE X e σ H Q
instance {X : Cx} {e : Expr} {ρ : Rho} {d : D} : CoeFun (J X e ρ d) (fun _ => ∀ W σ H, Ex W H → Vis X.K ρ W σ → ∀ Q : VK, GoodE X.K W H d Q → wE X e σ H Q) := ⟨J.run⟩
structure JT (X : Cx) (e : Expr) (ρ : Rho) (b : Bool) : Prop where
  run : ∀ W σ H, Ex W H → Vis X.K ρ W σ → ∀ Q : Bool → Hp → Prop, GoodT W H b Q → wT X e σ H Q
instance {X : Cx} {e : Expr} {ρ : Rho} {b : Bool} : CoeFun (JT X e ρ b) (fun _ => ∀ W σ H, Ex W H → Vis X.K ρ W σ → ∀ Q : Bool → Hp → Prop, GoodT W H b Q → wT X e σ H Q) := ⟨JT.run⟩
structure JW (X : Cx) (e : Expr) (ρ : Rho) (b : Bool) : Prop where
  run : ∀ W σ H, Ex W H → Vis X.K ρ W σ → ∀ Q : Bool → Hp → Prop, GoodT W H b Q → wW X e σ H Q
instance {X : Cx} {e : Expr} {ρ : Rho} {b : Bool} : CoeFun (JW X e ρ b) (fun _ => ∀ W σ H, Ex W H → Vis X.K ρ W σ → ∀ Q : Bool → Hp → Prop, GoodT W H b Q → wW X e σ H Q) := ⟨JW.run⟩
structure JA (X : Cx) (es : List Expr) (ρ : Rho) (ds : List D) : Prop where
  run : ∀ W σ H, Ex W H → Vis X.K ρ W σ → ∀ Q : List V → Hp → Prop, GoodA X.K W H ds Q → wA X es σ H Q
instance {X : Cx} {es : List Expr} {ρ : Rho} {ds : List D} : CoeFun (JA X es ρ ds) (fun _ => ∀ W σ H, Ex W H → Vis X.K ρ W σ → ∀ Q : List V → Hp → Prop, GoodA X.K W H ds Q → wA X es σ H Q) := ⟨JA.run⟩
/-- a rule over two values, over one, over several -/
def R2D (K : PySem.W.Frag) (r : R2) (x y z : D) : Prop := ∀ W H v u, Ex W H → Rep K W x v → Rep K W y u → ∀ Q : VK, GoodE K W H z Q → r v u H Q
def R1D (K : PySem.W.Frag) (r : V → Hp → VK → Prop) (x z : D) : Prop := ∀ W H v, Ex W H → Rep K W x v → ∀ Q : VK, GoodE K W H z Q → r v H Q
def RCD (K : PySem.W.Frag) (r : List V → Hp → VK → Prop) (xs : List D) (z : D) : Prop := ∀ W H vs, Ex W H → RepAll K W xs vs → ∀ Q : VK, GoodE K W H z Q → r vs H Q

section
variable {X : Cx} {a b c e : Expr} {es rest : List Expr} {ρ : Rho} {x y z d : D} {ds : List D} {pos p : Pos} {op op' : CmpOp} {bo : Operator} {t u : Bool}

theorem J.to {d' : D} (h : J X e ρ d) (q : d = d') : J X e ρ d' := q ▸ h
theorem JT.to (h : JT X e ρ t) (q : t = u) : JT X e ρ u := q ▸ h
theorem j_var {i : Nat} {n : Str} (hr : ρ[i]? = some (some d)) (hN : X.N[i]? = some n) (hv : L2.Vis X.env.scope n) (hd : (n == ("__debug__" : Str)) = false := by decide) (hcd : (n == ("__classdict__" : Str)) = false := by decide) : J X (.Name n pos) ρ d := ⟨fun W σ H e V Q g => by
  obtain ⟨v, h1, h2⟩ := V.at_ i d hr
  exact .of (pe_var hN hv hd hcd) ⟨v, h1, g.now e h2⟩⟩
theorem j_int {i : Int} {k} : J X (.Constant (.int i) k pos) ρ (.int i) := ⟨fun W σ H e V Q g => .of pe_int (g.now e (.int i))⟩
theorem j_bl {i : Bool} {k} : J X (.Constant (.bool i) k pos) ρ (.bl i) := ⟨fun W σ H e V Q g => .of pe_bl (g.now e (.bl i))⟩
theorem j_non {k} : J X (.Constant .none k pos) ρ .non := ⟨fun W σ H e V Q g => .of pe_non (g.now e .non)⟩
theorem j_str {i : Str} {k} : J X (.Constant (.str i) k pos) ρ (.str i) := ⟨fun W σ H e V Q g => .of pe_str (g.now e (.str i))⟩
theorem j_op {r : R2} (ho : OpR X (binaryOp bo) r) (ha : J X a ρ x) (hb : J X b ρ y) (hr : R2D X.K r x y z) : J X (.BinOp a bo b pos) ρ z := ⟨fun W σ H e V Q g =>
  .of (pe_op ho pe_w pe_w) (ha W σ H e V _ fun v W1 H1 s1 r1 => hb W1 σ H1 s1.wh (V.mono s1.ww) _ fun u W2 H2 s2 r2 => hr W2 H2 v u s2.wh (r1.mono s2.ww) r2 Q (g.step (s1.trans s2)))⟩
theorem j_un {uo : UnaryOp} {r : V → Hp → VK → Prop} (ho : UnR X (unaryOp uo) r) (ha : J X a ρ x) (hr : R1D X.K r x z) : J X (.UnaryOp uo a pos) ρ z := ⟨fun W σ H e V Q g =>
  .of (pe_un ho pe_w) (ha W σ H e V _ fun v W1 H1 s1 r1 => hr W1 H1 v s1.wh r1 Q (g.step s1))⟩
theorem j_cmp {r : R2} (ho : OpR X (compareOp op) r) (ha : J X a ρ x) (hb : J X b ρ y) (hr : R2D X.K r x y z) (hm : behindInMarks op b = false := by first | exact nobehind _ (by decide) (by decide) | rfl) : J X (.Compare a [op] [b] pos) ρ z := ⟨fun W σ H e V Q g =>
  .of (pe_cmpR ho pe_w pe_w hm) (ha W σ H e V _ fun v W1 H1 s1 r1 => hb W1 σ H1 s1.wh (V.mono s1.ww) _ fun u W2 H2 s2 r2 => hr W2 H2 v u s2.wh (r1.mono s2.ww) r2 Q (g.step (s1.trans s2)))⟩
theorem jt_cmp {r : R2} (ho : OpR X (compareOp op) r) (ha : J X a ρ x) (hb : J X b ρ y) (hr : R2D X.K r x y (.bl t)) (hm : behindInMarks op b = false := by first | exact nobehind _ (by decide) (by decide) | rfl) : JT X (.Compare a [op] [b] pos) ρ t := ⟨fun W σ H e V Q g =>
  .of (pt_cmpR ho pe_w pe_w hm) (ha W σ H e V _ fun v W1 H1 s1 r1 => hb W1 σ H1 s1.wh (V.mono s1.ww) _ fun u W2 H2 s2 r2 => hr W2 H2 v u s2.wh (r1.mono s2.ww) r2 _ fun v3 W3 H3 s3 r3 => by
    cases r3; exact ⟨t, rfl, g W3 H3 ((s1.trans s2).trans s3)⟩)⟩
theorem j_chain {r r' : R2} (ho : OpR X (compareOp op) r) (ho' : OpR X (compareOp op') r') (ha : J X a ρ x) (hb : J X b ρ y) (hc : t = true → J X c ρ z) (hr : R2D X.K r x y (.bl t)) (hr' : t = true → R2D X.K r' y z (.bl u))
    (hm : lastMarks [op, op'] [b, c] = false := by with_unfolding_all rfl) : J X (.Compare a [op, op'] [b, c] pos) ρ (.bl (t && u)) := ⟨fun W σ H e V Q g =>
  .of (pe_chain ho ho' pe_w pe_w pe_w hm) (ha W σ H e V _ fun v W1 H1 s1 r1 => hb W1 σ H1 s1.wh (V.mono s1.ww) _ fun w W2 H2 s2 r2 => hr W2 H2 v w s2.wh (r1.mono s2.ww) r2 _ fun v3 W3 H3 s3 r3 => by
    cases r3
    refine ⟨t, rfl, ?_⟩
    cases t with
    | false =>
      rw [if_neg Bool.false_ne_true]
      exact g _ W3 H3 ((s1.trans s2).trans s3) (.bl false)
    | true =>
      rw [if_pos rfl]
      exact hc rfl W3 σ H3 s3.wh (V.mono ((s1.trans s2).trans s3).ww) _ fun w3 W4 H4 s4 r4 => hr' rfl W4 H4 w w3 s4.wh (r2.mono (s3.trans s4).ww) r4 Q (g.step (((s1.trans s2).trans s3).trans s4)))⟩
theorem jt_chain {r r' : R2} (ho : OpR X (compareOp op) r) (ho' : OpR X (compareOp op') r') (ha : J X a ρ x) (hb : J X b ρ y) (hc : t = true → J X c ρ z) (hr : R2D X.K r x y (.bl t)) (hr' : t = true → R2D X.K r' y z (.bl u)) (hm : lastMarks [op, op'] [b, c] = false := by with_unfolding_all rfl) : JT X (.Compare a [op, op'] [b, c] pos) ρ (t && u) := ⟨fun W σ H e V Q g =>
  .of (pt_chain ho ho' pe_w pe_w pe_w hm) (ha W σ H e V _ fun v W1 H1 s1 r1 => hb W1 σ H1 s1.wh (V.mono s1.ww) _ fun w W2 H2 s2 r2 => hr W2 H2 v w s2.wh (r1.mono s2.ww) r2 _ fun v3 W3 H3 s3 r3 => by
    cases r3
    refine ⟨t, rfl, ?_⟩
    cases t with
    | false =>
      rw [if_neg Bool.false_ne_true]
      exact ⟨_, rfl, g W3 H3 ((s1.trans s2).trans s3)⟩
    | true =>
      rw [if_pos rfl]
      exact hc rfl W3 σ H3 s3.wh (V.mono ((s1.trans s2).trans s3).ww) _ fun w3 W4 H4 s4 r4 => hr' rfl W4 H4 w w3 s4.wh (r2.mono (s3.trans s4).ww) r4 _ fun v5 W5 H5 s5 r5 => by
        cases r5
        exact ⟨_, rfl, g W5 H5 ((((s1.trans s2).trans s3).trans s4).trans s5)⟩)⟩
theorem jt_val (h : J X e ρ (.bl t)) (he : ∀ whole, isTrue e X.env whole = (do let v ← whole; standAt e.pos; holding [v] (truthy v)) := by intro _; rfl) : JT X e ρ t := ⟨fun W σ H ex V Q g =>
  .of (pt_val pe_w he) (h W σ H ex V _ fun v W1 H1 s1 r1 => by cases r1; exact ⟨t, rfl, g W1 H1 s1⟩)⟩
def truth : D → Option Bool
  | .non => some false
  | .bl b => some b
  | .int i => some (i != 0)
  | .str x => if x.length ≤ sizeLine then some ((x.length : Int) != 0) else none
  | .lst xs => some (!xs.isEmpty)
  | .tup xs => some (!xs.isEmpty)
  | .dct kvs => some (!kvs.isEmpty)
  | .scr ns => some (!ns.isEmpty)
  | _ => none
theorem Rep.truth {K : PySem.W.Frag} {W H : Hp} {v : V} (e : Ex W H) (h : Rep K W d v) (q : truth d = some t) : TruV K v H t := by
  cases h with
  | non => cases q; rfl
  | bl b => cases q; rfl
  | int i => cases q; rfl
  | str x =>
    unfold Pf.truth at q
    dsimp only at q
    split at q
    · cases q; exact ⟨by assumption, rfl⟩
    · cases q
  | lst h1 h2 => cases q; exact .inl ⟨_, SqL.of (e _ _ h1), by cases h2 <;> rfl⟩
  | tup h1 h2 => cases q; exact .inr (.inl ⟨_, Evl.ex_t e h1, by cases h2 <;> rfl⟩)
  | @dct a kvs kds h1 h2 h3 =>
    cases q
    refine .inr (.inr ⟨kvs, e _ _ h1, ?_⟩)
    cases kvs <;> cases kds <;> simp at h2 ⊢
  | ins _ _ _ => cases q
  | ty _ => cases q
  | exc _ _ _ => cases q
  | ftup _ _ _ _ => cases q
  | @scr a ns h => cases q; exact .inl ⟨_, Evl.ex_l e h, by cases ns <;> rfl⟩
theorem jt_truth (h : J X e ρ d) (q : truth d = some t) (he : ∀ whole, isTrue e X.env whole = (do let v ← whole; standAt e.pos; holding [v] (truthy v)) := by intro _; rfl) : JT X e ρ t := ⟨fun W σ H ex V Q g =>
  .of (pt_truth pe_w he) (h W σ H ex V _ fun v W1 H1 s1 r1 => ⟨t, r1.truth s1.wh q, g W1 H1 s1⟩)⟩
theorem jt_not (h : JT X a ρ t) : JT X (.UnaryOp .Not a pos) ρ (!t) := ⟨fun W σ H ex V Q g =>
  .of (pt_not pt_w) (h W σ H ex V _ fun W1 H1 s1 => g W1 H1 s1)⟩
theorem jt_w (h : JW X e ρ t) : JT X e ρ t := ⟨fun W σ H ex V Q g => .of (PW.pt pw_w) (h W σ H ex V Q g)⟩
theorem jw_and1 (h : JT X a ρ t) : JW X (.BoolOp .And [a] pos) ρ t := ⟨fun W σ H ex V Q g => .of (pw_and1 pt_w) (h W σ H ex V Q g)⟩
theorem jw_or1 (h : JT X a ρ t) : JW X (.BoolOp .Or [a] pos) ρ t := ⟨fun W σ H ex V Q g => .of (pw_or1 pt_w) (h W σ H ex V Q g)⟩
theorem jw_and (h : JT X a ρ t) (h2 : t = true → JW X (.BoolOp .And (b :: rest) pos) ρ u) : JW X (.BoolOp .And (a :: b :: rest) pos) ρ (t && u) := ⟨fun W σ H ex V Q g =>
  .of (pw_and pt_w pw_w) (h W σ H ex V _ fun W1 H1 s1 => by
    cases t with
    | true => rw [if_pos rfl]; exact h2 rfl W1 σ H1 s1.wh (V.mono s1.ww) Q (g.step s1)
    | false => rw [if_neg Bool.false_ne_true]; exact g W1 H1 s1)⟩
theorem jw_or (h : JT X a ρ t) (h2 : t = false → JW X (.BoolOp .Or (b :: rest) pos) ρ u) : JW X (.BoolOp .Or (a :: b :: rest) pos) ρ (t || u) := ⟨fun W σ H ex V Q g =>
  .of (pw_or pt_w pw_w) (h W σ H ex V _ fun W1 H1 s1 => by
    cases t with
    | false => rw [if_neg Bool.false_ne_true]; exact h2 rfl W1 σ H1 s1.wh (V.mono s1.ww) Q (g.step s1)
    | true => rw [if_pos rfl]; exact g W1 H1 s1)⟩
theorem j_one {o} (h : J X a ρ d) : J X (.BoolOp o [a] pos) ρ d := ⟨fun W σ H ex V Q g => .of (pe_one pe_w) (h W σ H ex V Q g)⟩
end
end Pf

namespace Pf
open PySem L2
open Evl (Ex)

section
variable {X : Cx} {K : PySem.W.Frag} {a b c e e2 : Expr} {es rest : List Expr} {ρ : Rho} {x y z d d1 d2 : D} {ds : List D} {pos p p2 : Pos} {op op' : CmpOp} {bo : Operator} {t u : Bool}

theorem j_and (h : J X a ρ (.bl t)) (h2 : t = true → J X (.BoolOp .And (b :: rest) pos) ρ (.bl u)) : J X (.BoolOp .And (a :: b :: rest) pos) ρ (.bl (t && u)) := ⟨fun W σ H ex hV Q g =>
  .of (pe_and pe_w pe_w) (h W σ H ex hV _ fun v W1 H1 s1 r1 => by
    cases r1
    refine ⟨t, rfl, ?_⟩
    cases t with
    | true => rw [if_pos rfl]; exact h2 rfl W1 σ H1 s1.wh (hV.mono s1.ww) Q (g.step s1)
    | false => rw [if_neg Bool.false_ne_true]; exact g _ W1 H1 s1 (.bl false))⟩
theorem j_ifExp (hc : JT X c ρ t) (ha : t = true → J X a ρ d1) (hb : t = false → J X b ρ d2) : J X (.IfExp c a b pos) ρ (if t = true then d1 else d2) := ⟨fun W σ H ex hV Q g =>
  .of (pe_ifExp pt_w pe_w pe_w) (hc W σ H ex hV _ fun W1 H1 s1 => by
    cases t with
    | true => rw [if_pos rfl]; rw [if_pos rfl] at g; exact ha rfl W1 σ H1 s1.wh (hV.mono s1.ww) Q (g.step s1)
    | false => rw [if_neg Bool.false_ne_true]; rw [if_neg Bool.false_ne_true] at g; exact hb rfl W1 σ H1 s1.wh (hV.mono s1.ww) Q (g.step s1))⟩

theorem ja_nil : JA X [] ρ [] := ⟨fun W σ H ex hV Q g => .of pa_nil (g [] W H (.refl ex) .nil)⟩
theorem ja_cons (h : J X e ρ d) (h2 : JA X es ρ ds) (hs : starEach (e :: es) X.env = (false, eval e X.env) :: starEach es X.env := by rfl) : JA X (e :: es) ρ (d :: ds) := ⟨fun W σ H ex hV Q g =>
  .of (pa_cons pe_w pa_w hs) (h W σ H ex hV _ fun v W1 H1 s1 r1 => h2 W1 σ H1 s1.wh (hV.mono s1.ww) _ fun vs W2 H2 s2 r2 => g (v :: vs) W2 H2 (s1.trans s2) (.cons (r1.mono s2.ww) r2))⟩
theorem j_tup {k} (h : JA X es ρ ds) (hl : ds.length ≤ sizeLine := by (simp only [List.length_cons, List.length_nil]; decide)) : J X (.Tuple es k pos) ρ (.tup ds) := ⟨fun W σ H ex hV Q g =>
  .of (pe_tup pa_w) (h W σ H ex hV _ fun vs W1 H1 s1 r1 => ⟨by rw [← r1.length]; exact hl, fun q hq =>
    g _ _ _ (s1.trans (.new s1.wh hq)) (.tup (SqT.of upd_same) (r1.mono (Evl.Ex.new (Evl.fresh_back s1.wh hq))))⟩)⟩
theorem j_lst (h : JA X es ρ ds) (hl : ds.length ≤ sizeLine := by (simp only [List.length_cons, List.length_nil]; decide)) : J X (.List es pos) ρ (.lst ds) := ⟨fun W σ H ex hV Q g =>
  .of (pe_lst pa_w) (h W σ H ex hV _ fun vs W1 H1 s1 r1 => ⟨by rw [← r1.length]; exact hl, fun q hq =>
    g _ _ _ (s1.trans (.new s1.wh hq)) (.lst upd_same (r1.mono (Evl.Ex.new (Evl.fresh_back s1.wh hq))))⟩)⟩

theorem RepAll.at {H : Hp} {vs : List V} {i : Int} (h : RepAll K H ds vs) (q : atI ds i = some d) : ∃ v, atI vs i = some v ∧ Rep K H d v := by
  unfold atI at q ⊢
  rw [h.length] at q
  cases hk : ixN vs.length i with
  | none => rw [hk] at q; cases q
  | some j =>
    rw [hk] at q
    obtain ⟨v, h1, h2⟩ := h.get (show ds[j]? = some d from q)
    exact ⟨v, h1, h2⟩
theorem atI_ints {ns : List Int} {i : Int} (h0 : 0 ≤ i) (h1 : i < ns.length) : atI (ns.map D.int) i = some (.int (ns.getD i.toNat 0)) := by
  unfold atI ixN
  rw [List.length_map, if_pos h0, if_pos h1]
  show (ns.map D.int)[i.toNat]? = _
  have : i.toNat < ns.length := by omega
  rw [List.getElem?_map, List.getElem?_eq_getElem this, List.getD_eq_getElem?_getD, List.getElem?_eq_getElem this]
  rfl
theorem j_ixL {i : Int} (ha : J X a ρ (.lst ds)) (hb : J X b ρ (.int i)) (q : atI ds i = some d) (hs : PlainIx b := by exact fun _ _ => rfl) : J X (.Subscript a b pos) ρ d := ⟨fun W σ H ex hV Q g =>
  .of (pe_ix ix_list pe_w pe_w hs) (ha W σ H ex hV _ fun v W1 H1 s1 r1 => hb W1 σ H1 s1.wh (hV.mono s1.ww) _ fun w W2 H2 s2 r2 => by
    cases r2
    cases r1 with
    | lst h1 h2 =>
      obtain ⟨v, e1, e2⟩ := h2.at q
      exact ⟨_, _, i, v, rfl, rfl, SqL.of ((s1.trans s2).wh _ _ (s2.ww _ _ h1)), e1, g _ W2 H2 (s1.trans s2) (e2.mono s2.ww)⟩)⟩
theorem j_ixT {i : Int} (ha : J X a ρ (.tup ds)) (hb : J X b ρ (.int i)) (q : atI ds i = some d) (hs : PlainIx b := by exact fun _ _ => rfl) : J X (.Subscript a b pos) ρ d := ⟨fun W σ H ex hV Q g =>
  .of (pe_ix ix_tup pe_w pe_w hs) (ha W σ H ex hV _ fun v W1 H1 s1 r1 => hb W1 σ H1 s1.wh (hV.mono s1.ww) _ fun w W2 H2 s2 r2 => by
    cases r2
    cases r1 with
    | tup h1 h2 =>
      obtain ⟨v, e1, e2⟩ := h2.at q
      exact ⟨_, _, i, v, rfl, rfl, Evl.ex_t s2.wh (Evl.ex_t s2.ww h1), e1, g _ W2 H2 (s1.trans s2) (e2.mono s2.ww)⟩)⟩
theorem j_ixS {z : Str} {i : Int} {n : Nat} (ha : J X a ρ (.str z)) (hb : J X b ρ (.int i)) (hz : z.length ≤ sizeLine) (q : atI z.cps.toList i = some n) (hs : PlainIx b := by exact fun _ _ => rfl) : J X (.Subscript a b pos) ρ (.str ⟨#[n]⟩) := ⟨fun W σ H ex hV Q g =>
  .of (pe_ix ix_str pe_w pe_w hs) (ha W σ H ex hV _ fun v W1 H1 s1 r1 => hb W1 σ H1 s1.wh (hV.mono s1.ww) _ fun w W2 H2 s2 r2 => by
    cases r2
    cases r1
    exact ⟨z, i, n, rfl, rfl, hz, q, g _ W2 H2 (s1.trans s2) (.str _)⟩)⟩

def JO (X : Cx) (e : Option Expr) (ρ : Rho) (o : Option Int) : Prop := (e = none ∧ o = none) ∨ ∃ e' i, e = some e' ∧ o = some i ∧ J X e' ρ (.int i)
theorem jo_none : JO X none ρ none := .inl ⟨rfl, rfl⟩
theorem jo_some {i : Int} (h : J X e ρ (.int i)) : JO X (some e) ρ (some i) := .inr ⟨e, i, rfl, rfl, h⟩
def wO (X : Cx) (e : Option Expr) : TO := match e with
  | none => tNoPart
  | some e => tPart (wE X e)
theorem po_w {e : Option Expr} : PO X e (wO X e) := match e with
  | none => po_none
  | some e => po_some pe_w
theorem JO.run {e : Option Expr} {o : Option Int} (h : JO X e ρ o) {W : Hp} {σ : L2.St} {H : Hp} (ex : Ex W H) (hV : Vis X.K ρ W σ) {Q : Option Int → Hp → Prop} (g : ∀ W' H', Step W H W' H' → Q o H') : wO X e σ H Q := by
  rcases h with ⟨rfl, rfl⟩ | ⟨e', i, rfl, rfl, h⟩
  · exact g W H (.refl ex)
  · exact h W σ H ex hV _ fun v W1 H1 s1 r1 => by cases r1; exact ⟨i, rfl, g W1 H1 s1⟩
def cut {α : Type} (xs : List α) (lo hi : Option Int) : List α := (xs.drop (HT.sIx xs.length 0 lo)).take (HT.sIx xs.length xs.length hi - HT.sIx xs.length 0 lo)
theorem RepAll.cut {H : Hp} {vs : List V} (h : RepAll K H ds vs) (lo hi : Option Int) : RepAll K H (Pf.cut ds lo hi) (cutV vs lo hi) := by
  unfold Pf.cut cutV
  rw [h.length]
  exact (h.drop _).take _
theorem j_slL {lo hi : Option Expr} {o1 o2 : Option Int} (ha : J X a ρ (.lst ds)) (h1 : JO X lo ρ o1) (h2 : JO X hi ρ o2) : J X (.Subscript a (.Slice lo hi none p2) pos) ρ (.lst (cut ds o1 o2)) := ⟨fun W σ H ex hV Q g =>
  .of (pe_slice sl_list pe_w po_w po_w) (ha W σ H ex hV _ fun v W1 H1 s1 r1 => h1.run s1.wh (hV.mono s1.ww) fun W2 H2 s2 => h2.run s2.wh (hV.mono (s1.trans s2).ww) fun W3 H3 s3 => by
    cases r1 with
    | lst k1 k2 =>
      have s4 := (s1.trans s2).trans s3
      refine ⟨_, _, rfl, SqL.of ((s2.trans s3).hh _ _ (s1.wh _ _ k1)), fun q hq => ?_⟩
      exact g _ _ _ (s4.trans (.new s4.wh hq)) (.lst upd_same ((k2.mono ((s2.trans s3).ww.trans (Evl.Ex.new (Evl.fresh_back s4.wh hq)))).cut _ _)))⟩
theorem j_slScr {ns : List Int} {lo hi : Option Expr} {o1 o2 : Option Int} (ha : J X a ρ (.scr ns)) (h1 : JO X lo ρ o1) (h2 : JO X hi ρ o2) : J X (.Subscript a (.Slice lo hi none p2) pos) ρ (.lst ((cut ns o1 o2).map D.int)) := ⟨fun W σ H ex hV Q g =>
  .of (pe_slice sl_list pe_w po_w po_w) (ha W σ H ex hV _ fun v W1 H1 s1 r1 => h1.run s1.wh (hV.mono s1.ww) fun W2 H2 s2 => h2.run s2.wh (hV.mono (s1.trans s2).ww) fun W3 H3 s3 => by
    cases r1 with
    | scr k1 =>
      have s4 := (s1.trans s2).trans s3
      refine ⟨_, _, rfl, Evl.ex_l (s2.trans s3).hh (Evl.ex_l s1.wh k1), fun q hq => ?_⟩
      have e1 : cutV (ns.map V.int) o1 o2 = (cut ns o1 o2).map V.int := by
        unfold cutV cut
        rw [List.length_map, ← List.map_drop, ← List.map_take]
      exact g _ _ _ (s4.trans (.new s4.wh hq)) (.lst upd_same (by rw [e1]; exact .toInts _)))⟩
theorem j_slT {lo hi : Option Expr} {o1 o2 : Option Int} (ha : J X a ρ (.tup ds)) (h1 : JO X lo ρ o1) (h2 : JO X hi ρ o2) : J X (.Subscript a (.Slice lo hi none p2) pos) ρ (.tup (cut ds o1 o2)) := ⟨fun W σ H ex hV Q g =>
  .of (pe_slice sl_tupA pe_w po_w po_w) (ha W σ H ex hV _ fun v W1 H1 s1 r1 => h1.run s1.wh (hV.mono s1.ww) fun W2 H2 s2 => h2.run s2.wh (hV.mono (s1.trans s2).ww) fun W3 H3 s3 => by
    cases r1 with
    | @tup l vs _ k1 k2 =>
      have s4 := (s1.trans s2).trans s3
      refine ⟨l, vs, rfl, Evl.ex_t (s2.trans s3).hh (Evl.ex_t s1.wh k1), fun hw => ?_, fun hw q hq => ?_⟩
      · refine g _ _ _ s4 ?_
        have e1 : cut ds o1 o2 = ds := by
          unfold cut
          rw [k2.length, hw.1, hw.2]
          simp [← k2.length]
        rw [e1]
        exact .tup (Evl.ex_t (s2.trans s3).ww k1) (k2.mono (s2.trans s3).ww)
      · exact g _ _ _ (s4.trans (.new s4.wh hq)) (.tup (SqT.of upd_same) ((k2.mono ((s2.trans s3).ww.trans (Evl.Ex.new (Evl.fresh_back s4.wh hq)))).cut _ _)))⟩
theorem j_slS {z : Str} {lo hi : Option Expr} {o1 o2 : Option Int} (ha : J X a ρ (.str z)) (hz : z.length ≤ sizeLine) (h1 : JO X lo ρ o1) (h2 : JO X hi ρ o2) : J X (.Subscript a (.Slice lo hi none p2) pos) ρ (.str (cutS z o1 o2)) := ⟨fun W σ H ex hV Q g =>
  .of (pe_slice sl_str pe_w po_w po_w) (ha W σ H ex hV _ fun v W1 H1 s1 r1 => h1.run s1.wh (hV.mono s1.ww) fun W2 H2 s2 => h2.run s2.wh (hV.mono (s1.trans s2).ww) fun W3 H3 s3 => by
    cases r1
    exact ⟨z, rfl, hz, g _ _ _ ((s1.trans s2).trans s3) (.str _)⟩)⟩
theorem j_cb {r : List V → Hp → VK → Prop} {id : String} {n : Str} (hc : CallR X (.builtin id) r) (hm : X.mg n = none) (hv : bootBuiltins n = some (.builtin id)) (ha : JA X (e :: es) ρ ds) (hr : RCD X.K r ds d) (hg : Gl X n := by rfl) (hn : n ≠ "__name__" := by decide) (hdb : (n == ("__debug__" : Str)) = false := by decide)
    (he : starEach (e :: es) X.env = (false, eval e X.env) :: starEach es X.env := by rfl) (hpl : (backTo pos (starEach es X.env)).any (·.1) = false := by rfl) : J X (.Call (.Name n p) (e :: es) [] pos) ρ d := ⟨fun W σ H ex hV Q g =>
  .of (pe_callB hc hg hm hv pa_w hn hdb he hpl) (ha W σ H ex hV _ fun vs W1 H1 s1 r1 => hr W1 H1 vs s1.wh r1 Q (g.step s1))⟩
theorem j_ct {r : List V → Hp → VK → Prop} {T : String} {n : Str} (hc : CallR X (.type T) r) (hm : X.mg n = none) (hv : bootBuiltins n = some (.type T)) (ha : JA X (e :: es) ρ ds) (hr : RCD X.K r ds d) (hg : Gl X n := by rfl) (hn : n ≠ "__name__" := by decide) (hdb : (n == ("__debug__" : Str)) = false := by decide)
    (he : starEach (e :: es) X.env = (false, eval e X.env) :: starEach es X.env := by rfl) (hpl : (backTo pos (starEach es X.env)).any (·.1) = false := by rfl) : J X (.Call (.Name n p) (e :: es) [] pos) ρ d := ⟨fun W σ H ex hV Q g =>
  .of (pe_callTy hc hg hm hv pa_w hn hdb he hpl) (ha W σ H ex hV _ fun vs W1 H1 s1 r1 => hr W1 H1 vs s1.wh r1 Q (g.step s1))⟩
/-- a built-in's name as a value: a class -/
theorem j_ty {T : String} {n : Str} (hm : X.mg n = none) (hv : bootBuiltins n = some (.type T)) (hg : Gl X n := by rfl) (hn : n ≠ "__name__" := by decide) (hd : (n == ("__debug__" : Str)) = false := by decide) : J X (.Name n pos) ρ (.ty T) := ⟨fun W σ H ex hV Q g =>
  .of (pe_bltn hg hm hv (show RelV (.ty T) (.type T) from rfl) hn hd) (g.now ex (.ty T))⟩
/-- a module's constant -/
theorem j_glob {n : Str} {v : V} {w : Value} (hm : X.mg n = some w) (r : RelV v w) (hd : ∀ H, Rep X.K H d v) (hg : Gl X n := by rfl) (hdb : (n == ("__debug__" : Str)) = false := by decide) : J X (.Name n pos) ρ d := ⟨fun W σ H ex hV Q g =>
  .of (pe_glob hg hm r hdb) (g.now ex (hd W))⟩
end

/-- a def's promise: at arguments that stand for ds, where G ds P, it hands back what P holds of -/
def spP (K : PySem.W.Frag) (n : Nat) (G : List D → (D → Prop) → Prop) : Sp := fun vs H Q _ => vs.length = n ∧ ∃ W ds P, Ex W H ∧ RepAll K W ds vs ∧ G ds P ∧ ∀ d, P d → GoodE K W H d Q
structure PFn (P : Program) (w : World) (K : PySem.W.Frag) (mg : Str → Option Value) (base : Heap) (k : Nat) (x : Str) (n : Nat) (G : List D → (D → Prop) → Prop) : Prop where
  ex : ∃ f fd ps, FnOk P w K mg base CX0 k f fd ps (spP K n G) ∧ mg x = some (.ref f) ∧ PySem.W.keepIn K (.ref f) = true ∧ Binds K fd ps []
section
variable {X : Cx} {e : Expr} {es : List Expr} {ρ : Rho} {d : D} {ds : List D} {pos p : Pos} {k j n : Nat} {x : Str} {G : List D → (D → Prop) → Prop} {P : D → Prop}
theorem j_call (c : PFn X.prog X.w X.K X.mg X.base k x n G) (hr : Room j X.A) (ha : JA X (e :: es) ρ ds) (hG : G ds P) (hP : ∀ d', P d' → d' = d) (hk : k ≤ j := by decide) (hn : ds.length = n := by rfl) (hg : Gl X x := by rfl) (hdb : (x == ("__debug__" : Str)) = false := by decide)
    (he : starEach (e :: es) X.env = (false, eval e X.env) :: starEach es X.env := by rfl) (hpl : (backTo pos (starEach es X.env)).any (·.1) = false := by rfl) : J X (.Call (.Name x p) (e :: es) [] pos) ρ d := ⟨fun W σ H ex hV Q g => by
  obtain ⟨f, fd, ps, F, hm, hkp, hb⟩ := c.ex
  refine .of (pe_call (F.mono hk) hr hg hm hkp hb .nil pass0 pa_w hdb he hpl) (ha W σ H ex hV _ fun vs W1 H1 s1 r1 => ?_)
  rw [List.append_nil]
  exact ⟨by rw [← r1.length]; exact hn, W1, ds, P, s1.wh, r1, hG, fun d' hd => by rw [hP d' hd]; exact g.step s1⟩⟩
end
end Pf

namespace Pf
open PySem L2
open Evl (Ex)

section
variable {K : PySem.W.Frag} {i j : Int} {s t : Str} {b c : Bool} {d : D} {ds es : List D}
theorem r2_I {C : Int → Int → Prop} {g : Int → Int → Int} (h : C i j) : R2D K (rI C fun i j => .int (g i j)) (.int i) (.int j) (.int (g i j)) := fun W H v u ex r1 r2 Q q => by
  cases r1; cases r2; exact ⟨i, j, rfl, rfl, h, q.now ex (.int _)⟩
theorem r2_I0 {g : Int → Int → Int} : R2D K (rI0 fun i j => .int (g i j)) (.int i) (.int j) (.int (g i j)) := fun W H v u ex r1 r2 Q q => by
  cases r1; cases r2; exact ⟨i, j, rfl, rfl, q.now ex (.int _)⟩
theorem r2_B0 {g : Int → Int → Bool} : R2D K (rI0 fun i j => .bl (g i j)) (.int i) (.int j) (.bl (g i j)) := fun W H v u ex r1 r2 Q q => by
  cases r1; cases r2; exact ⟨i, j, rfl, rfl, q.now ex (.bl _)⟩
theorem r2_eqI : R2D K rEq (.int i) (.int j) (.bl (decide (i = j))) := fun W H v u ex r1 r2 Q q => by
  cases r1; cases r2
  refine ⟨rfl, ?_⟩
  have e : decide (V.int i = V.int j) = decide (i = j) := decide_eq_decide.mpr ⟨fun h => V.int.inj h, fun h => h ▸ rfl⟩
  rw [e]; exact q.now ex (.bl _)
theorem r2_eqS : R2D K rEq (.str s) (.str t) (.bl (decide (s = t))) := fun W H v u ex r1 r2 Q q => by
  cases r1; cases r2
  refine ⟨rfl, ?_⟩
  have e : decide (V.str s = V.str t) = decide (s = t) := decide_eq_decide.mpr ⟨fun h => V.str.inj h, fun h => h ▸ rfl⟩
  rw [e]; exact q.now ex (.bl _)
theorem r2_neI : R2D K rNe (.int i) (.int j) (.bl (!decide (i = j))) := fun W H v u ex r1 r2 Q q => by
  cases r1; cases r2
  refine ⟨rfl, ?_⟩
  have e : decide (V.int i = V.int j) = decide (i = j) := decide_eq_decide.mpr ⟨fun h => V.int.inj h, fun h => h ▸ rfl⟩
  rw [e]; exact q.now ex (.bl _)
theorem r2_neS : R2D K rNe (.str s) (.str t) (.bl (!decide (s = t))) := fun W H v u ex r1 r2 Q q => by
  cases r1; cases r2
  refine ⟨rfl, ?_⟩
  have e : decide (V.str s = V.str t) = decide (s = t) := decide_eq_decide.mpr ⟨fun h => V.str.inj h, fun h => h ▸ rfl⟩
  rw [e]; exact q.now ex (.bl _)
def isNon : D → Bool
  | .non => true
  | _ => false
theorem Rep.isNon {H : Hp} {v : V} (r : Rep K H d v) : decide (v = .non) = isNon d := by
  cases r <;> simp [Pf.isNon]
theorem r2_isN : R2D K (fun x y H Q => y = .non ∧ Q (.bl (decide (x = .non))) H) d .non (.bl (isNon d)) := fun W H v u ex r1 r2 Q q => by
  cases r2; rw [r1.isNon]; exact ⟨rfl, q.now ex (.bl _)⟩
theorem r2_notN : R2D K (fun x y H Q => y = .non ∧ Q (.bl (!decide (x = .non))) H) d .non (.bl (!isNon d)) := fun W H v u ex r1 r2 Q q => by
  cases r2; rw [r1.isNon]; exact ⟨rfl, q.now ex (.bl _)⟩
theorem r2_addS (h : s.length + t.length ≤ sizeLine) : R2D K (fun x y H Q => ∃ i j, x = .str i ∧ y = .str j ∧ i.length + j.length ≤ sizeLine ∧ Q (.str (i ++ j)) H) (.str s) (.str t) (.str (s ++ t)) := fun W H v u ex r1 r2 Q q => by
  cases r1; cases r2; exact ⟨s, t, rfl, rfl, h, q.now ex (.str _)⟩
theorem r2_addL (h : ds.length + es.length ≤ sizeLine) : R2D K rCat (.lst ds) (.lst es) (.lst (ds ++ es)) := fun W H v u ex r1 r2 Q q => by
  cases r1 with
  | lst h1 k1 =>
    cases r2 with
    | lst h2 k2 =>
      refine ⟨_, _, _, _, rfl, rfl, ex _ _ h1, ex _ _ h2, by rw [← k1.length, ← k2.length]; exact h, fun p hp => q _ _ _ (.new ex hp) (.lst upd_same ?_)⟩
      exact (k1.append k2).mono (Evl.Ex.new (Evl.fresh_back ex hp))
theorem r2_addT (h : ds.length + es.length ≤ sizeLine) : R2D K (rCatA K) (.tup ds) (.tup es) (.tup (ds ++ es)) := fun W H v u ex r1 r2 Q q => by
  cases r1 with
  | tup h1 k1 =>
    cases r2 with
    | tup h2 k2 =>
      refine ⟨_, _, _, _, rfl, rfl, Evl.ex_t ex h1, Evl.ex_t ex h2, by rw [← k1.length, ← k2.length]; exact h, fun e => ?_, fun e1 e2 => ?_, fun e1 e2 p hp => ?_⟩
      · subst e; cases k1; exact q.now ex (.tup h2 k2)
      · subst e2; cases k2; rw [List.append_nil] at q; exact q.now ex (.tup h1 k1)
      · exact q _ _ _ (.new ex hp) (.tup (SqT.of upd_same) ((k1.append k2).mono (Evl.Ex.new (Evl.fresh_back ex hp))))
/-- in, over flat items -/
def flatD : D → Bool
  | .non => true
  | .bl _ => true
  | .int _ => true
  | .str _ => true
  | _ => false
theorem Rep.flat {H : Hp} {v : V} (r : Rep K H d v) (h : flatD d = true) : flatV v = true := by
  cases r <;> first | rfl | cases h
theorem RepAll.flat : ∀ {ds : List D} {vs : List V} {H : Hp}, RepAll K H ds vs → ds.all flatD = true → vs.all flatV = true
  | _, _, _, .nil, _ => rfl
  | _, _, _, .cons r t, h => by
    rw [List.all_cons, Bool.and_eq_true] at h ⊢
    exact ⟨r.flat h.1, RepAll.flat t h.2⟩
theorem r2_inSign {c : Nat} {z : Str} : R2D K (fun x y H Q => ∃ (c : Nat) (z : Str), x = .str ⟨#[c]⟩ ∧ y = .str z ∧ Q (.bl (decide (c ∈ z.cps.toList))) H) (.str ⟨#[c]⟩) (.str z) (.bl (decide (c ∈ z.cps.toList))) := fun W H v u ex r1 r2 Q q => by
  cases r1; cases r2; exact ⟨c, z, rfl, rfl, q.now ex (.bl _)⟩
mutual
def toPy : D → Option PyData
  | .non => some .none
  | .bl b => some (.bool b)
  | .int i => some (.int i)
  | .str s => some (.str s)
  | .lst xs => (toPys xs).map .list
  | .tup xs => (toPys xs).map .tuple
  | _ => none
def toPys : List D → Option (List PyData)
  | [] => some []
  | x :: xs => match toPy x, toPys xs with
    | some y, some ys => some (y :: ys)
    | _, _ => none
end
theorem Rep.dp {H : Hp} {v : V} (h : Rep K H d v) : ∀ p, toPy d = some p → Dp K H v p := by
  refine Rep.rec (motive_1 := fun d v _ => ∀ p, toPy d = some p → Dp K H v p) (motive_2 := fun ds vs _ => ∀ ps, toPys ds = some ps → DpAll K H vs ps) ?_ ?_ ?_ ?_ ?_ ?_ ?_ ?_ ?_ ?_ ?_ ?_ ?_ ?_ h
  · intro p e; cases e; exact .non
  · intro b p e; cases e; exact .bl b
  · intro b p e; cases e; exact .int b
  · intro b p e; cases e; exact .str b
  · intro b p e; cases e
  · intro a dd fs fds _ _ _ _ p e; cases e
  · intro a ns h p e; cases e
  · intro a vs ds h _ ih p e
    simp only [toPy, Option.map_eq_some_iff] at e
    obtain ⟨ps, e1, rfl⟩ := e
    exact .lst (SqL.of h) (ih ps e1)
  · intro a vs ds h _ ih p e
    simp only [toPy, Option.map_eq_some_iff] at e
    obtain ⟨ps, e1, rfl⟩ := e
    exact .tup h (ih ps e1)
  · intro a kvs kds _ _ _ _ p e; cases e
  · intro a C dx fs fds _ _ _ _ p e; cases e
  · intro a o vs ds _ _ _ _ _ p e; cases e
  · intro ps e; cases e; exact .nil
  · intro d v ds vs _ _ i1 i2 ps e
    simp only [toPys] at e
    split at e
    · rename_i y ys e1 e2
      cases e
      exact .cons (i1 _ e1) (i2 _ e2)
    · cases e
theorem r2_eqD {d e : D} {p q : PyData} {b : Bool} (h1 : toPy d = some p) (h2 : toPy e = some q) (s1 : SeqAt.shaped p = true) (s2 : SeqAt.shaped q = true) (hb : PyData.eqv p q = b) : R2D K (rEqD K) d e (.bl b) := fun W H v u ex r1 r2 Q g =>
  ⟨p, q, (r1.mono ex).dp p h1, (r2.mono ex).dp q h2, s1, s2, by rw [hb]; exact g.now ex (.bl _)⟩
theorem rc_int : RCD K (fun xs H Q => (∃ i, xs = [.int i] ∧ Q (.int i) H) ∨ ∃ k, xs = [.bl k] ∧ Q (.int (if k then 1 else 0)) H) [.int i] (.int i) := fun W H vs ex r Q q => by
  cases r with | cons r t => cases t; cases r; exact .inl ⟨i, rfl, q.now ex (.int _)⟩
theorem rc_intB : RCD K (fun xs H Q => (∃ i, xs = [.int i] ∧ Q (.int i) H) ∨ ∃ k, xs = [.bl k] ∧ Q (.int (if k then 1 else 0)) H) [.bl b] (.int (if b then 1 else 0)) := fun W H vs ex r Q q => by
  cases r with | cons r t => cases t; cases r; exact .inr ⟨b, rfl, q.now ex (.int _)⟩
theorem rc_abs : RCD K (fun xs H Q => ∃ i, xs = [.int i] ∧ Q (.int (if i < 0 then -i else i)) H) [.int i] (.int (if i < 0 then -i else i)) := fun W H vs ex r Q q => by
  cases r with | cons r t => cases t; cases r; exact ⟨i, rfl, q.now ex (.int _)⟩
theorem rc_max2 : RCD K (fun xs H Q => ∃ i j, xs = [.int i, .int j] ∧ Q (.int (if j > i then j else i)) H) [.int i, .int j] (.int (if j > i then j else i)) := fun W H vs ex r Q q => by
  cases r with | cons r t => cases t with | cons r' t' => cases t'; cases r; cases r'; exact ⟨i, j, rfl, q.now ex (.int _)⟩
theorem rc_min2 : RCD K (fun xs H Q => ∃ i j, xs = [.int i, .int j] ∧ Q (.int (if j < i then j else i)) H) [.int i, .int j] (.int (if j < i then j else i)) := fun W H vs ex r Q q => by
  cases r with | cons r t => cases t with | cons r' t' => cases t'; cases r; cases r'; exact ⟨i, j, rfl, q.now ex (.int _)⟩
theorem rc_strI (h : i.natAbs.log2 < 1920) : RCD K (fun xs H Q => ∃ i, xs = [.int i] ∧ i.natAbs.log2 < 1920 ∧ Q (.str (toString i)) H) [.int i] (.str (toString i)) := fun W H vs ex r Q q => by
  cases r with | cons r t => cases t; cases r; exact ⟨i, rfl, h, q.now ex (.str _)⟩
def lenD : D → Option Nat
  | .lst ds => some ds.length
  | .tup ds => some ds.length
  | .scr ns => some ns.length
  | .str s => if s.length ≤ sizeLine then some s.length else none
  | _ => none
theorem rc_len {n : Nat} (h : lenD d = some n) : RCD K (fun xs H Q => ∃ x n, xs = [x] ∧ LenV K x H n ∧ Q (.int n) H) [d] (.int n) := fun W H vs ex r Q q => by
  cases r with
  | cons r t =>
    cases t
    refine ⟨_, n, rfl, ?_, q.now ex (.int _)⟩
    cases r with
    | lst h1 k => cases h; exact .inl ⟨_, SqL.of (ex _ _ h1), k.length⟩
    | tup h1 k => cases h; exact .inr ⟨_, Evl.ex_t ex h1, k.length⟩
    | scr h1 => cases h; exact .inl ⟨_, Evl.ex_l ex h1, by rw [List.length_map]⟩
    | str x =>
      simp only [lenD] at h
      split at h
      · cases h; exact ⟨by assumption, rfl⟩
      · cases h
    | _ => cases h
theorem rc_all {bs : List Bool} : RCD K (rAll K) [.lst (bs.map D.bl)] (.bl (bs.all id)) := fun W H vs ex r Q q => by
  cases r with
  | cons r t =>
    cases t
    cases r with
    | lst h1 k => cases k.bools; exact ⟨_, bs, rfl, SqL.of (ex _ _ h1), q.now ex (.bl _)⟩
theorem rc_tupleL : RCD K (fun xs H Q => ∃ p ys, xs = [.ref p] ∧ ((SqL K H p ys ∧ ∀ l, H l = none → Q (.ref l) (upd H l (.tup ys))) ∨ (SqT K H p ys ∧ Q (.ref p) H))) [.lst ds] (.tup ds) := fun W H vs ex r Q q => by
  cases r with
  | cons r t =>
    cases t
    cases r with
    | lst h1 k => exact ⟨_, _, rfl, .inl ⟨SqL.of (ex _ _ h1), fun l hl => q _ _ _ (.new ex hl) (.tup (SqT.of upd_same) (k.mono (Evl.Ex.new (Evl.fresh_back ex hl))))⟩⟩
theorem rc_listT : RCD K (fun xs H Q => ∃ p ys, xs = [.ref p] ∧ (SqL K H p ys ∨ SqT K H p ys) ∧ ∀ l, H l = none → Q (.ref l) (upd H l (.lst ys))) [.tup ds] (.lst ds) := fun W H vs ex r Q q => by
  cases r with
  | cons r t =>
    cases t
    cases r with
    | tup h1 k => exact ⟨_, _, rfl, .inr (Evl.ex_t ex h1), fun l hl => q _ _ _ (.new ex hl) (.lst upd_same (k.mono (Evl.Ex.new (Evl.fresh_back ex hl))))⟩
/-- isinstance(x, T), T a built-in class, x no instance -/
def tyD : D → Option Value
  | .non => some (.type "NoneType")
  | .bl _ => some (.type "bool")
  | .int _ => some (.type "int")
  | .str _ => some (.type "str")
  | .lst _ => some (.type "list")
  | .dct _ => some (.type "dict")
  | _ => none
theorem rc_isi {T : String} {t : Value} (h : tyD d = some t) (hk : PySem.W.kitOne K t (.type T) = some b) : RCD K (rIsi K) [d, .ty T] (.bl b) := fun W H vs ex r Q q => by
  cases r with
  | cons r t =>
    cases t with
    | cons r' t' =>
      cases t'
      cases r'
      refine ⟨_, _, _, _, b, rfl, .ty T, .base ?_, hk, q.now ex (.bl _)⟩
      cases r with
      | non => cases h; exact .non
      | bl b => cases h; exact .bl _
      | int i => cases h; exact .int _
      | str s => cases h; exact .str _
      | lst h1 _ => cases h; exact .lst (ex _ _ h1)
      | dct h1 _ _ => cases h; exact .dK (ex _ _ h1)
      | _ => cases h
end

structure Walks (K : PySem.W.Frag) (J : It) (W : Hp) (ds : List D) : Prop where
  go : ∀ i H, Ex W H → i < ds.length → J.go i H
  yld : ∀ i H x H' d, Ex W H → ds[i]? = some d → J.yld i H x H' → ∀ W2, Ex W W2 → Ex W2 H → ∃ W3, Step W2 H W3 H' ∧ Rep K W3 d x
  stop : ∀ H, Ex W H → J.stop ds.length H
def wI (X : Cx) (tg iter : Expr) : TI := fun σ H R => ∀ (pins : List (Addr × Obj)) (s : Shared), Inv X pins σ H s →
  wpAny (model X.prog X.w) X.A (eval iter X.env) (fun v s1 => wpAny (model X.prog X.w) X.A (pyIter v) (PIE X pins σ tg R) X.xe s1) X.xe s
theorem pi_w {X : Cx} {tg iter : Expr} : PI X tg iter (wI X tg iter) := ⟨fun pins s _ _ _ I h => h pins s I⟩
theorem wI.of {X : Cx} {tg iter : Expr} {t : TI} (h : PI X tg iter t) {σ : L2.St} {H : Hp} {R : It → Hp → Prop} (q : t σ H R) : wI X tg iter σ H R := fun pins s I => h.run pins s σ H R I q
structure JI (X : Cx) (tg iter : Expr) (ρ : Rho) (ds : List D) : Prop where
  run : ∀ W σ H, Ex W H → Vis X.K ρ W σ → ∀ R : It → Hp → Prop, (∀ J W1 H1, Step W H W1 H1 → Walks X.K J W1 ds → R J H1) → wI X tg iter σ H R
instance {X : Cx} {tg iter : Expr} {ρ : Rho} {ds : List D} : CoeFun (JI X tg iter ρ ds) (fun _ => ∀ W σ H, Ex W H → Vis X.K ρ W σ → ∀ R : It → Hp → Prop, (∀ J W1 H1, Step W H W1 H1 → Walks X.K J W1 ds → R J H1) → wI X tg iter σ H R) := ⟨JI.run⟩
section
variable {X : Cx} {K : PySem.W.Frag} {tg iter a b : Expr} {ρ : Rho} {ds : List D} {pos p : Pos}
theorem walks_list {W : Hp} {l : Addr} {vs : List V} (h : W l = some (.lst vs)) (k : RepAll K W ds vs) : Walks K (Itl K l) W ds where
  go := fun i H ex hi => by
    have hv : i < vs.length := by rw [← k.length]; exact hi
    exact ⟨vs, vs[i], SqL.of (ex _ _ h), by simp [hv]⟩
  yld := fun i H x H' d ex hd hy W2 e1 e2 => by
    obtain ⟨rfl, hy⟩ := hy
    obtain ⟨v, h1, h2⟩ := k.get hd
    have := hy vs (SqL.of (ex _ _ h))
    rw [h1] at this
    cases this
    exact ⟨W2, .refl e2, h2.mono e1⟩
  stop := fun H ex => ⟨vs, SqL.of (ex _ _ h), Nat.le_of_eq k.length.symm⟩
theorem ji_list (h : J X iter ρ (.lst ds)) : JI X tg iter ρ ds := ⟨fun W σ H ex hV R g => .of (pi_list pe_w) (h W σ H ex hV _ fun v W1 H1 s1 r1 => by
  cases r1 with
  | lst h1 k => exact ⟨_, rfl, ⟨_, SqL.of (s1.wh _ _ h1)⟩, g _ W1 H1 s1 (walks_list h1 k)⟩)⟩
theorem walks_tup {W : Hp} {l : Addr} {vs : List V} (uq : ∀ H xs ys, SqT K H l xs → SqT K H l ys → Ex W H → xs = ys → True) (h : SqT K W l vs) (k : RepAll K W ds vs) : Walks K (Itt K l) W ds where
  go := fun i H ex hi => by
    have hv : i < vs.length := by rw [← k.length]; exact hi
    exact ⟨vs, vs[i], Evl.ex_t ex h, by simp [hv]⟩
  yld := fun i H x H' d ex hd hy W2 e1 e2 => by
    obtain ⟨rfl, hy⟩ := hy
    obtain ⟨v, h1, h2⟩ := k.get hd
    have := hy vs (Evl.ex_t ex h)
    rw [h1] at this
    cases this
    exact ⟨W2, .refl e2, h2.mono e1⟩
  stop := fun H ex => ⟨vs, Evl.ex_t ex h, Nat.le_of_eq k.length.symm⟩
theorem ji_tup (h : J X iter ρ (.tup ds)) : JI X tg iter ρ ds := ⟨fun W σ H ex hV R g => .of (pi_tup pe_w) (h W σ H ex hV _ fun v W1 H1 s1 r1 => by
  cases r1 with
  | tup h1 k => exact ⟨_, rfl, ⟨_, Evl.ex_t s1.wh h1⟩, g _ W1 H1 s1 (walks_tup (fun _ _ _ _ _ _ _ => trivial) h1 k)⟩)⟩
def rangeD (lo : Int) (n : Nat) : List D := (List.range n).map fun k => D.int (lo + (k : Nat))
theorem walks_range {W : Hp} {lo : Int} {n : Nat} : Walks K (Itr lo n) W (rangeD lo n) where
  go := fun i H ex hi => by unfold rangeD at hi; rw [List.length_map, List.length_range] at hi; exact hi
  yld := fun i H x H' d ex hd hy W2 e1 e2 => by
    obtain ⟨rfl, rfl⟩ := hy
    unfold rangeD at hd
    rw [List.getElem?_map] at hd
    cases e : (List.range n)[i]? with
    | none => rw [e] at hd; cases hd
    | some k =>
      rw [e] at hd
      obtain ⟨hk, e'⟩ := List.getElem?_eq_some_iff.mp e
      rw [List.getElem_range] at e'
      subst e'
      cases hd
      exact ⟨W2, .refl e2, .int _⟩
  stop := fun H ex => by unfold rangeD; rw [List.length_map, List.length_range]; exact Nat.le_refl n
theorem ji_range1 {n : Int} (hm : X.mg "range" = none) (h : J X a ρ (.int n)) (h1 : -(2 ^ 62) ≤ n) (h2 : n < 2 ^ 62) (hg : Gl X "range" := by rfl) (hs : starEach [a] X.env = [(false, eval a X.env)] := by rfl) : JI X tg (.Call (.Name "range" p) [a] [] pos) ρ (rangeD 0 n.toNat) := ⟨fun W σ H ex hV R g =>
  .of (pi_range1 hg hm pa_w hs) (ja_cons h ja_nil hs W σ H ex hV _ fun vs W1 H1 s1 r1 => by
    cases r1 with
    | cons r t => cases t; cases r; exact ⟨n, rfl, h1, h2, g _ W1 H1 s1 walks_range⟩)⟩
end
end Pf

namespace Pf
open PySem L2
open Evl (Ex)

inductive Pat where
  | nm (i : Nat) | tp (is : List Nat) | tn (ps : List (Nat ⊕ List Nat))
def gNames : List Nat → TGs
  | [] => gNil
  | i :: is => gCons (gName i) (gNames is)
def gComps (K : PySem.W.Frag) : List (Nat ⊕ List Nat) → TGs
  | [] => gNil
  | .inl i :: ps => gCons (gName i) (gComps K ps)
  | .inr is :: ps => gCons (gTup K is.length (gNames is)) (gComps K ps)
def Pat.g (K : PySem.W.Frag) : Pat → TG
  | .nm i => gName i
  | .tp is => gTup K is.length (gNames is)
  | .tn ps => gTup K ps.length (gComps K ps)
def slotsC : List (Nat ⊕ List Nat) → List Nat
  | [] => []
  | .inl i :: ps => i :: slotsC ps
  | .inr is :: ps => is ++ slotsC ps
def Pat.slots : Pat → List Nat
  | .nm i => [i]
  | .tp is => is
  | .tn ps => slotsC ps
def setAll {α : Type} (ρ : List (Option α)) : List Nat → List α → List (Option α)
  | i :: is, d :: ds => setAll (ρ.set i (some d)) is ds
  | _, _ => ρ
/-- by data, each as f -/
def setC {α : Type} (f : D → α) : List (Nat ⊕ List Nat) → List D → List (Option α) → Option (List (Option α))
  | [], [], ρ => some ρ
  | .inl i :: ps, d :: ds, ρ => setC f ps ds (ρ.set i (some (f d)))
  | .inr is :: ps, .tup es :: ds, ρ => if es.length = is.length then setC f ps ds (setAll ρ is (es.map f)) else none
  | _, _, _ => none
def Pat.set : Pat → D → Rho → Option Rho
  | .nm i, d, ρ => some (ρ.set i (some d))
  | .tp is, .tup ds, ρ => if ds.length = is.length then some (setAll ρ is ds) else none
  | .tp _, _, _ => none
  | .tn ps, .tup ds, ρ => setC id ps ds ρ
  | .tn _, _, _ => none
theorem setAll_length {α : Type} : ∀ (is : List Nat) (ds : List α) (ρ : List (Option α)), (setAll ρ is ds).length = ρ.length
  | [], _, _ => rfl
  | _ :: _, [], _ => rfl
  | i :: is, d :: ds, ρ => by
    show (setAll (ρ.set i (some d)) is ds).length = _
    rw [setAll_length is ds, List.length_set]
theorem setAll_out {α : Type} : ∀ (is : List Nat) (ds : List α) (ρ : List (Option α)) (j : Nat), j ∉ is → (setAll ρ is ds)[j]? = ρ[j]?
  | [], _, _, _, _ => rfl
  | _ :: _, [], _, _, _ => rfl
  | i :: is, d :: ds, ρ, j, h => by
    show (setAll (ρ.set i (some d)) is ds)[j]? = _
    rw [List.mem_cons, not_or] at h
    rw [setAll_out is ds _ j h.2, List.getElem?_set_ne (fun e => h.1 e.symm)]
theorem setC_length {α : Type} {f : D → α} : ∀ {ps : List (Nat ⊕ List Nat)} {ds : List D} {ρ ρ' : List (Option α)}, setC f ps ds ρ = some ρ' → ρ'.length = ρ.length
  | [], [], ρ, ρ', h => by cases h; rfl
  | [], _ :: _, ρ, ρ', h => by cases h
  | .inl i :: ps, [], ρ, ρ', h => by cases h
  | .inl i :: ps, d :: ds, ρ, ρ', h => by have := setC_length (f := f) (ps := ps) (ds := ds) h; rw [this, List.length_set]
  | .inr is :: ps, [], ρ, ρ', h => by cases h
  | .inr is :: ps, d :: ds, ρ, ρ', h => by
    cases d <;> simp only [setC] at h <;> first | cases h | skip
    split at h
    · have := setC_length (f := f) (ps := ps) (ds := ds) h; rw [this, setAll_length]
    · cases h
theorem Pat.set_length {pat : Pat} {d : D} {ρ ρ' : Rho} (h : pat.set d ρ = some ρ') : ρ'.length = ρ.length := by
  cases pat with
  | nm i => cases h; exact List.length_set
  | tp is =>
    cases d <;> simp only [Pat.set] at h <;> first | cases h | skip
    split at h
    · cases h; exact setAll_length _ _ _
    · cases h
  | tn ps =>
    cases d <;> simp only [Pat.set] at h <;> first | cases h | skip
    exact setC_length h
section
variable {K : PySem.W.Frag} {ρ ρ' : Rho} {W H : Hp} {σ : L2.St} {d : D} {v : V}
theorem Vis.set (h : Vis K ρ W σ) (r : Rep K W d v) (i : Nat) : Vis K (ρ.set i (some d)) W (σ.set i (some v)) := ⟨by rw [List.length_set, List.length_set, h.len], fun j e q => by
  by_cases hj : i = j
  · subst hj
    by_cases hi : i < ρ.length
    · rw [List.getElem?_set_self hi] at q
      cases q
      exact ⟨v, List.getElem?_set_self (by rw [← h.len]; exact hi), r⟩
    · rw [List.getElem?_eq_none (by rw [List.length_set]; omega)] at q
      cases q
  · rw [List.getElem?_set_ne hj] at q ⊢
    exact h.at_ j e q⟩
theorem Vis.setAll : ∀ (is : List Nat) {ds : List D} {vs : List V} {ρ : Rho} {σ : L2.St}, Vis K ρ W σ → RepAll K W ds vs → ds.length = is.length → Vis K (Pf.setAll ρ is ds) W (Pf.setAll σ is vs)
  | [], _, _, _, _, h, .nil, _ => h
  | i :: is, _, _, _, _, h, .cons r t, e => Vis.setAll is (h.set r i) t (by simpa using e)
  | [], _, _, _, _, _, .cons _ _, e => by simp at e
  | _ :: _, _, _, _, _, _, .nil, e => by simp at e
theorem gNames_run : ∀ (is : List Nat) {vs : List V} {σ : L2.St} {Q : L2.St → Hp → Prop}, vs.length = is.length → Q (Pf.setAll σ is vs) H → gNames is vs σ H Q
  | [], [], _, _, _, q => ⟨rfl, q⟩
  | i :: is, v :: vs, σ, Q, e, q => ⟨v, vs, rfl, gNames_run is (σ := σ.set i (some v)) (by simpa using e) q⟩
  | [], _ :: _, _, _, e, _ => by simp at e
  | _ :: _, [], _, _, e, _ => by simp at e
theorem gComps_run (ex : Ex W H) : ∀ (ps : List (Nat ⊕ List Nat)) {ds : List D} {vs : List V} {ρ ρ' : Rho} {σ σ0 : L2.St} {Q : L2.St → Hp → Prop}, Vis K ρ W σ → RepAll K W ds vs → setC id ps ds ρ = some ρ' →
    (∀ σ', Vis K ρ' W σ' → (∀ j, j ∉ slotsC ps → σ'[j]? = σ[j]?) → Q σ' H) → gComps K ps vs σ H Q
  | [], _, _, ρ, ρ', σ, _, Q, h, .nil, hs, q => by cases hs; exact ⟨rfl, q σ h fun _ _ => rfl⟩
  | [], _, _, ρ, ρ', σ, _, Q, h, .cons _ _, hs, q => by cases hs
  | .inl i :: ps, _, _, ρ, ρ', σ, σ0, Q, h, .nil, hs, q => by cases hs
  | .inr is :: ps, _, _, ρ, ρ', σ, σ0, Q, h, .nil, hs, q => by cases hs
  | .inl i :: ps, _, v :: vs, ρ, ρ', σ, σ0, Q, h, .cons r t, hs, q => ⟨v, vs, rfl, gComps_run ex ps (σ0 := σ0) (h.set r i) t hs fun σ' h' ho => q σ' h' fun j hj => by
      have h1 : ¬ (j = i ∨ j ∈ slotsC ps) := fun z => hj (List.mem_cons.mpr z)
      rw [ho j fun z => h1 (.inr z), List.getElem?_set_ne fun z => h1 (.inl z.symm)]⟩
  | .inr is :: ps, d :: ds, v :: vs, ρ, ρ', σ, σ0, Q, h, .cons r t, hs, q => by
    cases r with
    | @tup a us es h1 k =>
      simp only [setC] at hs
      split at hs
      · rename_i hl
        rw [List.map_id] at hs
        refine ⟨_, vs, rfl, a, us, rfl, Evl.ex_t ex h1, by rw [← k.length]; exact hl, gNames_run is (by rw [← k.length]; exact hl) ?_⟩
        refine gComps_run ex ps (σ0 := σ0) (h.setAll is k hl) t hs fun σ' h' ho => q σ' h' fun j hj => ?_
        have h2 : ¬ (j ∈ is ∨ j ∈ slotsC ps) := fun z => hj (List.mem_append.mpr z)
        rw [ho j fun z => h2 (.inr z)]
        exact setAll_out is _ σ j fun z => h2 (.inl z)
      · cases hs
    | _ => cases hs
theorem Pat.run {pat : Pat} (h : Vis K ρ W σ) (ex : Ex W H) (r : Rep K W d v) (hs : pat.set d ρ = some ρ') {Q : L2.St → Hp → Prop}
    (q : ∀ σ', Vis K ρ' W σ' → (∀ j, j ∉ pat.slots → σ'[j]? = σ[j]?) → Q σ' H) : pat.g K v σ H Q := by
  cases pat with
  | nm i =>
    cases hs
    exact q _ (h.set r i) fun j hj => List.getElem?_set_ne (by intro e; subst e; exact hj (List.mem_singleton.mpr rfl))
  | tp is =>
    cases r with
    | tup h1 k =>
      simp only [Pat.set] at hs
      split at hs
      · rename_i hl
        cases hs
        refine ⟨_, _, rfl, Evl.ex_t ex h1, by rw [← k.length]; exact hl, gNames_run is (by rw [← k.length]; exact hl) ?_⟩
        exact q _ (h.setAll is k hl) fun j hj => setAll_out is _ σ j hj
      · cases hs
    | _ => cases hs
  | tn ps =>
    cases r with
    | tup h1 k =>
      have hl : ∀ (ps : List (Nat ⊕ List Nat)) (ds : List D) (ρ ρ' : Rho), setC id ps ds ρ = some ρ' → ds.length = ps.length := fun ps => by
        induction ps with
        | nil => intro ds ρ ρ' h; cases ds with
          | nil => rfl
          | cons _ _ => cases h
        | cons p ps ih =>
          intro ds ρ ρ' h
          cases ds with
          | nil => cases p <;> cases h
          | cons d ds =>
            cases p with
            | inl i => exact congrArg (· + 1) (ih ds _ _ h)
            | inr is =>
              cases d <;> simp only [setC] at h <;> first | cases h | skip
              split at h
              · exact congrArg (· + 1) (ih ds _ _ h)
              · cases h
      exact ⟨_, _, rfl, Evl.ex_t ex h1, by rw [← k.length]; exact hl _ _ _ _ hs, gComps_run ex ps (σ0 := σ) h k hs q⟩
    | _ => cases hs
end
theorem wipe_get (σ : L2.St) : ∀ (vs : List Nat) (j : Nat), (wipe σ vs)[j]? = if j ∈ vs ∧ j < σ.length then some none else σ[j]?
  | [], j => by simp [wipe]
  | v :: vs, j => by
    unfold wipe
    by_cases e : v = j
    · subst e
      by_cases hl : v < σ.length
      · rw [List.getElem?_set_self (by rw [wipe_length]; exact hl), if_pos ⟨List.mem_cons_self, hl⟩]
      · rw [List.getElem?_eq_none (by rw [List.length_set, wipe_length]; omega), if_neg (fun z => hl z.2), List.getElem?_eq_none (by omega)]
    · rw [List.getElem?_set_ne e, wipe_get σ vs j]
      have : (j ∈ v :: vs) ↔ j ∈ vs := by rw [List.mem_cons]; exact ⟨fun h => h.resolve_left (fun z => e z.symm), .inr⟩
      simp only [this]
theorem wipe_eq {σ τ : L2.St} {vs is : List Nat} (hl : σ.length = τ.length) (hs : ∀ i ∈ is, i ∈ vs) (h : ∀ j, j ∉ is → τ[j]? = (wipe σ vs)[j]?) : wipe τ vs = wipe σ vs := by
  apply List.ext_getElem?
  intro j
  rw [wipe_get τ vs j, wipe_get σ vs j, hl]
  by_cases hj : j ∈ vs ∧ j < τ.length
  · rw [if_pos hj, if_pos hj]
  · rw [if_neg hj, if_neg hj]
    by_cases hi : j ∈ is
    · have : ¬ j < τ.length := fun z => hj ⟨hs j hi, z⟩
      rw [List.getElem?_eq_none (by omega), List.getElem?_eq_none (by omega)]
    · rw [h j hi, wipe_get, hl, if_neg hj]
def wipeR (ρ : Rho) : List Nat → Rho
  | [] => ρ
  | v :: vs => (wipeR ρ vs).set v none
theorem Vis.wipe {K : PySem.W.Frag} {ρ : Rho} {W : Hp} {σ : L2.St} (h : Vis K ρ W σ) : ∀ vs, Vis K (wipeR ρ vs) W (L2.wipe σ vs)
  | [] => h
  | v :: vs => by
    have ih := Vis.wipe h vs
    refine ⟨by unfold wipeR L2.wipe; rw [List.length_set, List.length_set, ih.len], fun j e q => ?_⟩
    unfold wipeR at q
    unfold L2.wipe
    by_cases hj : v = j
    · subst hj
      by_cases hi : v < (wipeR ρ vs).length
      · rw [List.getElem?_set_self hi] at q; cases q
      · rw [List.getElem?_eq_none (by rw [List.length_set]; omega)] at q; cases q
    · rw [List.getElem?_set_ne hj] at q ⊢
      exact ih.at_ j e q
def wTs (X : Cx) (ifs : List Expr) : TT := fun σ H Q => ∀ (pins : List (Addr × Obj)) (s : Shared), Inv X pins σ H s →
  wpAny (model X.prog X.w) X.A (forIn ifs true fun c r => if r = true then do let ok ← isTrue c X.env (eval c X.env); pure (ForInStep.yield ok) else pure (ForInStep.yield r)) (TP X pins σ Q) X.xe s
theorem wTs.of {X : Cx} {ifs : List Expr} {t : TT} (h : PTs X ifs t) {σ : L2.St} {H : Hp} {Q : Bool → Hp → Prop} (q : t σ H Q) : wTs X ifs σ H Q := fun pins s I => h.run pins s σ H Q I q
structure JTs (X : Cx) (ifs : List Expr) (ρ : Rho) (b : Bool) : Prop where
  run : ∀ W σ H, Ex W H → Vis X.K ρ W σ → ∀ Q : Bool → Hp → Prop, GoodT W H b Q → wTs X ifs σ H Q
instance {X : Cx} {ifs : List Expr} {ρ : Rho} {b : Bool} : CoeFun (JTs X ifs ρ b) (fun _ => ∀ W σ H, Ex W H → Vis X.K ρ W σ → ∀ Q : Bool → Hp → Prop, GoodT W H b Q → wTs X ifs σ H Q) := ⟨JTs.run⟩
theorem jts_nil {X : Cx} {ρ : Rho} : JTs X [] ρ true := ⟨fun W σ H ex hV Q g => .of pts_nil (g.now ex)⟩
/-- a block's context -/
abbrev blkX (X : Cx) (scope : Scope) (s : Shared) (H : Hp) (C : Addr) (cl : List (Str × Addr)) (fp : List Addr) : Cx := X.blk s H scope (compEnvC scope cl C X.env) fp
section
variable {X : Cx} {elt tg iter : Expr} {ifs : List Expr} {scope : Scope} {own : List (Str × Nat)} {pos : Pos} {ρ : Rho} {its : List (D × Option D)} {pat : Pat}
/-- what one turn of a comprehension does with the item d -/
def LcTurn (X : Cx) (scope : Scope) (pat : Pat) (elt : Expr) (ifs : List Expr) (ρ : Rho) (d : D) (y : Option D) : Prop :=
  ∃ ρ', pat.set d ρ = some ρ' ∧ ∀ s H C cl fp, match y with
    | none => JTs (blkX X scope s H C cl fp) ifs ρ' false
    | some y => JTs (blkX X scope s H C cl fp) ifs ρ' true ∧ J (blkX X scope s H C cl fp) elt ρ' y
/-- the reading of a comprehension, as it is used for a value and for a stored one. D: the new list -/
theorem lc_readAt {W H : Hp} {σ : L2.St} (hi : ∀ R : It → Hp → Prop, (∀ J W1 H1, Step W H W1 H1 → Walks X.K J W1 (its.map (·.1)) → R J H1) → wI X tg iter σ H R) (hown : ∀ i ∈ pat.slots, i ∈ own.map (·.2)) (hlen : its.length < sizeLine)
    (turn : ∀ q ∈ its, LcTurn X scope pat elt ifs (wipeR ρ (own.map (·.2))) q.1 q.2) (ex : Ex W H) (hV : Vis X.K ρ W σ) {Q : VK}
    (g : ∀ (Dn : Addr) (W' H' : Hp) (vs : List V), Step W H W' H' → H Dn = none → W' Dn = none → H' Dn = some (.lst vs) → RepAll X.K W' (its.filterMap (·.2)) vs → Q (.ref Dn) H') :
    tLc (wI X tg iter) (pat.g X.K) (fun σ H Q => ∀ s H0 C cl fp, wTs (blkX X scope s H0 C cl fp) ifs σ H Q) (fun σ H Q => ∀ s H0 C cl fp, wE (blkX X scope s H0 C cl fp) elt σ H Q) (own.map (·.2)) σ H Q := by
  refine hi _ fun Jt W1 H1 s1 wk => ?_
  intro Dn hD
  have hW1 : W1 Dn = none := Evl.fresh_back s1.wh hD
  refine ⟨fun i m H2 => m = its.length - i ∧ i ≤ its.length ∧ ∃ W2 vs, Step W1 H1 W2 H2 ∧ W2 Dn = none ∧ H2 Dn = some (.lst vs) ∧ RepAll X.K W2 ((its.take i).filterMap (·.2)) vs, ⟨_, rfl, Nat.zero_le _, W1, [], .newH s1.wh hD, hW1, upd_same, .nil⟩, ?_⟩
  rintro i m H2 ⟨rfl, hil, W2, vs, s2, hW2, hH2, rv⟩
  by_cases hlt : i < its.length
  · refine .inr ⟨wk.go i H2 (s2.ww.trans s2.wh) (by rw [List.length_map]; exact hlt), _, fun H' z => ⟨_, (by omega : its.length - (i + 1) < its.length - i), rfl, hlt, z⟩, fun x H3 hy => ?_⟩
    obtain ⟨⟨d, fd⟩, hd⟩ : ∃ d, its[i]? = some d := ⟨its[i], by simp [hlt]⟩
    obtain ⟨W3, s3, rx⟩ := wk.yld i H2 x H3 d (s2.ww.trans s2.wh) (by rw [List.getElem?_map, hd]; rfl) hy W2 s2.ww s2.wh
    obtain ⟨ρ', hset, ht⟩ := turn _ (List.mem_of_getElem? hd)
    have hV3 : Vis X.K ρ W3 σ := hV.mono ((s1.trans s2).trans s3).ww
    have hW3 : W3 Dn = none := by
      cases q : W3 Dn with
      | none => rfl
      | some o =>
        have := s3.fr Dn (by rw [q]; simp) hW2
        rw [hH2] at this; cases this
    have hH3 : H3 Dn = some (.lst vs) := s3.hh _ _ hH2
    have tk : its.take (i + 1) = its.take i ++ [(d, fd)] := by
      rw [List.take_add_one, hd]; rfl
    refine Pat.run (hV3.wipe _) s3.wh rx hset fun σ2 hV4 ho => ⟨wipe_eq (by rw [← hV4.len, ← hV3.len, Pat.set_length hset]; have := (hV3.wipe (own.map (·.2))).len; rw [wipe_length, ← hV3.len] at this; exact this.symm) hown ho, ?_⟩
    cases fd with
    | none =>
      dsimp only at ht
      refine fun s H0 C cl fp => ht s H0 C cl fp W3 σ2 H3 s3.wh hV4 _ fun W4 H4 s4 => ?_
      rw [if_neg Bool.false_ne_true]
      have hH4 := s4.hh _ _ hH3
      refine ⟨W4, vs, (s2.trans s3).trans s4, ?_, hH4, ?_⟩
      · cases q : W4 Dn with
        | none => rfl
        | some o => have := s4.fr Dn (by rw [q]; simp) hW3; rw [hH3] at this; cases this
      · rw [tk, List.filterMap_append]
        simp only [List.filterMap_cons, List.filterMap_nil, List.append_nil]
        exact rv.mono (s3.trans s4).ww
    | some y =>
      dsimp only at ht
      refine fun s H0 C cl fp => (ht s H0 C cl fp).1 W3 σ2 H3 s3.wh hV4 _ fun W4 H4 s4 => ?_
      rw [if_pos rfl]
      refine fun s' H0' C' cl' fp' => (ht s' H0' C' cl' fp').2 W4 σ2 H4 s4.wh (hV4.mono s4.ww) _ fun v W5 H5 s5 r5 => ?_
      have s35 := s4.trans s5
      have hH5 := s35.hh _ _ hH3
      have hW5 : W5 Dn = none := by
        cases q : W5 Dn with
        | none => rfl
        | some o => have := s35.fr Dn (by rw [q]; simp) hW3; rw [hH3] at this; cases this
      have hvl : vs.length ≤ i := by
        rw [← rv.length]
        exact Nat.le_trans (List.length_filterMap_le _ _) (by rw [List.length_take]; omega)
      refine ⟨vs, hH5, by omega, W5, vs ++ [v], ?_, hW5, upd_same, ?_⟩
      · have s25 := (s2.trans s3).trans s35
        refine ⟨s25.ww, fun a o h => ?_, fun a o h => ?_, s25.fr⟩
        · rw [upd_ne (ne_of_none h hW5)]; exact s25.wh a o h
        · rw [upd_ne (ne_of_none h hD)]; exact s25.hh a o h
      · rw [tk, List.filterMap_append]
        simp only [List.filterMap_cons, List.filterMap_nil]
        exact (rv.mono (s3.trans s35).ww).append (.cons r5 .nil)
  · have e : i = its.length := by omega
    subst e
    refine .inl ⟨by have := wk.stop H2 (s2.ww.trans s2.wh); rwa [List.length_map] at this, g Dn W2 H2 vs (s1.trans s2) (Evl.fresh_back s1.hh hD) hW2 hH2 ?_⟩
    rw [List.take_length] at rv
    exact rv
theorem lc_read (hi : JI X tg iter ρ (its.map (·.1))) (hown : ∀ i ∈ pat.slots, i ∈ own.map (·.2)) (hlen : its.length < sizeLine)
    (turn : ∀ q ∈ its, LcTurn X scope pat elt ifs (wipeR ρ (own.map (·.2))) q.1 q.2) {W H : Hp} {σ : L2.St} (ex : Ex W H) (hV : Vis X.K ρ W σ) {Q : VK}
    (g : ∀ (Dn : Addr) (W' H' : Hp) (vs : List V), Step W H W' H' → H Dn = none → W' Dn = none → H' Dn = some (.lst vs) → RepAll X.K W' (its.filterMap (·.2)) vs → Q (.ref Dn) H') :
    tLc (wI X tg iter) (pat.g X.K) (fun σ H Q => ∀ s H0 C cl fp, wTs (blkX X scope s H0 C cl fp) ifs σ H Q) (fun σ H Q => ∀ s H0 C cl fp, wE (blkX X scope s H0 C cl fp) elt σ H Q) (own.map (·.2)) σ H Q := lc_readAt (fun R k => hi W σ H ex hV R k) hown hlen turn ex hV g
theorem Step.show' {W H W' H' : Hp} {p : Addr} {o : HO} (s : Step W H W' H') (hp : H p = none) (hw : W' p = none) (hh : H' p = some o) : Step W H (upd W' p o) H' :=
  ⟨fun a u h => by rw [upd_ne (ne_of_none (s.ww a u h) hw)]; exact s.ww a u h, fun a u h => by
    by_cases ha : a = p
    · subst ha; rw [upd_same] at h; cases h; exact hh
    · rw [upd_ne ha] at h; exact s.wh a u h, s.hh, fun b h1 h2 => by
    by_cases ha : b = p
    · subst ha; exact hp
    · rw [upd_ne ha] at h1; exact s.fr b h1 h2⟩
theorem j_lc (hi : JI X tg iter ρ (its.map (·.1))) (ok : BlkOk X.N X.env.scope scope own) (hg : ∀ s H C cl fp, PG (blkX X scope s H C cl fp) tg (pat.g X.K)) (hown : ∀ i ∈ pat.slots, i ∈ own.map (·.2)) (hlen : its.length < sizeLine)
    (turn : ∀ q ∈ its, LcTurn X scope pat elt ifs (wipeR ρ (own.map (·.2))) q.1 q.2) (hN : X.N.Nodup) (hc : X.calm = true := by rfl) (hs : ∀ x, foldedSetIterable iter X.env x = pure x := by intro _; rfl) :
    J X (.ListComp elt [⟨tg, iter, ifs, 0⟩] scope pos) ρ (.lst (its.filterMap (·.2))) := ⟨fun W σ H ex hV Q g =>
  .of (pe_lc (tt := fun σ H Q => ∀ s H0 C cl fp, wTs (blkX X scope s H0 C cl fp) ifs σ H Q) (te := fun σ H Q => ∀ s H0 C cl fp, wE (blkX X scope s H0 C cl fp) elt σ H Q) hc hN pi_w ok hg
    (fun s H0 C cl fp => ⟨fun pins s' σ' H' Q' I h => h s H0 C cl fp pins s' I⟩) (fun s H0 C cl fp => ⟨fun pins s' σ' H' Q' I h => h s H0 C cl fp pins s' I⟩) hs)
    (lc_read hi hown hlen turn ex hV fun Dn W' H' vs s hD hW hH rv => g _ _ _ (s.show' hD hW hH) (.lst upd_same (rv.mono fun a u h => by rw [upd_ne (ne_of_none h hW)]; exact h)))⟩
theorem sel_filter {α : Type} (g : α → D) (p : α → Bool) (h : α → D) : ∀ xs : List α, (xs.map fun x => (g x, if p x = true then some (h x) else none)).filterMap (·.2) = (xs.filter p).map h
  | [] => rfl
  | x :: xs => by
    rw [List.map_cons, List.filterMap_cons]
    by_cases q : p x = true
    · rw [List.filter_cons_of_pos q]; simp only [q, if_true]; rw [List.map_cons, sel_filter g p h xs]
    · rw [List.filter_cons_of_neg q]; simp only [if_neg q]; rw [sel_filter g p h xs]
/-- over the items of a kind, by a name: those that p holds of, each as h -/
theorem lcN_turn {α : Type} {i : Nat} {xs : List α} {g : α → D} {p : α → Bool} {h : α → D}
    (turn : ∀ x ∈ xs, ∀ s H C cl fp, JTs (blkX X scope s H C cl fp) ifs ((wipeR ρ (own.map (·.2))).set i (some (g x))) (p x) ∧ (p x = true → J (blkX X scope s H C cl fp) elt ((wipeR ρ (own.map (·.2))).set i (some (g x))) (h x))) :
    ∀ q ∈ xs.map fun x => (g x, if p x = true then some (h x) else none), LcTurn X scope (.nm i) elt ifs (wipeR ρ (own.map (·.2))) q.1 q.2 := by
  intro q hq
  obtain ⟨x, hx, rfl⟩ := List.mem_map.mp hq
  refine ⟨_, rfl, fun s H C cl fp => ?_⟩
  have t := turn x hx s H C cl fp
  by_cases e : p x = true
  · simp only [e, if_true]; rw [e] at t; exact ⟨t.1, t.2 rfl⟩
  · simp only [if_neg e]
    have e' : p x = false := by simpa using e
    rw [e'] at t; exact t.1
theorem j_lcN {α : Type} {i : Nat} (xs : List α) (g : α → D) (p : α → Bool) (h : α → D) (hi : JI X tg iter ρ (xs.map g)) (ok : BlkOk X.N X.env.scope scope own) (hg : ∀ s H C cl fp, PG (blkX X scope s H C cl fp) tg (gName i)) (hlen : xs.length < sizeLine)
    (turn : ∀ x ∈ xs, ∀ s H C cl fp, JTs (blkX X scope s H C cl fp) ifs ((wipeR ρ (own.map (·.2))).set i (some (g x))) (p x) ∧ (p x = true → J (blkX X scope s H C cl fp) elt ((wipeR ρ (own.map (·.2))).set i (some (g x))) (h x))) (hN : X.N.Nodup) (hown : i ∈ own.map (·.2) := by decide) (hc : X.calm = true := by rfl) (hs : ∀ x, foldedSetIterable iter X.env x = pure x := by intro _; rfl) :
    J X (.ListComp elt [⟨tg, iter, ifs, 0⟩] scope pos) ρ (.lst ((xs.filter p).map h)) := by
  rw [← sel_filter g p h xs]
  refine j_lc (pat := .nm i) (by rw [List.map_map]; exact hi) ok hg (fun j hj => (List.mem_singleton.mp hj : j = i) ▸ hown) (by rw [List.length_map]; exact hlen) (lcN_turn turn) hN hc hs
end
end Pf

namespace Pf
open PySem L2
open Evl (Ex)

/-- lists and dicts in the fields of an own object are its own -/
def mutD : D → Bool
  | .lst _ => true
  | .dct _ => true
  | _ => false
/-- meters stand in own lists as own objects (their first field is the limit) -/
def insM : D → Bool
  | .ins _ ((n, _) :: _) => decide (n = "limit")
  | _ => false
def NoM (ds : List D) : Prop := ∀ d ∈ ds, insM d = false
theorem NoM.nil : NoM [] := fun _ h => by cases h
theorem NoM.cons {d : D} {ds : List D} (h : insM d = false) (t : NoM ds) : NoM (d :: ds) := fun x hx => by
  rcases List.mem_cons.mp hx with z | z
  · rw [z]; exact h
  · exact t x z
theorem NoM.app {ds es : List D} (h : NoM ds) (t : NoM es) : NoM (ds ++ es) := fun x hx => by
  rcases List.mem_append.mp hx with z | z
  · exact h x z
  · exact t x z
theorem NoM.map {α : Type} {f : α → D} {xs : List α} (h : ∀ x, insM (f x) = false) : NoM (xs.map f) := fun d hd => by
  obtain ⟨x, _, rfl⟩ := List.mem_map.mp hd
  exact h x
theorem NoM.fm {α : Type} {p : α → Bool} {g : α → D} {f : α → D} {xs : List α} (h : ∀ x, insM (f x) = false) : NoM ((xs.map fun x => (g x, if p x = true then some (f x) else none)).filterMap (·.2)) := fun d hd => by
  obtain ⟨⟨a, b⟩, h1, h2⟩ := List.mem_filterMap.mp hd
  obtain ⟨x, _, e⟩ := List.mem_map.mp h1
  simp only [Prod.mk.injEq] at e
  obtain ⟨_, e⟩ := e
  have h2 : b = some d := h2
  rw [h2] at e
  split at e
  · cases e; exact h x
  · cases e
theorem NoM.sub {ds es : List D} (h : NoM es) (s : ∀ d ∈ ds, d ∈ es) : NoM ds := fun d hd => h d (s d hd)
mutual
inductive Own (K : PySem.W.Frag) (Hf H : Hp) : D → V → List Addr → Prop
  | fz {d : D} {v : V} : Rep K Hf d v → Own K Hf H d v []
  | lst {a : Addr} {vs : List V} {ds : List D} {A : List Addr} : H a = some (.lst vs) → OwnAll K Hf H ds vs A → a ∉ A → Own K Hf H (.lst ds) (.ref a) (a :: A)
  | dct {a : Addr} {kvs : List (Key × V)} {kds : List (Key × D)} {A : List Addr} : H a = some (.dK kvs) → kvs.map (·.1) = kds.map (·.1) → OwnAll K Hf H (kds.map (·.2)) (kvs.map (·.2)) A → a ∉ A → Own K Hf H (.dct kds) (.ref a) (a :: A)
  | ins {a C dx : Addr} {fs : List (Str × V)} {fds : List (Str × D)} {A : List Addr} : H a = some (.ins C dx fs) → fs.map (·.1) = fds.map (·.1) → OwnFs K Hf H (fds.map (·.2)) (fs.map (·.2)) A → a ∉ A → Own K Hf H (.ins C fds) (.ref a) (a :: A)
inductive OwnAll (K : PySem.W.Frag) (Hf H : Hp) : List D → List V → List Addr → Prop
  | nil : OwnAll K Hf H [] [] []
  | cons {d : D} {v : V} {ds : List D} {vs : List V} {A B : List Addr} : Own K Hf H d v A → OwnAll K Hf H ds vs B → (∀ a ∈ A, a ∉ B) → (insM d = true → A ≠ []) → OwnAll K Hf H (d :: ds) (v :: vs) (A ++ B)
inductive OwnFs (K : PySem.W.Frag) (Hf H : Hp) : List D → List V → List Addr → Prop
  | nil : OwnFs K Hf H [] [] []
  | cons {d : D} {v : V} {ds : List D} {vs : List V} {A B : List Addr} : Own K Hf H d v A → OwnFs K Hf H ds vs B → (∀ a ∈ A, a ∉ B) → (mutD d = true → A ≠ []) → OwnFs K Hf H (d :: ds) (v :: vs) (A ++ B)
end
section
variable {K : PySem.W.Frag} {Hf H Hf' H' W : Hp}
/-- the heap may change elsewhere -/
theorem Own.move {d : D} {v : V} {A : List Addr} (h : Own K Hf H d v A) : Ex Hf Hf' → (∀ a ∈ A, H' a = H a) → Own K Hf' H' d v A := by
  refine Own.rec (motive_1 := fun d v A _ => Ex Hf Hf' → (∀ a ∈ A, H' a = H a) → Own K Hf' H' d v A) (motive_2 := fun ds vs A _ => Ex Hf Hf' → (∀ a ∈ A, H' a = H a) → OwnAll K Hf' H' ds vs A) (motive_3 := fun ds vs A _ => Ex Hf Hf' → (∀ a ∈ A, H' a = H a) → OwnFs K Hf' H' ds vs A) ?_ ?_ ?_ ?_ ?_ ?_ ?_ ?_ h
  · exact fun r e _ => .fz (r.mono e)
  · exact fun h1 _ n ih e k => .lst (by rw [k _ List.mem_cons_self]; exact h1) (ih e fun a ha => k a (List.mem_cons_of_mem _ ha)) n
  · exact fun h1 q _ n ih e k => .dct (by rw [k _ List.mem_cons_self]; exact h1) q (ih e fun a ha => k a (List.mem_cons_of_mem _ ha)) n
  · exact fun h1 q _ n ih e k => .ins (by rw [k _ List.mem_cons_self]; exact h1) q (ih e fun a ha => k a (List.mem_cons_of_mem _ ha)) n
  · exact fun _ _ => .nil
  · exact fun _ _ n w i1 i2 e k => .cons (i1 e fun a ha => k a (List.mem_append_left _ ha)) (i2 e fun a ha => k a (List.mem_append_right _ ha)) n w
  · exact fun _ _ => .nil
  · exact fun _ _ n w i1 i2 e k => .cons (i1 e fun a ha => k a (List.mem_append_left _ ha)) (i2 e fun a ha => k a (List.mem_append_right _ ha)) n w
/-- read in a heap that has all of it -/
theorem Own.rep {d : D} {v : V} {A : List Addr} (h : Own K Hf H d v A) : Ex Hf W → (∀ a ∈ A, W a = H a) → Rep K W d v := by
  refine Own.rec (motive_1 := fun d v A _ => Ex Hf W → (∀ a ∈ A, W a = H a) → Rep K W d v) (motive_2 := fun ds vs A _ => Ex Hf W → (∀ a ∈ A, W a = H a) → RepAll K W ds vs) (motive_3 := fun ds vs A _ => Ex Hf W → (∀ a ∈ A, W a = H a) → RepAll K W ds vs) ?_ ?_ ?_ ?_ ?_ ?_ ?_ ?_ h
  · exact fun r e _ => r.mono e
  · exact fun h1 _ n ih e k => .lst (by rw [k _ List.mem_cons_self]; exact h1) (ih e fun a ha => k a (List.mem_cons_of_mem _ ha))
  · exact fun h1 q _ n ih e k => .dct (by rw [k _ List.mem_cons_self]; exact h1) q (ih e fun a ha => k a (List.mem_cons_of_mem _ ha))
  · exact fun h1 q _ n ih e k => .ins (by rw [k _ List.mem_cons_self]; exact h1) q (ih e fun a ha => k a (List.mem_cons_of_mem _ ha))
  · exact fun _ _ => .nil
  · exact fun _ _ n w i1 i2 e k => .cons (i1 e fun a ha => k a (List.mem_append_left _ ha)) (i2 e fun a ha => k a (List.mem_append_right _ ha))
  · exact fun _ _ => .nil
  · exact fun _ _ n w i1 i2 e k => .cons (i1 e fun a ha => k a (List.mem_append_left _ ha)) (i2 e fun a ha => k a (List.mem_append_right _ ha))
theorem OwnAll.fz : ∀ {ds : List D} {vs : List V}, RepAll K Hf ds vs → NoM ds → OwnAll K Hf H ds vs []
  | _, _, .nil, _ => .nil
  | _, _, .cons r t, n => .cons (A := []) (B := []) (.fz r) (OwnAll.fz t fun d hd => n d (List.mem_cons_of_mem _ hd)) (fun _ h => absurd h (by simp)) (fun h => by rw [n _ List.mem_cons_self] at h; cases h)
theorem OwnAll.append : ∀ {ds es : List D} {vs us : List V} {A B : List Addr}, OwnAll K Hf H ds vs A → OwnAll K Hf H es us B → (∀ a ∈ A, a ∉ B) → OwnAll K Hf H (ds ++ es) (vs ++ us) (A ++ B)
  | _, _, _, _, _, _, .nil, s, _ => s
  | _, _, _, _, _, _, .cons (A := A1) (B := B1) r t n w, s, h => by
    rw [List.append_assoc]
    refine .cons r (OwnAll.append t s fun a ha => h a (List.mem_append_right _ ha)) (fun a ha hb => ?_) w
    rcases List.mem_append.mp hb with q | q
    · exact n a ha q
    · exact h a (List.mem_append_left _ ha) q
theorem OwnAll.length : ∀ {ds : List D} {vs : List V} {A : List Addr}, OwnAll K Hf H ds vs A → ds.length = vs.length
  | _, _, _, .nil => rfl
  | _, _, _, .cons _ b _ _ => congrArg (· + 1) (OwnAll.length b)
end

inductive SV where
  | fz (d : D) | ow (d : D)
def SV.d : SV → D
  | .fz d => d
  | .ow d => d
abbrev RhoS := List (Option SV)
def SV.fzD : SV → Option D
  | .fz d => some d
  | .ow _ => none
def fzR (ρ : RhoS) : Rho := ρ.map fun o => o.bind SV.fzD
def allR (ρ : RhoS) : Rho := ρ.map fun o => o.map SV.d
/-- the entry of the def: its frozen heap, its heap, what may be changed of it, where the own arguments stand -/
structure Ent where
  W0 : Hp
  H0 : Hp
  M : Addr → Prop
  pa : Nat → Option Addr
structure StAt (K : PySem.W.Frag) (E : Ent) (ρ : RhoS) (σ : L2.St) (H Hf : Hp) (A : Nat → List Addr) : Prop where
  len : ρ.length = σ.length
  w0 : Ex E.W0 Hf
  fh : Ex Hf H
  fr : Fr E.W0 Hf E.H0
  hh : ∀ b o, E.H0 b = some o → ¬ E.M b → H b = some o
  kp : ∀ b, H b = none → E.H0 b = none
  sl : ∀ (i : Nat) (sv : SV), ρ[i]? = some (some sv) → ∃ v, σ[i]? = some (some v) ∧ match sv with
    | .fz d => Rep K Hf d v
    | .ow d => Own K Hf H d v (A i) ∧ A i ≠ []
  ap : ∀ i a, a ∈ A i → Hf a = none ∧ H a ≠ none ∧ (E.H0 a = none ∨ (E.M a ∧ E.pa i ≠ none))
  dj : ∀ i j a, a ∈ A i → a ∈ A j → i = j
  pn : ∀ i a, E.pa i = some a → σ[i]? = some (some (.ref a))
def StOk (K : PySem.W.Frag) (E : Ent) (ρ : RhoS) (σ : L2.St) (H : Hp) : Prop := ∃ Hf A, StAt K E ρ σ H Hf A
section
variable {K : PySem.W.Frag} {E : Ent} {ρ : RhoS} {σ : L2.St} {H Hf W' H' : Hp} {A : Nat → List Addr}
theorem fzR_get {i : Nat} {d : D} (h : (fzR ρ)[i]? = some (some d)) : ρ[i]? = some (some (.fz d)) := by
  unfold fzR at h
  rw [List.getElem?_map] at h
  cases e : ρ[i]? with
  | none => rw [e] at h; cases h
  | some o =>
    rw [e] at h
    cases o with
    | none => cases h
    | some sv => cases sv with
      | fz d' => cases h; rfl
      | ow d' => cases h
theorem allR_get {i : Nat} {d : D} (h : (allR ρ)[i]? = some (some d)) : ∃ sv, ρ[i]? = some (some sv) ∧ sv.d = d := by
  unfold allR at h
  rw [List.getElem?_map] at h
  cases e : ρ[i]? with
  | none => rw [e] at h; cases h
  | some o =>
    rw [e] at h
    cases o with
    | none => cases h
    | some sv => cases h; exact ⟨sv, rfl, rfl⟩
theorem StAt.vis (s : StAt K E ρ σ H Hf A) : Vis K (fzR ρ) Hf σ := ⟨by unfold fzR; rw [List.length_map]; exact s.len, fun i d h => s.sl i _ (fzR_get h)⟩
theorem StAt.visH (s : StAt K E ρ σ H Hf A) : Vis K (allR ρ) H σ := ⟨by unfold allR; rw [List.length_map]; exact s.len, fun i d h => by
  obtain ⟨sv, h1, h2⟩ := allR_get h
  obtain ⟨v, e1, e2⟩ := s.sl i sv h1
  refine ⟨v, e1, ?_⟩
  cases sv with
  | fz d' => cases h2; exact Rep.mono s.fh e2
  | ow d' => cases h2; exact Own.rep e2.1 s.fh fun _ _ => rfl⟩
/-- behind an expression's reading that ran from the frozen heap -/
theorem StAt.step (s : StAt K E ρ σ H Hf A) (t : Step Hf H W' H') : StAt K E ρ σ H' W' A where
  len := s.len
  w0 := s.w0.trans t.ww
  fh := t.wh
  fr := fun b h1 h2 => by
    by_cases e : Hf b = none
    · exact s.kp b (t.fr b h1 e)
    · exact s.fr b e h2
  hh := fun b o h1 h2 => t.hh _ _ (s.hh b o h1 h2)
  kp := fun b h => s.kp b (Evl.fresh_back t.hh h)
  sl := fun i sv h => by
    obtain ⟨v, e1, e2⟩ := s.sl i sv h
    refine ⟨v, e1, ?_⟩
    cases sv with
    | fz d => exact Rep.mono t.ww e2
    | ow d =>
      refine ⟨Own.move e2.1 t.ww fun a ha => ?_, e2.2⟩
      have h2 := (s.ap i a ha).2.1
      cases q : H a with
      | none => exact absurd q h2
      | some o => exact t.hh _ _ q
  ap := fun i a ha => by
    obtain ⟨h1, h2, h3⟩ := s.ap i a ha
    refine ⟨?_, fun z => h2 (Evl.fresh_back t.hh z), h3⟩
    cases q : W' a with
    | none => rfl
    | some o => exact absurd (t.fr a (by rw [q]; simp) h1) h2
  dj := s.dj
  pn := s.pn
/-- .. from the whole heap: the frozen heap stays -/
theorem StAt.grow (s : StAt K E ρ σ H Hf A) (t : Ex H H') : StAt K E ρ σ H' Hf A where
  len := s.len
  w0 := s.w0
  fh := s.fh.trans t
  fr := s.fr
  hh := fun b o h1 h2 => t _ _ (s.hh b o h1 h2)
  kp := fun b h => s.kp b (Evl.fresh_back t h)
  sl := fun i sv h => by
    obtain ⟨v, e1, e2⟩ := s.sl i sv h
    refine ⟨v, e1, ?_⟩
    cases sv with
    | fz d => exact e2
    | ow d =>
      refine ⟨Own.move e2.1 (.refl _) fun a ha => ?_, e2.2⟩
      have h2 := (s.ap i a ha).2.1
      cases q : H a with
      | none => exact absurd q h2
      | some o => exact t _ _ q
  ap := fun i a ha => by
    obtain ⟨h1, h2, h3⟩ := s.ap i a ha
    exact ⟨h1, fun z => h2 (Evl.fresh_back t z), h3⟩
  dj := s.dj
  pn := s.pn
/-- a slot is set to a value in the frozen heap -/
theorem StAt.setFz (s : StAt K E ρ σ H Hf A) {i : Nat} {d : D} {v : V} (r : Rep K Hf d v) (hp : E.pa i = none) : StAt K E (ρ.set i (some (.fz d))) (σ.set i (some v)) H Hf (fun j => if j = i then [] else A j) where
  len := by rw [List.length_set, List.length_set]; exact s.len
  w0 := s.w0
  fh := s.fh
  fr := s.fr
  hh := s.hh
  kp := s.kp
  sl := fun j sv h => by
    by_cases hj : i = j
    · subst hj
      by_cases hi : i < ρ.length
      · rw [List.getElem?_set_self hi] at h; cases h
        exact ⟨v, List.getElem?_set_self (by rw [← s.len]; exact hi), r⟩
      · rw [List.getElem?_eq_none (by rw [List.length_set]; omega)] at h; cases h
    · rw [List.getElem?_set_ne hj] at h ⊢
      rw [if_neg (fun z => hj z.symm)]
      exact s.sl j sv h
  ap := fun j a ha => by
    by_cases hj : j = i
    · rw [if_pos hj] at ha; exact absurd ha (by simp)
    · rw [if_neg hj] at ha; exact s.ap j a ha
  dj := fun j k a h1 h2 => by
    by_cases hj : j = i
    · rw [if_pos hj] at h1; exact absurd h1 (by simp)
    · by_cases hk : k = i
      · rw [if_pos hk] at h2; exact absurd h2 (by simp)
      · rw [if_neg hj] at h1; rw [if_neg hk] at h2; exact s.dj j k a h1 h2
  pn := fun j a h => by
    have hj : i ≠ j := fun e => by subst e; rw [hp] at h; cases h
    rw [List.getElem?_set_ne hj]; exact s.pn j a h
/-- a slot is set to a new object of its own -/
theorem StAt.setOw (s : StAt K E ρ σ H Hf A) {i : Nat} {d : D} {v : V} {B : List Addr} (r : Own K Hf H d v B) (hB0 : B ≠ []) (hp : E.pa i = none) (hB : ∀ a ∈ B, Hf a = none ∧ H a ≠ none ∧ E.H0 a = none ∧ ∀ j, a ∉ A j) : StAt K E (ρ.set i (some (.ow d))) (σ.set i (some v)) H Hf (fun j => if j = i then B else A j) where
  len := by rw [List.length_set, List.length_set]; exact s.len
  w0 := s.w0
  fh := s.fh
  fr := s.fr
  hh := s.hh
  kp := s.kp
  sl := fun j sv h => by
    by_cases hj : i = j
    · subst hj
      by_cases hi : i < ρ.length
      · rw [List.getElem?_set_self hi] at h; cases h
        exact ⟨v, List.getElem?_set_self (by rw [← s.len]; exact hi), by dsimp only; rw [if_pos rfl]; exact ⟨r, hB0⟩⟩
      · rw [List.getElem?_eq_none (by rw [List.length_set]; omega)] at h; cases h
    · rw [List.getElem?_set_ne hj] at h ⊢
      rw [if_neg (fun z => hj z.symm)]
      exact s.sl j sv h
  ap := fun j a ha => by
    by_cases hj : j = i
    · rw [if_pos hj] at ha; obtain ⟨h1, h2, h3, _⟩ := hB a ha; exact ⟨h1, h2, .inl h3⟩
    · rw [if_neg hj] at ha; exact s.ap j a ha
  dj := fun j k a h1 h2 => by
    by_cases hj : j = i
    · by_cases hk : k = i
      · rw [hj, hk]
      · rw [if_pos hj] at h1; rw [if_neg hk] at h2; exact absurd h2 ((hB a h1).2.2.2 k)
    · by_cases hk : k = i
      · rw [if_neg hj] at h1; rw [if_pos hk] at h2; exact absurd h1 ((hB a h2).2.2.2 j)
      · rw [if_neg hj] at h1; rw [if_neg hk] at h2; exact s.dj j k a h1 h2
  pn := fun j a h => by
    have hj : i ≠ j := fun e => by subst e; rw [hp] at h; cases h
    rw [List.getElem?_set_ne hj]; exact s.pn j a h
/-- the object of a slot is changed -/
theorem StAt.change (s : StAt K E ρ σ H Hf A) {i : Nat} {d d' : D} {a : Addr} {o : HO} {B : List Addr} (hi : ρ[i]? = some (some (.ow d))) (hv : σ[i]? = some (some (.ref a))) (ha : a ∈ A i) (hB0 : B ≠ []) (hB : ∀ b ∈ B, b ∈ A i)
    (r : Own K Hf (upd H a o) d' (.ref a) B) : StAt K E (ρ.set i (some (.ow d'))) σ (upd H a o) Hf (fun j => if j = i then B else A j) where
  len := by rw [List.length_set]; exact s.len
  w0 := s.w0
  fh := fun b u h => by rw [upd_ne (ne_of_none h (s.ap i a ha).1)]; exact s.fh b u h
  fr := s.fr
  hh := fun b u h1 h2 => by
    have : b ≠ a := fun e => by
      subst e
      rcases (s.ap i b ha).2.2 with q | q
      · rw [h1] at q; cases q
      · exact h2 q.1
    rw [upd_ne this]; exact s.hh b u h1 h2
  kp := fun b h => by
    by_cases e : b = a
    · subst e; rw [upd_same] at h; cases h
    · rw [upd_ne e] at h; exact s.kp b h
  sl := fun j sv h => by
    by_cases hj : i = j
    · subst hj
      have hl : i < ρ.length := (List.getElem?_eq_some_iff.mp hi).1
      rw [List.getElem?_set_self hl] at h; cases h
      exact ⟨_, hv, by dsimp only; rw [if_pos rfl]; exact ⟨r, hB0⟩⟩
    · rw [List.getElem?_set_ne hj] at h
      rw [if_neg (fun z => hj z.symm)]
      obtain ⟨v, e1, e2⟩ := s.sl j sv h
      refine ⟨v, e1, ?_⟩
      cases sv with
      | fz d => exact e2
      | ow d => exact ⟨Own.move e2.1 (.refl _) fun b hb => upd_ne fun e => by subst e; exact hj (s.dj _ _ _ ha hb), e2.2⟩
  ap := fun j b hb => by
    have hu : upd H a o b ≠ none := by
      by_cases e : b = a
      · subst e; rw [upd_same]; simp
      · rw [upd_ne e]
        by_cases hj : j = i
        · rw [if_pos hj] at hb; exact (s.ap i b (hB b hb)).2.1
        · rw [if_neg hj] at hb; exact (s.ap j b hb).2.1
    by_cases hj : j = i
    · rw [if_pos hj] at hb
      obtain ⟨h1, _, h3⟩ := s.ap i b (hB b hb)
      exact ⟨h1, hu, by rw [hj]; exact h3⟩
    · rw [if_neg hj] at hb
      obtain ⟨h1, _, h3⟩ := s.ap j b hb
      exact ⟨h1, hu, h3⟩
  dj := fun j k b h1 h2 => by
    have g : ∀ j, b ∈ (if j = i then B else A j) → b ∈ A j := fun j h => by
      by_cases hj : j = i
      · rw [if_pos hj] at h; rw [hj]; exact hB b h
      · rw [if_neg hj] at h; exact h
    exact s.dj j k b (g j h1) (g k h2)
  pn := s.pn
end

/-- an error: its class, and what its own __init__ wrote -/
structure Er where
  cls : Value
  fs : Option (List (Str × D))
def ErAt (K : PySem.W.Frag) (H : Hp) (er : Er) (d : Option Addr) : Prop := match er.fs with
  | none => d = none
  | some fds => ∃ dd vs, d = some dd ∧ H dd = some (.xd vs) ∧ vs.map (·.1) = fds.map (·.1) ∧ RepAll K (fun _ => none) (fds.map (·.2)) (vs.map (·.2))
inductive Out where
  | nx (ρ : RhoS) | rt (d : D) (ρ : RhoS) | bk (ρ : RhoS) | ct (ρ : RhoS) | ex (er : Er) (ρ : RhoS)
def RtOk (K : PySem.W.Frag) (E : Ent) (d : D) (ρ : RhoS) (v : V) (H : Hp) : Prop := ∃ σ Hf A W', StAt K E ρ σ H Hf A ∧ Ex Hf W' ∧ Ex W' H ∧ Fr E.W0 W' E.H0 ∧ (∀ i a, a ∈ A i → E.pa i ≠ none → W' a = none) ∧ Rep K W' d v
/-- the error er is taken where the names are worth ρ (at H, ahead of the error's making) -/
def ExOk (X : Cx) (E : Ent) (er : Er) (ρ : RhoS) : Prop := ∃ W : L2.WX, L2.Takes X W ∧ ∀ d σ H H', StOk X.K E ρ σ H → Ex H H' → ErAt X.K H' er d → (∀ dd, d = some dd → H dd = none) → W er.cls d σ H'
def OutOk (X : Cx) (E : Ent) (D : Ends) : Out → Prop
  | .nx ρ => ∀ σ H, StOk X.K E ρ σ H → D.nx σ H
  | .rt d ρ => ∀ v H, RtOk X.K E d ρ v H → D.rt v H
  | .bk ρ => ∀ σ H, StOk X.K E ρ σ H → D.bk σ H
  | .ct ρ => ∀ σ H, StOk X.K E ρ σ H → D.ct σ H
  | .ex er ρ => ExOk X E er ρ
def Ent.Pins (E : Ent) (pin : List Nat) : Prop := ∀ i, E.pa i ≠ none ↔ i ∈ pin
structure JS (X : Cx) (pin : List Nat) (st : Stmt) (ρ : RhoS) (Φ : Out → Prop) : Prop where
  run : ∀ (E : Ent) σ H (D : Ends), E.Pins pin → StOk X.K E ρ σ H → (∀ o, Φ o → OutOk X E D o) → wS X st D σ H
instance {X : Cx} {pin : List Nat} {st : Stmt} {ρ : RhoS} {Φ : Out → Prop} : CoeFun (JS X pin st ρ Φ) (fun _ => ∀ (E : Ent) σ H (D : Ends), E.Pins pin → StOk X.K E ρ σ H → (∀ o, Φ o → OutOk X E D o) → wS X st D σ H) := ⟨JS.run⟩
structure JSs (X : Cx) (pin : List Nat) (sts : List Stmt) (ρ : RhoS) (Φ : Out → Prop) : Prop where
  run : ∀ (E : Ent) σ H (D : Ends), E.Pins pin → StOk X.K E ρ σ H → (∀ o, Φ o → OutOk X E D o) → wSs X sts D σ H
instance {X : Cx} {pin : List Nat} {sts : List Stmt} {ρ : RhoS} {Φ : Out → Prop} : CoeFun (JSs X pin sts ρ Φ) (fun _ => ∀ (E : Ent) σ H (D : Ends), E.Pins pin → StOk X.K E ρ σ H → (∀ o, Φ o → OutOk X E D o) → wSs X sts D σ H) := ⟨JSs.run⟩
/-- what must hold behind a statement for the rest -/
def thenSs (X : Cx) (pin : List Nat) (rest : List Stmt) (Φ : Out → Prop) : Out → Prop
  | .nx ρ => JSs X pin rest ρ Φ
  | .rt d ρ => Φ (.rt d ρ)
  | .bk ρ => Φ (.bk ρ)
  | .ct ρ => Φ (.ct ρ)
  | .ex er ρ => Φ (.ex er ρ)
section
variable {X : Cx} {pin : List Nat} {st : Stmt} {rest a b : List Stmt} {ρ : RhoS} {Φ : Out → Prop} {e c : Expr} {d : D} {pos p' : Pos} {i : Nat} {x : Str} {t : Bool}
theorem Ent.Pins.none {E : Ent} (h : E.Pins pin) (hi : i ∉ pin) : E.pa i = none := by
  cases q : E.pa i with
  | none => rfl
  | some a => exact absurd ((h i).mp (by rw [q]; simp)) hi
theorem jss_nil (h : Φ (.nx ρ)) : JSs X pin [] ρ Φ := ⟨fun E σ H D _ s k => .of pss_nil (k _ h σ H s)⟩
theorem jss_cons (h : JS X pin st ρ (thenSs X pin rest Φ)) : JSs X pin (st :: rest) ρ Φ := ⟨fun E σ H D hp s k =>
  .of (pss_cons ps_w pss_w) (h E σ H _ hp s fun o ho => by
    cases o with
    | nx ρ' => exact fun σ' H' s' => JSs.run (show JSs X pin rest ρ' Φ from ho) E σ' H' D hp s' k
    | rt d ρ' => exact k _ ho
    | bk ρ' => exact k _ ho
    | ct ρ' => exact k _ ho
    | ex er ρ' => exact k _ ho)⟩
theorem JS.imp {Ψ : Out → Prop} (h : JS X pin st ρ Ψ) (k : ∀ o, Ψ o → Φ o) : JS X pin st ρ Φ := ⟨fun E σ H D hp s q => h E σ H D hp s fun o ho => q o (k o ho)⟩
theorem JSs.imp {Ψ : Out → Prop} (h : JSs X pin rest ρ Ψ) (k : ∀ o, Ψ o → Φ o) : JSs X pin rest ρ Φ := ⟨fun E σ H D hp s q => h E σ H D hp s fun o ho => q o (k o ho)⟩
theorem js_if (hc : JT X c (allR ρ) t) (h1 : t = true → JSs X pin a ρ Φ) (h2 : t = false → JSs X pin b ρ Φ) : JS X pin (.If c a b pos) ρ Φ := ⟨fun E σ H D hp ⟨Hf, A, s⟩ k =>
  .of (ps_if pt_w pss_w pss_w) (hc H σ H (.refl _) s.visH _ fun W' H' st => by
    have s' := s.grow st.hh
    cases t with
    | true => rw [if_pos rfl]; exact h1 rfl E σ H' D hp ⟨Hf, A, s'⟩ k
    | false => rw [if_neg Bool.false_ne_true]; exact h2 rfl E σ H' D hp ⟨Hf, A, s'⟩ k)⟩
theorem js_ifF (hc : JT X c (allR ρ) false) (h1 : JSs X pin b ρ Φ) : JS X pin (.If c a b pos) ρ Φ := js_if hc (fun z => Bool.noConfusion z) (fun _ => h1)
/-- flat data do not lean on the heap -/
theorem Rep.any {K : PySem.W.Frag} {H H' : Hp} {v : V} (r : Rep K H d v) (h : flatD d = true) : Rep K H' d v := by
  cases r with
  | non => exact .non
  | bl b => exact .bl b
  | int i => exact .int i
  | str x => exact .str x
  | _ => cases h
theorem js_set (h : J X e (fzR ρ) d) (hk : Φ (.nx (ρ.set i (some (.fz d))))) (hN : X.N.Nodup) (hi : X.N[i]? = some x := by rfl) (hx : Loc X.env.scope x := by first | exact Or.inl rfl | exact Or.inr rfl) (hp : i ∉ pin := by decide) (hs : swapsWith e (some (.Name x p')) pos.line X.env = pure false := by rfl)
    (hf : X.fn x = true ∨ X.env.scope.names.lookup x = some .local := by first | exact .inl rfl | exact .inr rfl) : JS X pin (.Assign [.Name x p'] e pos) ρ Φ := ⟨fun E σ H D hpn ⟨Hf, A, s⟩ k =>
  .of (ps_set hN hi hx pe_w hs hf) (h Hf σ H s.fh s.vis _ fun v W' H' st r => k _ hk _ H' ⟨W', _, (s.step st).setFz r (hpn.none hp)⟩)⟩
/-- the heap that a value handed back stands in: all that is new, but for what the own arguments hold -/
noncomputable def retW (E : Ent) (Hf H : Hp) (A : Nat → List Addr) : Hp := fun b =>
  haveI := Classical.propDecidable (∃ i, b ∈ A i ∧ E.pa i ≠ none)
  if ∃ i, b ∈ A i ∧ E.pa i ≠ none then none else match E.H0 b with
  | none => H b
  | some _ => Hf b
/-- own arguments hidden -/
def retR (pin : List Nat) (ρ : RhoS) : Rho := ρ.mapIdx fun i o => if i ∈ pin then o.bind SV.fzD else o.map SV.d
theorem retR_nil (ρ : RhoS) : retR [] ρ = allR ρ := by
  unfold retR allR
  apply List.ext_getElem?
  intro i
  rw [List.getElem?_mapIdx, List.getElem?_map]
  simp
section
variable {E : Ent} {σ : L2.St} {H Hf : Hp} {A : Nat → List Addr}
theorem retW_arg {b : Addr} (h : ∃ i, b ∈ A i ∧ E.pa i ≠ none) : retW E Hf H A b = none := by unfold retW; rw [if_pos h]
theorem retW_new {b : Addr} (hn : ¬ ∃ i, b ∈ A i ∧ E.pa i ≠ none) (h : E.H0 b = none) : retW E Hf H A b = H b := by unfold retW; rw [if_neg hn, h]
theorem retW_old {b : Addr} (hn : ¬ ∃ i, b ∈ A i ∧ E.pa i ≠ none) (h : E.H0 b ≠ none) : retW E Hf H A b = Hf b := by
  unfold retW
  rw [if_neg hn]
  cases q : E.H0 b with
  | none => exact absurd q h
  | some o => rfl
theorem StAt.retHf (s : StAt X.K E ρ σ H Hf A) : Ex Hf (retW E Hf H A) := fun b o h => by
  have hn : ¬ ∃ i, b ∈ A i ∧ E.pa i ≠ none := fun ⟨i, h1, _⟩ => by
    have := (s.ap i b h1).1
    rw [h] at this; cases this
  by_cases q : E.H0 b = none
  · rw [retW_new hn q]; exact s.fh b o h
  · rw [retW_old hn q]; exact h
theorem StAt.retH (s : StAt X.K E ρ σ H Hf A) : Ex (retW E Hf H A) H := fun b o h => by
  by_cases hn : ∃ i, b ∈ A i ∧ E.pa i ≠ none
  · rw [retW_arg hn] at h; cases h
  · by_cases q : E.H0 b = none
    · rw [retW_new hn q] at h; exact h
    · rw [retW_old hn q] at h; exact s.fh b o h
theorem StAt.visR (hp : E.Pins pin) (s : StAt X.K E ρ σ H Hf A) : Vis X.K (retR pin ρ) (retW E Hf H A) σ := by
  refine ⟨by unfold retR; rw [List.length_mapIdx]; exact s.len, fun i d h => ?_⟩
  unfold retR at h
  rw [List.getElem?_mapIdx] at h
  cases e : ρ[i]? with
  | none => rw [e] at h; cases h
  | some o =>
    rw [e] at h
    cases o with
    | none => simp at h
    | some sv =>
      obtain ⟨v, q1, q2⟩ := s.sl i sv e
      refine ⟨v, q1, ?_⟩
      cases sv with
      | fz d' =>
        have : d' = d := by simpa [SV.fzD, SV.d] using h
        subst this
        exact Rep.mono s.retHf q2
      | ow d' =>
        by_cases hi : i ∈ pin
        · simp [hi, SV.fzD] at h
        · have : d' = d := by simpa [hi, SV.d] using h
          subst this
          refine Own.rep q2.1 s.retHf fun a ha => ?_
          have hn : ¬ ∃ j, a ∈ A j ∧ E.pa j ≠ none := fun ⟨j, h1, h2⟩ => by
            have := s.dj i j a ha h1
            subst this
            exact hi ((hp i).mp h2)
          rcases (s.ap i a ha).2.2 with q | q
          · exact retW_new hn q
          · exact absurd ⟨i, ha, q.2⟩ hn
end
theorem js_retR (h : J X e (retR pin ρ) d) (hk : Φ (.rt d ρ)) : JS X pin (.Return (some e) pos) ρ Φ := ⟨fun E σ H D hp ⟨Hf, A, s⟩ k =>
  .of (ps_ret pe_w) (h (retW E Hf H A) σ H s.retH (s.visR hp) _ fun v W' H' st r => k _ hk v H' ⟨σ, Hf, A, W', s.grow st.hh, s.retHf.trans st.ww, st.wh, fun b h1 h2 => by
      by_cases q : retW E Hf H A b = none
      · exact s.kp b (st.fr b h1 q)
      · by_cases hn : ∃ i, b ∈ A i ∧ E.pa i ≠ none
        · exact absurd (retW_arg hn) q
        · by_cases z : E.H0 b = none
          · exact z
          · rw [retW_old hn z] at q; exact s.fr b q h2, fun i a ha hpa => by
      cases q : W' a with
      | none => rfl
      | some o => exact absurd (st.fr a (by rw [q]; simp) (retW_arg ⟨i, ha, hpa⟩)) (s.ap i a ha).2.1, r⟩)⟩
theorem js_ret (h : J X e (allR ρ) d) (hk : Φ (.rt d ρ)) : JS X [] (.Return (some e) pos) ρ Φ := js_retR (by rw [retR_nil]; exact h) hk
end
end Pf

namespace Pf
open PySem PyProof.Rows L2
open Evl (Ex)

section
variable {X : Cx} {pin : List Nat} {st : Stmt} {rest a b body : List Stmt} {ρ : RhoS} {Φ : Out → Prop} {e c tg iter : Expr} {es : List Expr} {d : D} {ds : List D} {pos p p' p1 p2 p3 : Pos} {i : Nat} {x : Str} {t : Bool}
  {K : PySem.W.Frag} {E : Ent} {σ : L2.St} {H Hf : Hp} {A : Nat → List Addr}
structure JN (X : Cx) (e : Expr) (ρ : Rho) (ds : List D) : Prop where
  run : ∀ W σ H, Ex W H → Vis X.K ρ W σ → ∀ Q : VK, (∀ (a : Addr) (W' H' : Hp) (vs : List V), Step W H W' H' → H a = none → W' a = none → H' a = some (.lst vs) → RepAll X.K W' ds vs → Q (.ref a) H') → wE X e σ H Q
instance {X : Cx} {e : Expr} {ρ : Rho} {ds : List D} : CoeFun (JN X e ρ ds) (fun _ => ∀ W σ H, Ex W H → Vis X.K ρ W σ → ∀ Q : VK, (∀ (a : Addr) (W' H' : Hp) (vs : List V), Step W H W' H' → H a = none → W' a = none → H' a = some (.lst vs) → RepAll X.K W' ds vs → Q (.ref a) H') → wE X e σ H Q) := ⟨JN.run⟩
theorem jn_lst {ρ : Rho} (h : JA X es ρ ds) (hl : ds.length ≤ sizeLine := by (simp only [List.length_cons, List.length_nil]; decide)) : JN X (.List es pos) ρ ds := ⟨fun W σ H ex hV Q g =>
  .of (pe_lst pa_w) (h W σ H ex hV _ fun vs W1 H1 s1 r1 => ⟨by rw [← r1.length]; exact hl, fun q hq =>
    g q W1 _ vs (s1.trans (.newH s1.wh hq)) (Evl.fresh_back s1.hh hq) (Evl.fresh_back s1.wh hq) upd_same r1⟩)⟩
theorem Own.newL {W : Hp} {a : Addr} {vs : List V} (h : H a = some (.lst vs)) (r : RepAll K W ds vs) (n : NoM ds) : Own K W H (.lst ds) (.ref a) [a] := .lst h (.fz r n) (by simp)
theorem StAt.newL (s : StAt K E ρ σ H Hf A) {W' H' : Hp} {a : Addr} {vs : List V} (st : Step Hf H W' H') (h1 : H a = none) (h2 : W' a = none) (h3 : H' a = some (.lst vs)) (r : RepAll K W' ds vs) (hp : E.pa i = none) (n : NoM ds) :
    StOk K E (ρ.set i (some (.ow (.lst ds)))) (σ.set i (some (.ref a))) H' :=
  ⟨W', _, (s.step st).setOw (.newL h3 r n) (by simp) hp fun b hb => by
    have e : b = a := by simpa using hb
    subst e
    exact ⟨h2, by rw [h3]; simp, s.kp b h1, fun j hj => (s.ap j b hj).2.1 h1⟩⟩
theorem js_setN (h : JN X e (fzR ρ) ds) (hk : Φ (.nx (ρ.set i (some (.ow (.lst ds)))))) (hN : X.N.Nodup) (hM : NoM ds := by (repeat (first | exact NoM.nil | exact NoM.map fun _ => rfl | exact NoM.fm fun _ => rfl | refine NoM.cons rfl ?_ | refine NoM.app ?_ ?_))) (hi : X.N[i]? = some x := by rfl) (hx : Loc X.env.scope x := by first | exact Or.inl rfl | exact Or.inr rfl) (hp : i ∉ pin := by decide) (hs : swapsWith e (some (.Name x p')) pos.line X.env = pure false := by rfl)
    (hf : X.fn x = true ∨ X.env.scope.names.lookup x = some .local := by first | exact .inl rfl | exact .inr rfl) : JS X pin (.Assign [.Name x p'] e pos) ρ Φ := ⟨fun E σ H D hpn ⟨Hf, A, s⟩ k =>
  .of (ps_set hN hi hx pe_w hs hf) (h Hf σ H s.fh s.vis _ fun a W' H' vs st h1 h2 h3 r => k _ hk _ H' (s.newL st h1 h2 h3 r (hpn.none hp) hM))⟩
theorem OwnAll.snoc {vs : List V} {v : V} {B : List Addr} (h : OwnAll K Hf H ds vs B) (r : Rep K Hf d v) (n : insM d = false) : OwnAll K Hf H (ds ++ [d]) (vs ++ [v]) B := by
  have := h.append (OwnAll.fz (.cons r .nil) (.cons n .nil)) (fun _ _ => by simp)
  rwa [List.append_nil] at this
theorem OwnAll.move {vs : List V} {B : List Addr} {Hf' H' : Hp} (h : OwnAll K Hf H ds vs B) (e : Ex Hf Hf') (k : ∀ a ∈ B, H' a = H a) : OwnAll K Hf' H' ds vs B := by
  refine OwnAll.rec (motive_1 := fun d v A _ => Ex Hf Hf' → (∀ a ∈ A, H' a = H a) → Own K Hf' H' d v A) (motive_2 := fun ds vs A _ => Ex Hf Hf' → (∀ a ∈ A, H' a = H a) → OwnAll K Hf' H' ds vs A) (motive_3 := fun ds vs A _ => Ex Hf Hf' → (∀ a ∈ A, H' a = H a) → OwnFs K Hf' H' ds vs A) ?_ ?_ ?_ ?_ ?_ ?_ ?_ ?_ h e k
  · exact fun r e _ => .fz (r.mono e)
  · exact fun h1 _ n ih e k => .lst (by rw [k _ List.mem_cons_self]; exact h1) (ih e fun a ha => k a (List.mem_cons_of_mem _ ha)) n
  · exact fun h1 q _ n ih e k => .dct (by rw [k _ List.mem_cons_self]; exact h1) q (ih e fun a ha => k a (List.mem_cons_of_mem _ ha)) n
  · exact fun h1 q _ n ih e k => .ins (by rw [k _ List.mem_cons_self]; exact h1) q (ih e fun a ha => k a (List.mem_cons_of_mem _ ha)) n
  · exact fun _ _ => .nil
  · exact fun _ _ n w i1 i2 e k => .cons (i1 e fun a ha => k a (List.mem_append_left _ ha)) (i2 e fun a ha => k a (List.mem_append_right _ ha)) n w
  · exact fun _ _ => .nil
  · exact fun _ _ n w i1 i2 e k => .cons (i1 e fun a ha => k a (List.mem_append_left _ ha)) (i2 e fun a ha => k a (List.mem_append_right _ ha)) n w
theorem OwnFs.move {Hf' H' : Hp} : ∀ {ds : List D} {vs : List V} {B : List Addr}, OwnFs K Hf H ds vs B → Ex Hf Hf' → (∀ a ∈ B, H' a = H a) → OwnFs K Hf' H' ds vs B
  | _, _, _, .nil, _, _ => .nil
  | _, _, _, .cons a b n w, e, k => .cons (a.move e fun x hx => k x (List.mem_append_left _ hx)) (OwnFs.move b e fun x hx => k x (List.mem_append_right _ hx)) n w
theorem js_append (hi : ρ[i]? = some (some (.ow (.lst ds)))) (h : J X e (fzR ρ) d) (hl : ds.length < sizeLine) (hk : Φ (.nx (ρ.set i (some (.ow (.lst (ds ++ [d]))))))) (hM : insM d = false := by rfl) (hN : X.N[i]? = some x := by rfl) (hv : L2.Vis X.env.scope x := by first | exact Or.inl rfl | exact Or.inr (Or.inl rfl))
    (hd : (x == ("__debug__" : Str)) = false := by decide) (hcd : (x == ("__classdict__" : Str)) = false := by decide) (hst : starEach [e] X.env = (false, eval e X.env) :: starEach [] X.env := by rfl)
    (hfew : ((backTo p3 (starEach [e] X.env)).all (fun x => !x.1) && (backToKw p3 (keywordEach [] X.env)).all (fun x => x.1.isSome) && decide ([e].length + ([] : List Keyword).length + (if ([] : List Keyword).isEmpty then 0 else 1) < 30)) = true := by rfl)
    (hline : (p2.endLine == p3.line) = true := by rfl)
    (hs : swapsWith (.Call (.Attribute (.Name x p1) "append" p2) [e] [] p3) none pos.line X.env = pure false := by rfl) : JS X pin (.Expr (.Call (.Attribute (.Name x p1) "append" p2) [e] [] p3) pos) ρ Φ := ⟨fun E σ H D hpn ⟨Hf, A, s⟩ k => by
  refine .of (ps_expr (pe_bm PySem.F.plainAttrs_list PySem.F.slot_list_append PySem.F.type_list_append mt_append (pe_var hN hv hd hcd) (pa_cons pe_w pa_nil hst) rfl hfew hline hst) hs) ?_
  obtain ⟨v, hσ, ow, ne⟩ := s.sl i _ hi
  generalize hA : A i = Ai at ow ne
  cases ow with
  | fz _ => exact absurd rfl ne
  | @lst l vs _ B hl1 ha nB =>
    refine ⟨_, hσ, .inl ⟨rfl, _, SqL.of hl1⟩, ?_⟩
    refine h Hf σ H s.fh s.vis _ fun y W' H' st r => ?_
    have s' := s.step st
    have hl2 := st.hh _ _ hl1
    refine ⟨l, vs, y, rfl, rfl, hl2, by rw [← ha.length]; exact hl, ?_⟩
    have hm : l ∈ A i := by rw [hA]; exact List.mem_cons_self
    have k1 : ∀ a ∈ B, upd H' l (.lst (vs ++ [y])) a = H a := fun a haB => by
      rw [upd_ne (fun z => by subst z; exact nB haB)]
      have := (s.ap i a (by rw [hA]; exact List.mem_cons_of_mem _ haB)).2.1
      cases q : H a with
      | none => exact absurd q this
      | some o => exact st.hh _ _ q
    exact k _ hk _ _ ⟨W', _, s'.change (B := l :: B) hi hσ hm (by simp) (fun b hb => by rw [hA]; exact hb) (.lst upd_same ((ha.move st.ww k1).snoc r hM) nB)⟩⟩

def Pat.setS : Pat → D → RhoS → Option RhoS
  | .nm i, d, ρ => some (ρ.set i (some (.fz d)))
  | .tp is, .tup ds, ρ => if ds.length = is.length then some (setAll ρ is (ds.map SV.fz)) else none
  | .tp _, _, _ => none
  | .tn ps, .tup ds, ρ => setC SV.fz ps ds ρ
  | .tn _, _, _ => none
theorem setAllFz {i : Nat} : ∀ (is : List Nat) {ds : List D} {vs : List V} {ρ : RhoS} {σ : L2.St} {A : Nat → List Addr}, StAt K E ρ σ H Hf A → RepAll K Hf ds vs → ds.length = is.length → (∀ i ∈ is, E.pa i = none) → ∃ A', StAt K E (setAll ρ is (ds.map SV.fz)) (setAll σ is vs) H Hf A'
  | [], _, _, _, _, _, s, .nil, _, _ => ⟨_, s⟩
  | i :: is, _, _, _, _, _, s, .cons r t, e, hp => setAllFz (i := i) is (s.setFz r (hp i List.mem_cons_self)) t (by simpa using e) fun j hj => hp j (List.mem_cons_of_mem _ hj)
  | [], _, _, _, _, _, _, .cons _ _, e, _ => by simp at e
  | _ :: _, _, _, _, _, _, _, .nil, e, _ => by simp at e
theorem gComps_runS : ∀ (ps : List (Nat ⊕ List Nat)) {ds : List D} {vs : List V} {ρ ρ' : RhoS} {σ : L2.St} {A : Nat → List Addr} {Q : L2.St → Hp → Prop}, StAt K E ρ σ H Hf A → RepAll K Hf ds vs → setC SV.fz ps ds ρ = some ρ' → (∀ i ∈ slotsC ps, E.pa i = none) →
    (∀ σ' A', StAt K E ρ' σ' H Hf A' → Q σ' H) → gComps K ps vs σ H Q
  | [], _, _, ρ, ρ', σ, A, Q, s, .nil, hs, hp, q => by cases hs; exact ⟨rfl, q σ A s⟩
  | [], _, _, ρ, ρ', σ, A, Q, s, .cons _ _, hs, hp, q => by cases hs
  | .inl i :: ps, _, _, ρ, ρ', σ, A, Q, s, .nil, hs, hp, q => by cases hs
  | .inr is :: ps, _, _, ρ, ρ', σ, A, Q, s, .nil, hs, hp, q => by cases hs
  | .inl i :: ps, _, v :: vs, ρ, ρ', σ, A, Q, s, .cons r t, hs, hp, q => ⟨v, vs, rfl, gComps_runS ps (s.setFz r (hp i (List.mem_cons_self))) t hs (fun j hj => hp j (List.mem_cons_of_mem _ hj)) q⟩
  | .inr is :: ps, d :: ds, v :: vs, ρ, ρ', σ, A, Q, s, .cons r t, hs, hp, q => by
    cases r with
    | @tup a us es h1 k =>
      simp only [setC] at hs
      split at hs
      · rename_i hl
        obtain ⟨A', s'⟩ := setAllFz (i := 0) is s k hl fun j hj => hp j (List.mem_append_left _ hj)
        exact ⟨_, vs, rfl, a, us, rfl, Evl.ex_t s.fh h1, by rw [← k.length]; exact hl, gNames_run is (by rw [← k.length]; exact hl) (gComps_runS ps s' t hs (fun j hj => hp j (List.mem_append_right _ hj)) q)⟩
      · cases hs
    | _ => cases hs
theorem setC_len {α : Type} {f : D → α} : ∀ (ps : List (Nat ⊕ List Nat)) {ds : List D} {ρ ρ' : List (Option α)}, setC f ps ds ρ = some ρ' → ds.length = ps.length
  | [], [], _, _, _ => rfl
  | [], _ :: _, _, _, h => by cases h
  | .inl _ :: _, [], _, _, h => by cases h
  | .inr _ :: _, [], _, _, h => by cases h
  | .inl i :: ps, d :: ds, ρ, ρ', h => congrArg (· + 1) (setC_len ps (ds := ds) h)
  | .inr is :: ps, d :: ds, ρ, ρ', h => by
    cases d <;> simp only [setC] at h <;> first | cases h | skip
    split at h
    · exact congrArg (· + 1) (setC_len ps (ds := ds) h)
    · cases h
theorem Pat.runS {pat : Pat} {ρ' : RhoS} {v : V} (s : StAt K E ρ σ H Hf A) (r : Rep K Hf d v) (hs : pat.setS d ρ = some ρ') (hp : ∀ i ∈ pat.slots, E.pa i = none) {Q : L2.St → Hp → Prop} (q : ∀ σ' A', StAt K E ρ' σ' H Hf A' → Q σ' H) : pat.g K v σ H Q := by
  cases pat with
  | nm i => cases hs; exact q _ _ (s.setFz r (hp i (List.mem_singleton.mpr rfl)))
  | tp is =>
    cases r with
    | tup h1 k =>
      simp only [Pat.setS] at hs
      split at hs
      · rename_i hl
        cases hs
        obtain ⟨A', s'⟩ := setAllFz (i := 0) is s k hl hp
        exact ⟨_, _, rfl, Evl.ex_t s.fh h1, by rw [← k.length]; exact hl, gNames_run is (by rw [← k.length]; exact hl) (q _ _ s')⟩
      · cases hs
    | _ => cases hs
  | tn ps =>
    cases r with
    | tup h1 k => exact ⟨_, _, rfl, Evl.ex_t s.fh h1, by rw [← k.length]; exact setC_len ps hs, gComps_runS ps s k hs hp q⟩
    | _ => cases hs
/-- a, b = e -/
theorem js_pat {pat : Pat} {ρ' : RhoS} (h : J X e (fzR ρ) d) (hset : pat.setS d ρ = some ρ') (hk : Φ (.nx ρ')) (hg : PG X tg (pat.g X.K)) (hp : ∀ i ∈ pat.slots, i ∉ pin := by decide) (hs : swapsWithSole [tg] e pos.line X.env = pure false := by rfl) (hw : swappedStores [tg] e X.env = pure none := by rfl)
    (h1 : (assignEach [tg] X.env).map (·.2) = [assign tg X.env] := by rfl) : JS X pin (.Assign [tg] e pos) ρ Φ := ⟨fun E σ H D hpn ⟨Hf, A, s⟩ k =>
  .of (ps_asg pe_w hg hs hw h1) (h Hf σ H s.fh s.vis _ fun v W' H' st r => Pat.runS (s.step st) r hset (fun i hi => hpn.none (hp i hi)) fun σ' A' s' => k _ hk σ' H' ⟨W', A', s'⟩)⟩

structure JP (X : Cx) (e : Expr) (ρ : Rho) (P : D → Prop) : Prop where
  run : ∀ W σ H, Ex W H → Vis X.K ρ W σ → ∀ Q : VK, (∀ d, P d → GoodE X.K W H d Q) → wE X e σ H Q
instance {X : Cx} {e : Expr} {ρ : Rho} {P : D → Prop} : CoeFun (JP X e ρ P) (fun _ => ∀ W σ H, Ex W H → Vis X.K ρ W σ → ∀ Q : VK, (∀ d, P d → GoodE X.K W H d Q) → wE X e σ H Q) := ⟨JP.run⟩
theorem jp_call {ρ : Rho} {k j n : Nat} {G : List D → (D → Prop) → Prop} {P : D → Prop} (c : PFn X.prog X.w X.K X.mg X.base k x n G) (hr : Room j X.A) (ha : JA X (e :: es) ρ ds) (hG : G ds P) (hk : k ≤ j := by decide) (hn : ds.length = n := by rfl) (hg : Gl X x := by rfl) (hdb : (x == ("__debug__" : Str)) = false := by decide)
    (he : starEach (e :: es) X.env = (false, eval e X.env) :: starEach es X.env := by rfl) (hpl : (backTo pos (starEach es X.env)).any (·.1) = false := by rfl) : JP X (.Call (.Name x p) (e :: es) [] pos) ρ P := ⟨fun W σ H ex hV Q g => by
  obtain ⟨f, fd, ps, F, hm, hkp, hb⟩ := c.ex
  refine .of (pe_call (F.mono hk) hr hg hm hkp hb .nil pass0 pa_w hdb he hpl) (ha W σ H ex hV _ fun vs W1 H1 s1 r1 => ?_)
  rw [List.append_nil]
  exact ⟨by rw [← r1.length]; exact hn, W1, ds, P, s1.wh, r1, hG, fun d' hd => (g d' hd).step s1⟩⟩
theorem js_setP {P : D → Prop} (h : JP X e (fzR ρ) P) (hk : ∀ d, P d → Φ (.nx (ρ.set i (some (.fz d))))) (hN : X.N.Nodup) (hi : X.N[i]? = some x := by rfl) (hx : Loc X.env.scope x := by first | exact Or.inl rfl | exact Or.inr rfl) (hp : i ∉ pin := by decide) (hs : swapsWith e (some (.Name x p')) pos.line X.env = pure false := by rfl)
    (hf : X.fn x = true ∨ X.env.scope.names.lookup x = some .local := by first | exact .inl rfl | exact .inr rfl) : JS X pin (.Assign [.Name x p'] e pos) ρ Φ := ⟨fun E σ H D hpn ⟨Hf, A, s⟩ k =>
  .of (ps_set hN hi hx pe_w hs hf) (h Hf σ H s.fh s.vis _ fun d hd v W' H' st r => k _ (hk d hd) _ H' ⟨W', _, (s.step st).setFz r (hpn.none hp)⟩)⟩
theorem StAt.base {W1 : Hp} (s : StAt K { E with W0 := W1 } ρ σ H Hf A) (e : Ex E.W0 W1) (f : Fr E.W0 W1 E.H0) : StAt K E ρ σ H Hf A :=
  ⟨s.len, e.trans s.w0, s.fh, fun b h1 h2 => by
    by_cases z : W1 b = none
    · exact s.fr b h1 z
    · exact f b z h2, s.hh, s.kp, s.sl, s.ap, s.dj, s.pn⟩
theorem StAt.rebase (s : StAt K E ρ σ H Hf A) : StAt K { E with W0 := Hf } ρ σ H Hf A :=
  ⟨s.len, .refl _, s.fh, fun b h1 h2 => absurd h2 h1, s.hh, s.kp, s.sl, s.ap, s.dj, s.pn⟩
theorem RtOk.base {W1 : Hp} {v : V} (s : RtOk K { E with W0 := W1 } d ρ v H) (e : Ex E.W0 W1) (f : Fr E.W0 W1 E.H0) : RtOk K E d ρ v H := by
  obtain ⟨σ, Hf, A, W', s, h1, h2, h3, h4, h5⟩ := s
  exact ⟨σ, Hf, A, W', s.base e f, h1, h2, fun b q1 q2 => by
    by_cases z : W1 b = none
    · exact h3 b q1 z
    · exact f b z q2, h4, h5⟩
/-- what a turn's outcome must be -/
def turnO (I : RhoS → Prop) (Φ : Out → Prop) : Out → Prop
  | .nx ρ => I ρ
  | .ct ρ => I ρ
  | .bk ρ => Φ (.nx ρ)
  | .rt d ρ => Φ (.rt d ρ)
  | .ex er ρ => Φ (.ex er ρ)
/-- what is walked, known by a property -/
structure JIP (X : Cx) (tg iter : Expr) (ρ : Rho) (Pd : List D → Prop) : Prop where
  run : ∀ W σ H, Ex W H → Vis X.K ρ W σ → ∀ R : It → Hp → Prop, (∀ ds, Pd ds → ∀ J W1 H1, Step W H W1 H1 → Walks X.K J W1 ds → R J H1) → wI X tg iter σ H R
instance {X : Cx} {tg iter : Expr} {ρ : Rho} {Pd : List D → Prop} : CoeFun (JIP X tg iter ρ Pd) (fun _ => ∀ W σ H, Ex W H → Vis X.K ρ W σ → ∀ R : It → Hp → Prop, (∀ ds, Pd ds → ∀ J W1 H1, Step W H W1 H1 → Walks X.K J W1 ds → R J H1) → wI X tg iter σ H R) := ⟨JIP.run⟩
theorem jip_of {ρ : Rho} (h : JI X tg iter ρ ds) : JIP X tg iter ρ (fun es => es = ds) := ⟨fun W σ H ex hV R g => h W σ H ex hV R (g ds rfl)⟩
theorem js_forP {pat : Pat} {Pd : List D → Prop} (I : List D → Nat → RhoS → Prop) (hi : JIP X tg iter (fzR ρ) Pd) (hg : PG X tg (pat.g X.K)) (h0 : ∀ ds, Pd ds → I ds 0 ρ)
    (turn : ∀ ds, Pd ds → ∀ k d ρ, ds[k]? = some d → I ds k ρ → ∃ ρ', pat.setS d ρ = some ρ' ∧ JSs X pin body ρ' (turnO (I ds (k + 1)) Φ)) (done : ∀ ds, Pd ds → ∀ ρ, I ds ds.length ρ → Φ (.nx ρ)) (hps : PassesOwn (model X.prog X.w) X.A X.env X.xe) (hp : ∀ i ∈ pat.slots, i ∉ pin := by decide) (hc : X.calm = true := by rfl) (hfs : ∀ x, foldedSetIterable iter X.env x = pure x := by intro _; rfl) :
    JS X pin (.For tg iter body [] pos) ρ Φ := ⟨fun E σ H D hpn ⟨Hf, A, s⟩ k => by
  refine .of (ps_for hps hc pi_w hg pss_w hfs) (hi Hf σ H s.fh s.vis _ fun ds hds Jt W1 H1 st wk => ?_)
  have s1 := s.step st
  have e1 : Ex E.W0 W1 := s1.w0
  have f1 : Fr E.W0 W1 E.H0 := s1.fr
  refine ⟨fun i m σ' H' => m = ds.length - i ∧ i ≤ ds.length ∧ ∃ ρ', I ds i ρ' ∧ StOk X.K { E with W0 := W1 } ρ' σ' H', ⟨_, rfl, Nat.zero_le _, ρ, h0 ds hds, _, _, s1.rebase⟩, ?_⟩
  rintro i m σ2 H2 ⟨rfl, hil, ρ2, hI, Hf2, A2, s2⟩
  by_cases hlt : i < ds.length
  · refine .inr ⟨wk.go i H2 (s2.w0.trans s2.fh) hlt, _, fun σ' H' z => ⟨_, (by omega : ds.length - (i + 1) < ds.length - i), rfl, hlt, z⟩, fun x H3 hy => ?_⟩
    obtain ⟨d, hd⟩ : ∃ d, ds[i]? = some d := ⟨ds[i], by simp [hlt]⟩
    obtain ⟨W3, st3, rx⟩ := wk.yld i H2 x H3 d (s2.w0.trans s2.fh) hd hy Hf2 s2.w0 s2.fh
    obtain ⟨ρ3, hset, hb⟩ := turn ds hds i d ρ2 hd hI
    refine Pat.runS (s2.step st3) rx hset (fun j hj => hpn.none (hp j hj)) fun σ4 A4 s4 => hb { E with W0 := W1 } σ4 H3 _ hpn ⟨W3, A4, s4⟩ fun o ho => ?_
    cases o with
    | nx ρ' => exact fun σ' H' s' => ⟨ρ', ho, s'⟩
    | ct ρ' => exact fun σ' H' s' => ⟨ρ', ho, s'⟩
    | bk ρ' => exact fun σ' H' ⟨Hf', A', s'⟩ => k _ ho σ' H' ⟨Hf', A', s'.base e1 f1⟩
    | rt d ρ' => exact fun v H' s' => k _ ho v H' (s'.base e1 f1)
    | ex er ρ' =>
      obtain ⟨Wx, tk, q⟩ := k _ ho
      exact ⟨Wx, tk, fun d σ' H' H2' ⟨Hf', A', s'⟩ => q d σ' H' H2' ⟨Hf', A', s'.base e1 f1⟩⟩
  · have e : i = ds.length := by omega
    subst e
    exact .inl ⟨wk.stop H2 (s2.w0.trans s2.fh), k _ (done ds hds _ hI) σ2 H2 ⟨Hf2, A2, s2.base e1 f1⟩⟩⟩
theorem js_for {pat : Pat} (I : Nat → RhoS → Prop) (hi : JI X tg iter (fzR ρ) ds) (hg : PG X tg (pat.g X.K)) (h0 : I 0 ρ)
    (turn : ∀ k d ρ, ds[k]? = some d → I k ρ → ∃ ρ', pat.setS d ρ = some ρ' ∧ JSs X pin body ρ' (turnO (I (k + 1)) Φ)) (done : ∀ ρ, I ds.length ρ → Φ (.nx ρ)) (hps : PassesOwn (model X.prog X.w) X.A X.env X.xe) (hp : ∀ i ∈ pat.slots, i ∉ pin := by decide) (hc : X.calm = true := by rfl) (hfs : ∀ x, foldedSetIterable iter X.env x = pure x := by intro _; rfl) :
    JS X pin (.For tg iter body [] pos) ρ Φ :=
  js_forP (fun _ k ρ => I k ρ) (jip_of hi) hg (fun _ _ => h0) (fun es e k d ρ hd => turn k d ρ (e ▸ hd)) (fun es e ρ h => done ρ (e ▸ h)) hps hp hc hfs
/-- a list that a call hands back, walked -/
theorem jip_call {ρ : Rho} {P : D → Prop} {Pd : List D → Prop} (h : JP X iter ρ P) (hP : ∀ d, P d → ∃ ds, d = .lst ds ∧ Pd ds) : JIP X tg iter ρ Pd := ⟨fun W σ H ex hV R g => .of (pi_list pe_w) (h W σ H ex hV _ fun d hd v W1 H1 s1 r1 => by
  obtain ⟨ds, rfl, hds⟩ := hP d hd
  cases r1 with
  | lst h1 k => exact ⟨_, rfl, ⟨_, SqL.of (s1.wh _ _ h1)⟩, g ds hds _ W1 H1 s1 (walks_list h1 k)⟩)⟩
theorem js_while (I : RhoS → Prop) (μ : RhoS → Nat) (h0 : I ρ)
    (turn : ∀ ρ, I ρ → ∃ t, JT X c (allR ρ) t ∧ (t = true → JSs X pin body ρ (turnO (fun ρ' => I ρ' ∧ μ ρ' < μ ρ) Φ)) ∧ (t = false → Φ (.nx ρ))) (hps : PassesOwn (model X.prog X.w) X.A X.env X.xe) :
    JS X pin (.While c body [] pos) ρ Φ := ⟨fun E σ H D hpn s0 k => by
  refine .of (ps_while hps pt_w pss_w) ⟨fun m σ' H' => ∃ ρ', m = μ ρ' ∧ I ρ' ∧ StOk X.K E ρ' σ' H', ⟨_, ρ, rfl, h0, s0⟩, ?_⟩
  rintro m σ2 H2 ⟨ρ2, rfl, hI, Hf2, A2, s2⟩
  obtain ⟨t, ht, h1, h2⟩ := turn ρ2 hI
  refine ht H2 σ2 H2 (.refl _) s2.visH _ fun W' H' st => ?_
  have s3 := s2.grow st.hh
  cases t with
  | false => rw [if_neg Bool.false_ne_true]; exact k _ (h2 rfl) σ2 H' ⟨Hf2, A2, s3⟩
  | true =>
    rw [if_pos rfl]
    refine ⟨_, fun σ' H' z => z, h1 rfl E σ2 H' _ hpn ⟨Hf2, A2, s3⟩ fun o ho => ?_⟩
    cases o with
    | nx ρ' => exact fun σ' H' s' => ⟨μ ρ', ho.2, ρ', rfl, ho.1, s'⟩
    | ct ρ' => exact fun σ' H' s' => ⟨μ ρ', ho.2, ρ', rfl, ho.1, s'⟩
    | bk ρ' => exact fun σ' H' s' => k _ ho σ' H' s'
    | rt d ρ' => exact fun v H' s' => k _ ho v H' s'
    | ex er ρ' => exact k _ ho⟩
end

def startR (N : List Str) (ds : List D) : RhoS := ds.map (fun d => some (.fz d)) ++ List.replicate (N.length - ds.length) none
theorem start_ok {K : PySem.W.Frag} {W H : Hp} {N : List Str} {ds : List D} {vs : List V} (ex : Ex W H) (r : RepAll K W ds vs) : StAt K ⟨W, H, fun _ => False, fun _ => none⟩ (startR N ds) (L2.start N vs) H W (fun _ => []) where
  len := by unfold startR L2.start; simp [r.length]
  w0 := .refl _
  fh := ex
  fr := fun b h1 h2 => absurd h2 h1
  hh := fun b o h _ => h
  kp := fun b h => h
  sl := fun i sv h => by
    unfold startR at h
    by_cases hi : i < ds.length
    · rw [List.getElem?_append_left (by simpa using hi), List.getElem?_map] at h
      cases e : ds[i]? with
      | none => rw [e] at h; cases h
      | some d =>
        rw [e] at h; cases h
        obtain ⟨v, h1, h2⟩ := r.get e
        refine ⟨v, ?_, h2⟩
        unfold L2.start
        rw [List.getElem?_append_left (by rw [List.length_map, ← r.length]; exact hi), List.getElem?_map, h1]
        rfl
    · rw [List.getElem?_append_right (by simpa using hi), List.getElem?_replicate] at h
      split at h <;> cases h
  ap := fun i a h => absurd h (by simp)
  dj := fun i j a h => absurd h (by simp)
  pn := fun i a h => by cases h
section
variable {P : Program} {w : World} {K : PySem.W.Frag} {mg : Str → Option Value} {base : Heap} {x qual : Str} {st : Stmt} {f : Addr} {fd : FuncData} {N ps : List Str} {k : Nat} {G : List D → (D → Prop) → Prop}
/-- the end of a def's body -/
def fin (Pd : D → Prop) : Out → Prop
  | .rt d _ => Pd d
  | .nx _ => Pd .non
  | _ => False
theorem fn_pure (F : Fun K x qual st f fd) (S : FnScope N ps (defScope st)) (hG : ∀ ds Pd, G ds Pd → ds.length = ps.length)
    (body : ∀ (cdv : Value) (A : Around) (outer : List Env) (s : Shared) (H : Hp) (E : XK) (ds : List D) (Pd : D → Prop), Room k (A.deeper (envOfC qual (defScope st) s.heap.objs.size f cdv)) → G ds Pd →
      JSs (cxOf CX0 P w K mg base N qual (defScope st) f cdv A outer s H E).nox [] (defBody st) (startR N ds) (fin Pd)) : FnOk P w K mg base CX0 (k + 1) f fd ps (spP K ps.length G) := by
  refine F.ok S (fun vs H Q E h => h.1) fun cdv A outer s H vs Q E hr h => ?_
  obtain ⟨_, W, ds, Pd, ex, r, hg, q⟩ := h
  refine ⟨_, pss_w, ?_⟩
  refine body cdv A outer s H E ds Pd hr hg ⟨W, H, fun _ => False, fun _ => none⟩ (L2.start N vs) H _ (fun i => ⟨fun z => absurd rfl z, fun z => absurd z (by simp)⟩) ⟨W, _, start_ok ex r⟩ fun o ho => ?_
  cases o with
  | nx ρ => exact fun σ' H' ⟨Hf, A', s'⟩ => q _ ho .non Hf H' ⟨s'.w0, s'.fh, fun b o h => s'.hh b o h (fun z => z), s'.fr⟩ .non
  | rt d ρ => exact fun v H' ⟨σ', Hf, A', W', s', h1, h2, h3, _, h5⟩ => q _ ho v W' H' ⟨s'.w0.trans h1, h2, fun b o h => s'.hh b o h (fun z => z), h3⟩ h5
  | bk ρ => exact ho.elim
  | ct ρ => exact ho.elim
  | ex er ρ => exact ho.elim
end
end Pf

namespace Pf
open PySem PyProof.Rows L2
open Evl (Ex)

section
variable {X : Cx} {pin : List Nat} {e a o : Expr} {es : List Expr} {ρ : Rho} {d : D} {ds : List D} {C : Addr} {fds : List (Str × D)} {pos p apos : Pos} {f m : Str} {k j n i : Nat}
end

section
variable {P : Program} {w : World} {K : PySem.W.Frag} {mg : Str → Option Value} {base : Heap} {x qual : Str} {st : Stmt} {f : Addr} {fd : FuncData} {N ps : List Str} {k : Nat} {G : D → List D → (D → D → Prop) → Prop}
end

structure JM (X : Cx) (pin : List Nat) (e : Expr) (ρ : RhoS) (Ψ : D → RhoS → Prop) : Prop where
  run : ∀ (E : Ent) σ H, E.Pins pin → StOk X.K E ρ σ H → ∀ Q : VK, (∀ r ρ', Ψ r ρ' → ∀ v H' Hf A, StAt X.K E ρ' σ H' Hf A → Rep X.K Hf r v → Q v H') → wE X e σ H Q
instance {X : Cx} {pin : List Nat} {e : Expr} {ρ : RhoS} {Ψ : D → RhoS → Prop} : CoeFun (JM X pin e ρ Ψ) (fun _ => ∀ (E : Ent) σ H, E.Pins pin → StOk X.K E ρ σ H → ∀ Q : VK, (∀ r ρ', Ψ r ρ' → ∀ v H' Hf A, StAt X.K E ρ' σ H' Hf A → Rep X.K Hf r v → Q v H') → wE X e σ H Q) := ⟨JM.run⟩
structure JTM (X : Cx) (pin : List Nat) (e : Expr) (ρ : RhoS) (Ψ : Bool → RhoS → Prop) : Prop where
  run : ∀ (E : Ent) σ H, E.Pins pin → StOk X.K E ρ σ H → ∀ Q : Bool → Hp → Prop, (∀ r ρ', Ψ r ρ' → ∀ H', StOk X.K E ρ' σ H' → Q r H') → wT X e σ H Q
instance {X : Cx} {pin : List Nat} {e : Expr} {ρ : RhoS} {Ψ : Bool → RhoS → Prop} : CoeFun (JTM X pin e ρ Ψ) (fun _ => ∀ (E : Ent) σ H, E.Pins pin → StOk X.K E ρ σ H → ∀ Q : Bool → Hp → Prop, (∀ r ρ', Ψ r ρ' → ∀ H', StOk X.K E ρ' σ H' → Q r H') → wT X e σ H Q) := ⟨JTM.run⟩
section
variable {X : Cx} {pin : List Nat} {e a o c : Expr} {es sa sb : List Expr} {ρ : RhoS} {d : D} {ds : List D} {C : Addr} {fds : List (Str × D)} {pos p p1 p' apos : Pos} {f m x : Str} {k j n i : Nat} {G : D → List D → (D → D → Prop) → Prop} {P : D → D → Prop} {Φ : Out → Prop}
theorem JM.imp {Ψ Ψ' : D → RhoS → Prop} (h : JM X pin e ρ Ψ) (k : ∀ r ρ', Ψ r ρ' → Ψ' r ρ') : JM X pin e ρ Ψ' := ⟨fun E σ H hp s Q g => h E σ H hp s Q fun r ρ' z => g r ρ' (k r ρ' z)⟩
def putD (f : Str) (v : D) : List (Str × D) → List (Str × D)
  | [] => [(f, v)]
  | (g, u) :: r => if g = f then (g, v) :: r else (g, u) :: putD f v r
theorem putD_names {f : Str} {d : D} {v : V} : ∀ {fds : List (Str × D)} {fs : List (Str × V)}, fs.map (·.1) = fds.map (·.1) → (putF f v fs).map (·.1) = (putD f d fds).map (·.1)
  | [], [], _ => rfl
  | [], _ :: _, h => by cases h
  | _ :: _, [], h => by cases h
  | (g, u) :: r, (g', u') :: r', h => by
    simp only [List.map_cons, List.cons.injEq] at h
    obtain ⟨rfl, h⟩ := h
    unfold putF putD
    by_cases e : g' = f
    · rw [if_pos e, if_pos e]; simp [h]
    · rw [if_neg e, if_neg e]; simp only [List.map_cons, putD_names (d := d) (v := v) (f := f) h]
theorem putD_own {K : PySem.W.Frag} {Hf H : Hp} {f : Str} {d : D} {v : V} (r : Rep K Hf d v) (hm : mutD d = false) : ∀ {fds : List (Str × D)} {fs : List (Str × V)} {B : List Addr}, fs.map (·.1) = fds.map (·.1) → OwnFs K Hf H (fds.map (·.2)) (fs.map (·.2)) B → ∃ B', (∀ b ∈ B', b ∈ B) ∧ OwnFs K Hf H ((putD f d fds).map (·.2)) ((putF f v fs).map (·.2)) B'
  | [], [], _, _, _ => ⟨[] ++ [], by simp, .cons (.fz r) .nil (by simp) (by rw [hm]; simp)⟩
  | [], _ :: _, _, h, _ => by cases h
  | _ :: _, [], _, h, _ => by cases h
  | (g, u) :: r0, (g', u') :: r', _, h, hr => by
    simp only [List.map_cons, List.cons.injEq] at h
    obtain ⟨rfl, h⟩ := h
    cases hr with
    | @cons _ _ _ _ A B q t nd w =>
      unfold putF putD
      by_cases e : g' = f
      · rw [if_pos e, if_pos e]
        exact ⟨[] ++ B, fun b hb => List.mem_append_right _ (by simpa using hb), .cons (.fz r) t (by simp) (by rw [hm]; simp)⟩
      · rw [if_neg e, if_neg e]
        obtain ⟨B', h1, h2⟩ := putD_own r hm h t
        exact ⟨A ++ B', fun b hb => by
          rcases List.mem_append.mp hb with z | z
          · exact List.mem_append_left _ z
          · exact List.mem_append_right _ (h1 b z), .cons q h2 (fun a ha hb => nd a ha (h1 a hb)) w⟩
/-- x.f = e: the state behind the value -/
theorem StAt.fld {K : PySem.W.Frag} {E : Ent} {σ : L2.St} {H Hf : Hp} {A : Nat → List Addr} {v y : V} (s : StAt K E ρ σ H Hf A) (hi : ρ[i]? = some (some (.ow (.ins C fds)))) (hσ : σ[i]? = some (some v)) (r : Rep K Hf d y) (hm : mutD d = false) :
    ∃ a dx fs, v = .ref a ∧ H a = some (.ins C dx fs) ∧ fs.length = fds.length ∧ StOk K E (ρ.set i (some (.ow (.ins C (putD f d fds))))) σ (upd H a (.ins C dx (putF f y fs))) := by
  obtain ⟨v', hσ', ow, ne⟩ := s.sl i _ hi
  rw [hσ] at hσ'
  cases hσ'
  generalize hA : A i = Ai at ow ne
  cases ow with
  | fz _ => exact absurd rfl ne
  | @ins a _ dx fs _ B h1 h2 h3 nB =>
    refine ⟨a, dx, fs, rfl, h1, by have := congrArg List.length h2; simpa using this, ?_⟩
    obtain ⟨B', k1, k2⟩ := putD_own (f := f) r hm h2 h3
    refine ⟨Hf, _, s.change (B := a :: B') hi hσ (by rw [hA]; exact List.mem_cons_self) (by simp) (fun b hb => by
      rw [hA]
      rcases List.mem_cons.mp hb with z | z
      · rw [z]; exact List.mem_cons_self
      · exact List.mem_cons_of_mem _ (k1 b z)) (.ins upd_same (putD_names h2) (k2.move (.refl _) fun b hb => upd_ne fun z => nB (by rw [← z]; exact k1 b hb)) fun z => nB (k1 a z))⟩
/-- e is a new object of its own -/
structure JO1 (X : Cx) (e : Expr) (ρ : Rho) (P : D → Prop) : Prop where
  run : ∀ W σ H, Ex W H → Vis X.K ρ W σ → ∀ Q : VK, (∀ (d : D) (a : Addr) (W' H' : Hp) (A' : List Addr), P d → Step W H W' H' → Own X.K W' H' d (.ref a) A' → A' ≠ [] → (∀ b ∈ A', W' b = none ∧ H' b ≠ none ∧ H b = none) → Q (.ref a) H') → wE X e σ H Q
instance {X : Cx} {e : Expr} {ρ : Rho} {P : D → Prop} : CoeFun (JO1 X e ρ P) (fun _ => ∀ W σ H, Ex W H → Vis X.K ρ W σ → ∀ Q : VK, (∀ (d : D) (a : Addr) (W' H' : Hp) (A' : List Addr), P d → Step W H W' H' → Own X.K W' H' d (.ref a) A' → A' ≠ [] → (∀ b ∈ A', W' b = none ∧ H' b ≠ none ∧ H b = none) → Q (.ref a) H') → wE X e σ H Q) := ⟨JO1.run⟩
theorem JO1.imp {P1 P2 : D → Prop} {ρ : Rho} (h : JO1 X e ρ P1) (k : ∀ d, P1 d → P2 d) : JO1 X e ρ P2 := ⟨fun W σ H ex hV Q g => h W σ H ex hV Q fun d a W' H' A' hp => g d a W' H' A' (k d hp)⟩
end
end Pf

namespace Pf
open PySem PyProof.Rows L2
open Evl (Ex)

def OpD (X : Cx) (bo : Operator) (x y z : D) : Prop := ∃ r, OpR X (binaryOp bo) r ∧ R2D X.K r x y z
def CmD (X : Cx) (op : CmpOp) (x y : D) (b : Bool) : Prop := ∃ r, OpR X (compareOp op) r ∧ R2D X.K r x y (.bl b)
section
variable {X : Cx} {a b c e : Expr} {es : List Expr} {ρ : Rho} {x y z d : D} {ds es' : List D} {pos p p2 : Pos} {op op' : CmpOp} {bo : Operator} {t u : Bool} {i j : Int} {s s' : Str}
theorem j_bin (ha : J X a ρ x) (hb : J X b ρ y) (h : OpD X bo x y z) : J X (.BinOp a bo b pos) ρ z := by
  obtain ⟨r, h1, h2⟩ := h
  exact j_op h1 ha hb h2
theorem j_cm (ha : J X a ρ x) (hb : J X b ρ y) (h : CmD X op x y t) (hm : behindInMarks op b = false := by first | exact nobehind _ (by decide) (by decide) | rfl) : J X (.Compare a [op] [b] pos) ρ (.bl t) := by
  obtain ⟨r, h1, h2⟩ := h
  exact j_cmp h1 ha hb h2 hm
theorem jt_cm (ha : J X a ρ x) (hb : J X b ρ y) (h : CmD X op x y t) (hm : behindInMarks op b = false := by first | exact nobehind _ (by decide) (by decide) | rfl) : JT X (.Compare a [op] [b] pos) ρ t := by
  obtain ⟨r, h1, h2⟩ := h
  exact jt_cmp h1 ha hb h2 hm
theorem j_ch (ha : J X a ρ x) (hb : J X b ρ y) (hc : J X c ρ z) (h1 : CmD X op x y t) (h2 : CmD X op' y z u) (hm : lastMarks [op, op'] [b, c] = false := by with_unfolding_all rfl) : J X (.Compare a [op, op'] [b, c] pos) ρ (.bl (t && u)) := by
  obtain ⟨r, k1, k2⟩ := h1
  obtain ⟨r', k1', k2'⟩ := h2
  exact j_chain k1 k1' ha hb (fun _ => hc) k2 (fun _ => k2') hm
theorem jt_ch (ha : J X a ρ x) (hb : J X b ρ y) (hc : J X c ρ z) (h1 : CmD X op x y t) (h2 : CmD X op' y z u) (hm : lastMarks [op, op'] [b, c] = false := by with_unfolding_all rfl) : JT X (.Compare a [op, op'] [b, c] pos) ρ (t && u) := by
  obtain ⟨r, k1, k2⟩ := h1
  obtain ⟨r', k1', k2'⟩ := h2
  exact jt_chain k1 k1' ha hb (fun _ => hc) k2 (fun _ => k2') hm
theorem od_addI : OpD X .Add (.int i) (.int j) (.int (i + j)) := ⟨_, op_add, r2_I0⟩
theorem od_addS (h : s.length + s'.length ≤ sizeLine) : OpD X .Add (.str s) (.str s') (.str (s ++ s')) := ⟨_, op_add_str, r2_addS h⟩
theorem od_addL (h : ds.length + es'.length ≤ sizeLine) : OpD X .Add (.lst ds) (.lst es') (.lst (ds ++ es')) := ⟨_, op_cat, r2_addL h⟩
theorem od_addT (h : ds.length + es'.length ≤ sizeLine) : OpD X .Add (.tup ds) (.tup es') (.tup (ds ++ es')) := ⟨_, op_catA, r2_addT h⟩
theorem od_mulI (h : CMul i j) : OpD X .Mult (.int i) (.int j) (.int (i * j)) := ⟨_, op_mul, r2_I h⟩
theorem od_fdivI (h : CDiv i j) : OpD X .FloorDiv (.int i) (.int j) (.int (i / j)) := ⟨_, op_fdiv, r2_I h⟩
theorem od_modI (h : 0 < j) : OpD X .Mod (.int i) (.int j) (.int (i % j)) := ⟨_, op_mod, r2_I (C := fun _ j => 0 < j) h⟩
theorem od_powI (h : CPow i j) : OpD X .Pow (.int i) (.int j) (.int (i ^ j.toNat)) := ⟨_, op_pow, r2_I (C := CPow) (g := fun i j => i ^ j.toNat) h⟩
theorem cd_ltI : CmD X .Lt (.int i) (.int j) (decide (i < j)) := ⟨_, op_lt, r2_B0⟩
theorem cd_leI : CmD X .LtE (.int i) (.int j) (decide (i ≤ j)) := ⟨_, op_le, r2_B0⟩
theorem cd_gtI : CmD X .Gt (.int i) (.int j) (decide (j < i)) := ⟨_, op_gt, r2_B0 (g := fun i j => decide (j < i))⟩
theorem cd_geI : CmD X .GtE (.int i) (.int j) (decide (j ≤ i)) := ⟨_, op_ge, r2_B0 (g := fun i j => decide (j ≤ i))⟩
theorem cd_eqI : CmD X .Eq (.int i) (.int j) (decide (i = j)) := ⟨_, op_eq, r2_eqI⟩
theorem cd_eqS : CmD X .Eq (.str s) (.str s') (decide (s = s')) := ⟨_, op_eq, r2_eqS⟩
theorem cd_neI : CmD X .NotEq (.int i) (.int j) (!decide (i = j)) := ⟨_, op_ne, r2_neI⟩
theorem cd_neS : CmD X .NotEq (.str s) (.str s') (!decide (s = s')) := ⟨_, op_ne, r2_neS⟩
theorem cd_isN : CmD X .Is d .non (isNon d) := ⟨_, op_isN, r2_isN⟩
theorem cd_notN : CmD X .IsNot d .non (!isNon d) := ⟨_, op_notN, r2_notN⟩
theorem cd_inSign {n : Nat} : CmD X .In (.str ⟨#[n]⟩) (.str s) (decide (n ∈ s.cps.toList)) := ⟨_, op_in_sign, r2_inSign⟩
theorem cd_eqD {d e : D} {p q : PyData} (hu : X.A.units + 64 < cLine) (h1 : toPy d = some p) (h2 : toPy e = some q) (s1 : SeqAt.shaped p = true) (s2 : SeqAt.shaped q = true) (hb : PyData.eqv p q = t) : CmD X .Eq d e t := ⟨_, op_eqD hu, r2_eqD h1 h2 s1 s2 hb⟩
def IxD (x y d : D) : Prop := (∃ ds i, x = .lst ds ∧ y = .int i ∧ atI ds i = some d) ∨ (∃ ds i, x = .tup ds ∧ y = .int i ∧ atI ds i = some d) ∨ (∃ (z : Str) (i : Int) (n : Nat), x = .str z ∧ y = .int i ∧ z.length ≤ sizeLine ∧ atI z.cps.toList i = some n ∧ d = .str ⟨#[n]⟩)
theorem j_ix (ha : J X a ρ x) (hb : J X b ρ y) (h : IxD x y d) (hs : PlainIx b := by exact fun _ _ => rfl) : J X (.Subscript a b pos) ρ d := by
  rcases h with ⟨ds, i, rfl, rfl, h⟩ | ⟨ds, i, rfl, rfl, h⟩ | ⟨z, i, n, rfl, rfl, hz, h, rfl⟩
  · exact j_ixL ha hb h hs
  · exact j_ixT ha hb h hs
  · exact j_ixS ha hb hz h hs
theorem ixd_L (h : atI ds i = some d) : IxD (.lst ds) (.int i) d := .inl ⟨ds, i, rfl, rfl, h⟩
theorem ixd_T (h : atI ds i = some d) : IxD (.tup ds) (.int i) d := .inr (.inl ⟨ds, i, rfl, rfl, h⟩)
theorem ixd_I {ns : List Int} (h0 : 0 ≤ i) (h1 : i < ns.length) : IxD (.lst (ns.map D.int)) (.int i) (.int (ns.getD i.toNat 0)) := ixd_L (atI_ints h0 h1)
def SlD (x : D) (o1 o2 : Option Int) (d : D) : Prop := (∃ ds, x = .lst ds ∧ d = .lst (cut ds o1 o2)) ∨ (∃ ds, x = .tup ds ∧ d = .tup (cut ds o1 o2)) ∨ (∃ ns, x = .scr ns ∧ d = .lst ((cut ns o1 o2).map D.int)) ∨ (∃ z : Str, x = .str z ∧ z.length ≤ sizeLine ∧ d = .str (cutS z o1 o2))
theorem j_sl {lo hi : Option Expr} {o1 o2 : Option Int} (ha : J X a ρ x) (h1 : JO X lo ρ o1) (h2 : JO X hi ρ o2) (h : SlD x o1 o2 d) : J X (.Subscript a (.Slice lo hi none p2) pos) ρ d := by
  rcases h with ⟨ds, rfl, rfl⟩ | ⟨ds, rfl, rfl⟩ | ⟨ds, rfl, rfl⟩ | ⟨z, rfl, hz, rfl⟩
  · exact j_slL ha h1 h2
  · exact j_slT ha h1 h2
  · exact j_slScr ha h1 h2
  · exact j_slS ha hz h1 h2
theorem sld_L {o1 o2 : Option Int} : SlD (.lst ds) o1 o2 (.lst (cut ds o1 o2)) := .inl ⟨ds, rfl, rfl⟩
theorem sld_X {ns : List Int} {o1 o2 : Option Int} : SlD (.scr ns) o1 o2 (.lst ((cut ns o1 o2).map D.int)) := .inr (.inr (.inl ⟨ns, rfl, rfl⟩))
end
/-- what the built-ins' names are at the top: none of them is stored -/
structure Bt (mg : Str → Option Value) : Prop where
  len : mg "len" = none
  int : mg "int" = none
  abs : mg "abs" = none
  range : mg "range" = none
  tuple : mg "tuple" = none
  list : mg "list" = none
  sorted : mg "sorted" = none
  set : mg "set" = none
  isinstance : mg "isinstance" = none
  bool : mg "bool" = none
  min : mg "min" = none
  max : mg "max" = none
  sum : mg "sum" = none
  all : mg "all" = none
  any : mg "any" = none
  str : mg "str" = none
  zip : mg "zip" = none
  enumerate : mg "enumerate" = none
section
variable {X : Cx} {e : Expr} {es : List Expr} {ρ : Rho} {d : D} {ds : List D} {pos p : Pos} {i j : Int} {n : Nat} (T : Bt X.mg)
include T
theorem jb_len (ha : JA X [e] ρ [d]) (h : lenD d = some n) (hg : Gl X "len" := by rfl) (he : starEach [e] X.env = (false, eval e X.env) :: starEach [] X.env := by rfl) (hpl : (backTo pos (starEach [] X.env)).any (·.1) = false := by rfl) : J X (.Call (.Name "len" p) [e] [] pos) ρ (.int n) := j_cb call_len T.len PySem.boot_len ha (rc_len h) hg (by decide) (by decide) he hpl
theorem jb_int (ha : JA X [e] ρ [.int i]) (hg : Gl X "int" := by rfl) (he : starEach [e] X.env = (false, eval e X.env) :: starEach [] X.env := by rfl) (hpl : (backTo pos (starEach [] X.env)).any (·.1) = false := by rfl) : J X (.Call (.Name "int" p) [e] [] pos) ρ (.int i) := j_ct call_int1 T.int (by decide +kernel) ha rc_int hg (by decide) (by decide) he hpl
theorem jb_abs (ha : JA X [e] ρ [.int i]) (hg : Gl X "abs" := by rfl) (he : starEach [e] X.env = (false, eval e X.env) :: starEach [] X.env := by rfl) (hpl : (backTo pos (starEach [] X.env)).any (·.1) = false := by rfl) : J X (.Call (.Name "abs" p) [e] [] pos) ρ (.int (if i < 0 then -i else i)) := j_cb call_abs T.abs (by decide +kernel) ha rc_abs hg (by decide) (by decide) he hpl
theorem jb_str (ha : JA X [e] ρ [.int i]) (h : i.natAbs.log2 < 1920) (hg : Gl X "str" := by rfl) (he : starEach [e] X.env = (false, eval e X.env) :: starEach [] X.env := by rfl) (hpl : (backTo pos (starEach [] X.env)).any (·.1) = false := by rfl) : J X (.Call (.Name "str" p) [e] [] pos) ρ (.str (toString i)) := j_ct call_str_int T.str (by decide +kernel) ha (rc_strI h) hg (by decide) (by decide) he hpl
theorem jb_all {bs : List Bool} (ha : JA X [e] ρ [.lst (bs.map D.bl)]) (hc : X.calm = true := by rfl) (hg : Gl X "all" := by rfl) (he : starEach [e] X.env = (false, eval e X.env) :: starEach [] X.env := by rfl) (hpl : (backTo pos (starEach [] X.env)).any (·.1) = false := by rfl) : J X (.Call (.Name "all" p) [e] [] pos) ρ (.bl (bs.all id)) := j_cb (cr_all hc) T.all (by decide +kernel) ha rc_all hg (by decide) (by decide) he hpl
theorem jb_tupleL (ha : JA X [e] ρ [.lst ds]) (hg : Gl X "tuple" := by rfl) (he : starEach [e] X.env = (false, eval e X.env) :: starEach [] X.env := by rfl) (hpl : (backTo pos (starEach [] X.env)).any (·.1) = false := by rfl) : J X (.Call (.Name "tuple" p) [e] [] pos) ρ (.tup ds) := j_ct call_tuple_of T.tuple (by decide +kernel) ha rc_tupleL hg (by decide) (by decide) he hpl
theorem jb_max2 {e2 : Expr} (ha : JA X [e, e2] ρ [.int i, .int j]) (hc : X.calm = true := by rfl) (hg : Gl X "max" := by rfl) (he : starEach [e, e2] X.env = (false, eval e X.env) :: starEach [e2] X.env := by rfl) (hpl : (backTo pos (starEach [e2] X.env)).any (·.1) = false := by rfl) : J X (.Call (.Name "max" p) [e, e2] [] pos) ρ (.int (if j > i then j else i)) := j_cb (call_max2 hc) T.max (by decide +kernel) ha rc_max2 hg (by decide) (by decide) he hpl
theorem jb_min2 {e2 : Expr} (ha : JA X [e, e2] ρ [.int i, .int j]) (hc : X.calm = true := by rfl) (hg : Gl X "min" := by rfl) (he : starEach [e, e2] X.env = (false, eval e X.env) :: starEach [e2] X.env := by rfl) (hpl : (backTo pos (starEach [e2] X.env)).any (·.1) = false := by rfl) : J X (.Call (.Name "min" p) [e, e2] [] pos) ρ (.int (if j < i then j else i)) := j_cb (call_min2 hc) T.min (by decide +kernel) ha rc_min2 hg (by decide) (by decide) he hpl
theorem jb_isi {e2 : Expr} {Ty : String} {t : Value} {b : Bool} (ha : JA X [e, e2] ρ [d, .ty Ty]) (h : tyD d = some t) (hk : PySem.W.kitOne X.K t (.type Ty) = some b) (hg : Gl X "isinstance" := by rfl) (he : starEach [e, e2] X.env = (false, eval e X.env) :: starEach [e2] X.env := by rfl) (hpl : (backTo pos (starEach [e2] X.env)).any (·.1) = false := by rfl) : J X (.Call (.Name "isinstance" p) [e, e2] [] pos) ρ (.bl b) := j_cb call_isi T.isinstance (by decide +kernel) ha (rc_isi h hk) hg (by decide) (by decide) he hpl
end
end Pf

namespace Pf
open PySem PyProof.Rows L2
open Evl (Ex)
section
variable {X : Cx} {pin : List Nat} {st : Stmt} {rest body : List Stmt} {ρ : Rho} {σ : RhoS} {Φ : Out → Prop} {e iter tg : Expr} {d : D} {ds : List D} {pos : Pos} {n : Str}
theorem jv (i : Nat) (hr : ρ[i]? = some (some d)) (hN : X.N[i]? = some n := by rfl) (hv : L2.Vis X.env.scope n := by first | exact Or.inl rfl | exact Or.inr (Or.inl rfl) | exact Or.inr (Or.inr rfl)) (hd : (n == ("__debug__" : Str)) = false := by decide) (hcd : (n == ("__classdict__" : Str)) = false := by decide) : J X (.Name n pos) ρ d := j_var hr hN hv hd hcd
theorem jss_mid (Ψ : RhoS → Prop) (h : JS X pin st σ (fun o => ∃ ρ', o = .nx ρ' ∧ Ψ ρ')) (k : ∀ ρ', Ψ ρ' → JSs X pin rest ρ' Φ) : JSs X pin (st :: rest) σ Φ := jss_cons (h.imp fun o ⟨ρ', e, h⟩ => by subst e; exact k ρ' h)
theorem rangeD_get {lo : Int} {n k : Nat} (h : (rangeD lo n)[k]? = some d) : d = .int (lo + k) ∧ k < n := by
  unfold rangeD at h
  rw [List.getElem?_map] at h
  cases e : (List.range n)[k]? with
  | none => rw [e] at h; cases h
  | some m =>
    rw [e] at h
    obtain ⟨hk, e'⟩ := List.getElem?_eq_some_iff.mp e
    rw [List.getElem_range] at e'
    subst e'
    cases h
    rw [List.length_range] at hk
    exact ⟨rfl, hk⟩
theorem rangeD_length {lo : Int} {n : Nat} : (rangeD lo n).length = n := by unfold rangeD; rw [List.length_map, List.length_range]
theorem map_get {α : Type} {f : α → D} {xs : List α} {k : Nat} (h : (xs.map f)[k]? = some d) : ∃ x, xs[k]? = some x ∧ d = f x := by
  rw [List.getElem?_map] at h
  cases e : xs[k]? with
  | none => rw [e] at h; cases h
  | some x => rw [e] at h; cases h; exact ⟨x, rfl, rfl⟩
/-- for k in range(..) -/
theorem js_range {i : Nat} {p : Pos} {a : Expr} (m : Nat) (I : Nat → RhoS → Prop) (T : Bt X.mg) (ha : J X a (fzR σ) (.int (m : Int))) (hm : m < 2 ^ 62) (nd : X.N.Nodup) (h0 : I 0 σ) (turn : ∀ (k : Nat) σ, k < m → I k σ → JSs X pin body (σ.set i (some (.fz (.int (k : Int))))) (turnO (I (k + 1)) Φ)) (done : ∀ σ, I m σ → Φ (.nx σ))
    (hi : X.N[i]? = some n := by rfl) (hx : Loc X.env.scope n := by first | exact Or.inl rfl | exact Or.inr rfl) (hf : X.fn n = true ∨ X.env.scope.names.lookup n = some .local := by first | exact .inl rfl | exact .inr rfl) (hp : i ∉ pin := by decide) (hps : PassesOwn (model X.prog X.w) X.A X.env X.xe := by first | exact PassesOwn.never | assumption)
    (hg : Gl X "range" := by rfl) (hs : starEach [a] X.env = [(false, eval a X.env)] := by rfl) (hc : X.calm = true := by rfl) (hfs : ∀ x, foldedSetIterable (.Call (.Name "range" p) [a] [] pos) X.env x = pure x := by intro _; rfl) {q pos' : Pos} :
    JS X pin (.For (.Name n q) (.Call (.Name "range" p) [a] [] pos) body [] pos') σ Φ := by
  have hj : JI X (.Name n q) (.Call (.Name "range" p) [a] [] pos) (fzR σ) (rangeD 0 m) := by
    have := ji_range1 (X := X) (tg := .Name n q) (p := p) (pos := pos) T.range ha (by omega) (by omega) hg hs
    rwa [Int.toNat_natCast] at this
  refine js_for (pat := .nm i) I hj (pg_name nd hi hx hf) h0 (fun k d σ hd hI => ?_) (fun σ h => done σ (by rw [rangeD_length] at h; exact h)) hps (fun j hj => (List.mem_singleton.mp hj : j = i) ▸ hp) hc hfs
  obtain ⟨rfl, hk⟩ := rangeD_get hd
  refine ⟨_, rfl, ?_⟩
  rw [Int.zero_add]
  exact turn k σ hk hI
/-- for x in a list or tuple of a kind -/
theorem js_each {α : Type} {i : Nat} (xs : List α) (g : α → D) (I : Nat → RhoS → Prop) (hj : JI X (.Name n pos) iter (fzR σ) (xs.map g)) (nd : X.N.Nodup) (h0 : I 0 σ) (turn : ∀ (k : Nat) x σ, xs[k]? = some x → I k σ → JSs X pin body (σ.set i (some (.fz (g x)))) (turnO (I (k + 1)) Φ)) (done : ∀ σ, I xs.length σ → Φ (.nx σ))
    (hi : X.N[i]? = some n := by rfl) (hx : Loc X.env.scope n := by first | exact Or.inl rfl | exact Or.inr rfl) (hf : X.fn n = true ∨ X.env.scope.names.lookup n = some .local := by first | exact .inl rfl | exact .inr rfl) (hp : i ∉ pin := by decide) (hps : PassesOwn (model X.prog X.w) X.A X.env X.xe := by first | exact PassesOwn.never | assumption)
    (hc : X.calm = true := by rfl) (hfs : ∀ x, foldedSetIterable iter X.env x = pure x := by intro _; rfl) {pos' : Pos} :
    JS X pin (.For (.Name n pos) iter body [] pos') σ Φ := by
  refine js_for (pat := .nm i) I hj (pg_name nd hi hx hf) h0 (fun k d σ hd hI => ?_) (fun σ h => done σ (by rw [List.length_map] at h; exact h)) hps (fun j hj => (List.mem_singleton.mp hj : j = i) ▸ hp) hc hfs
  obtain ⟨x, hx, rfl⟩ := map_get hd
  exact ⟨_, rfl, turn k x σ hx hI⟩
end
theorem cmulL {i j : Int} (h1 : -(2 ^ 64) < i := by decide) (h2 : i < 2 ^ 64 := by decide) : CMul i j := .inl ⟨h1, h2⟩
theorem cmulR {i j : Int} (h1 : -(2 ^ 64) < j := by decide) (h2 : j < 2 ^ 64 := by decide) : CMul i j := .inr ⟨h1, h2⟩
end Pf

namespace Pf
open PySem PyProof.Rows L2
open Evl (Ex)
mutual
def fitD : Nat → D → Bool
  | _, .non => true
  | _, .bl _ => true
  | _, .int _ => true
  | _, .str x => PySem.PyData.strOk x
  | n + 1, .lst xs => fitAllD n xs
  | n + 1, .tup xs => fitAllD n xs
  | _, _ => false
def fitAllD : Nat → List D → Bool
  | _, [] => true
  | n, x :: xs => fitD n x && fitAllD n xs
end
mutual
def eqvD : D → D → Bool
  | .non, .non => true
  | .bl a, .bl b => a == b
  | .bl a, .int b => (if a then 1 else 0) == b
  | .int a, .bl b => a == (if b then 1 else 0)
  | .int a, .int b => a == b
  | .str a, .str b => a == b
  | .lst xs, .lst ys => eqvAllD xs ys
  | .tup xs, .tup ys => eqvAllD xs ys
  | _, _ => false
def eqvAllD : List D → List D → Bool
  | [], [] => true
  | x :: xs, y :: ys => eqvD x y && eqvAllD xs ys
  | _, _ => false
end
mutual
theorem fit_py : ∀ (n : Nat) (d : D), fitD n d = true → ∃ p, toPy d = some p ∧ p.canLay0 = true ∧ p.depth ≤ n
  | _, .non, _ => ⟨.none, by simp [toPy], by simp [PyData.canLay0], by simp [PyData.depth]⟩
  | _, .bl b, _ => ⟨.bool b, by simp [toPy], by simp [PyData.canLay0], by simp [PyData.depth]⟩
  | _, .int b, _ => ⟨.int b, by simp [toPy], by simp [PyData.canLay0], by simp [PyData.depth]⟩
  | _, .str x, h => ⟨.str x, by simp [toPy], by simpa [PyData.canLay0, fitD] using h, by simp [PyData.depth]⟩
  | n + 1, .lst xs, h => by
    obtain ⟨ps, h1, h2, h3⟩ := fitAll_py n xs (by simpa [fitD] using h)
    exact ⟨.list ps, by simp [toPy, h1], by simpa [PyData.canLay0] using h2, by simp [PyData.depth]; omega⟩
  | n + 1, .tup xs, h => by
    obtain ⟨ps, h1, h2, h3⟩ := fitAll_py n xs (by simpa [fitD] using h)
    exact ⟨.tuple ps, by simp [toPy, h1], by simpa [PyData.canLay0] using h2, by simp [PyData.depth]; omega⟩
  | 0, .lst xs, h => by simp [fitD] at h
  | 0, .tup xs, h => by simp [fitD] at h
  | _, .dct _, h => by simp [fitD] at h
  | _, .ins _ _, h => by simp [fitD] at h
  | _, .scr _, h => by simp [fitD] at h
  | _, .ty _, h => by simp [fitD] at h
theorem fitAll_py : ∀ (n : Nat) (ds : List D), fitAllD n ds = true → ∃ ps, toPys ds = some ps ∧ PyData.canLayAll0 ps = true ∧ PyData.depthAll ps ≤ n
  | _, [], _ => ⟨[], by simp [toPys], by simp [PyData.canLayAll0], by simp [PyData.depthAll]⟩
  | n, x :: xs, h => by
    have h' : fitD n x = true ∧ fitAllD n xs = true := by simpa [fitAllD] using h
    obtain ⟨p, h1, h2, h3⟩ := fit_py n x h'.1
    obtain ⟨ps, k1, k2, k3⟩ := fitAll_py n xs h'.2
    exact ⟨p :: ps, by simp [toPys, h1, k1], by simp [PyData.canLayAll0, h2, k2], by simp [PyData.depthAll]; omega⟩
end
mutual
theorem eqv_py : ∀ (n : Nat) (d e : D) (p q : PyData), fitD n d = true → fitD n e = true → toPy d = some p → toPy e = some q → PyData.eqv p q = eqvD d e := by
  intro n d e p q h1 h2 h3 h4
  cases d <;> simp only [toPy, Option.some.injEq, Option.map_eq_some_iff, reduceCtorEq] at h3 <;>
    cases e <;> simp only [toPy, Option.some.injEq, Option.map_eq_some_iff, reduceCtorEq] at h4 <;>
    first
    | (subst h3; subst h4; simp [PyData.eqv, eqvD]; done)
    | (obtain ⟨ps, h3, rfl⟩ := h3; subst h4; simp [PyData.eqv, eqvD]; done)
    | (obtain ⟨ps, h4, rfl⟩ := h4; subst h3; simp [PyData.eqv, eqvD]; done)
    | (obtain ⟨ps, h3, rfl⟩ := h3
       obtain ⟨qs, h4, rfl⟩ := h4
       first
       | (simp [PyData.eqv, eqvD]; done)
       | (simp only [PyData.eqv, eqvD]
          cases n with
          | zero => simp [fitD] at h1
          | succ n => exact eqvAll_py n _ _ ps qs (by simpa [fitD] using h1) (by simpa [fitD] using h2) h3 h4))
theorem eqvAll_py : ∀ (n : Nat) (ds es : List D) (ps qs : List PyData), fitAllD n ds = true → fitAllD n es = true → toPys ds = some ps → toPys es = some qs → PyData.eqvAll ps qs = eqvAllD ds es
  | n, [], [], ps, qs, _, _, h3, h4 => by simp [toPys] at h3 h4; subst h3; subst h4; simp [PyData.eqvAll, eqvAllD]
  | n, [], e :: es, ps, qs, _, h2, h3, h4 => by
    have h' : fitD n e = true ∧ fitAllD n es = true := by simpa [fitAllD] using h2
    obtain ⟨q, k1, _, _⟩ := fit_py n e h'.1
    obtain ⟨qs', k2, _, _⟩ := fitAll_py n es h'.2
    simp [toPys] at h3; subst h3
    simp [toPys, k1, k2] at h4; subst h4
    simp [PyData.eqvAll, eqvAllD]
  | n, e :: es, [], ps, qs, h2, _, h4, h3 => by
    have h' : fitD n e = true ∧ fitAllD n es = true := by simpa [fitAllD] using h2
    obtain ⟨q, k1, _, _⟩ := fit_py n e h'.1
    obtain ⟨qs', k2, _, _⟩ := fitAll_py n es h'.2
    simp [toPys] at h3; subst h3
    simp [toPys, k1, k2] at h4; subst h4
    simp [PyData.eqvAll, eqvAllD]
  | n, d :: ds, e :: es, ps, qs, h1, h2, h3, h4 => by
    have h1' : fitD n d = true ∧ fitAllD n ds = true := by simpa [fitAllD] using h1
    have h2' : fitD n e = true ∧ fitAllD n es = true := by simpa [fitAllD] using h2
    obtain ⟨p, k1, _, _⟩ := fit_py n d h1'.1
    obtain ⟨ps', k2, _, _⟩ := fitAll_py n ds h1'.2
    obtain ⟨q, l1, _, _⟩ := fit_py n e h2'.1
    obtain ⟨qs', l2, _, _⟩ := fitAll_py n es h2'.2
    simp [toPys, k1, k2] at h3; subst h3
    simp [toPys, l1, l2] at h4; subst h4
    simp only [PyData.eqvAll, eqvAllD, eqv_py n d e p q h1'.1 h2'.1 k1 l1, eqvAll_py n ds es ps' qs' h1'.2 h2'.2 k2 l2]
end
theorem shaped_of {p : PyData} {n : Nat} (h1 : p.canLay0 = true) (h2 : p.depth ≤ n) (hn : n ≤ 60) : SeqAt.shaped p = true := by
  unfold SeqAt.shaped
  rw [h1, Bool.true_and]
  exact decide_eq_true (by omega)
section
variable {X : Cx} {d e : D} {n : Nat}
theorem cd_eqF (n : Nat) (hu : X.A.units + 64 < cLine) (h1 : fitD n d = true) (h2 : fitD n e = true) (hn : n ≤ 60 := by decide) : CmD X .Eq d e (eqvD d e) := by
  obtain ⟨p, a1, a2, a3⟩ := fit_py n d h1
  obtain ⟨q, b1, b2, b3⟩ := fit_py n e h2
  exact cd_eqD hu a1 b1 (shaped_of a2 a3 hn) (shaped_of b2 b3 hn) (eqv_py n d e p q h1 h2 a1 b1)
end
mutual
theorem eqvD_refl : ∀ (n : Nat) (d : D), fitD n d = true → eqvD d d = true
  | _, .non, _ => by simp [eqvD]
  | _, .bl b, _ => by simp [eqvD]
  | _, .int b, _ => by simp [eqvD]
  | _, .str x, h => by simp [eqvD]
  | n + 1, .lst xs, h => by simp only [eqvD]; exact eqvAllD_refl n xs (by simpa [fitD] using h)
  | n + 1, .tup xs, h => by simp only [eqvD]; exact eqvAllD_refl n xs (by simpa [fitD] using h)
  | 0, .lst xs, h => by simp [fitD] at h
  | 0, .tup xs, h => by simp [fitD] at h
  | _, .dct _, h => by simp [fitD] at h
  | _, .ins _ _, h => by simp [fitD] at h
  | _, .scr _, h => by simp [fitD] at h
  | _, .ty _, h => by simp [fitD] at h
theorem eqvAllD_refl : ∀ (n : Nat) (ds : List D), fitAllD n ds = true → eqvAllD ds ds = true
  | _, [], _ => by simp [eqvAllD]
  | n, x :: xs, h => by
    have h' : fitD n x = true ∧ fitAllD n xs = true := by simpa [fitAllD] using h
    simp [eqvAllD, eqvD_refl n x h'.1, eqvAllD_refl n xs h'.2]
end
end Pf

namespace Pf
open PySem PyProof.Rows L2
open Evl (Ex)
theorem atI_mem {α : Type} {L : List α} {i : Int} (h0 : 0 ≤ i) (h1 : i < L.length) : ∃ d, atI L i = some d ∧ d ∈ L := by
  have h2 : i.toNat < L.length := by omega
  refine ⟨L[i.toNat], ?_, List.getElem_mem _⟩
  unfold atI ixN
  rw [if_pos h0, if_pos h1]
  show L[i.toNat]? = _
  rw [List.getElem?_eq_getElem h2]
theorem atI_map {α : Type} (f : α → D) (x0 : α) {L : List α} {i : Int} (h0 : 0 ≤ i) (h1 : i < L.length) : atI (L.map f) i = some (f (L.getD i.toNat x0)) := by
  have h2 : i.toNat < L.length := by omega
  unfold atI ixN
  rw [List.length_map, if_pos h0, if_pos h1]
  show (L.map f)[i.toNat]? = _
  rw [List.getElem?_map, List.getElem?_eq_getElem h2, List.getD_eq_getElem?_getD, List.getElem?_eq_getElem h2]
  rfl
theorem cut_map {α β : Type} (f : α → β) (xs : List α) (a b : Option Int) : cut (xs.map f) a b = (cut xs a b).map f := by
  unfold cut
  rw [List.length_map, ← List.map_drop, ← List.map_take]
section
variable {X : Cx} {elt tg iter : Expr} {ifs : List Expr} {scope : Scope} {own : List (Str × Nat)} {pos : Pos} {ρ : Rho}
/-- a comprehension without a test -/
theorem j_lcM {α : Type} {i : Nat} (xs : List α) (g : α → D) (h : α → D) (hi : JI X tg iter ρ (xs.map g)) (ok : BlkOk X.N X.env.scope scope own) (hg : ∀ s H C cl fp, PG (blkX X scope s H C cl fp) tg (gName i)) (hlen : xs.length < sizeLine)
    (turn : ∀ x ∈ xs, ∀ s H C cl fp, J (blkX X scope s H C cl fp) elt ((wipeR ρ (own.map (·.2))).set i (some (g x))) (h x)) (hN : X.N.Nodup) (hown : i ∈ own.map (·.2) := by decide) (hc : X.calm = true := by rfl) (hs : ∀ x, foldedSetIterable iter X.env x = pure x := by intro _; rfl) :
    J X (.ListComp elt [⟨tg, iter, [], 0⟩] scope pos) ρ (.lst (xs.map h)) := by
  have := j_lcN (X := X) (elt := elt) (tg := tg) (iter := iter) (ifs := []) (scope := scope) (own := own) (pos := pos) (ρ := ρ) (i := i) xs g (fun _ => true) h hi ok hg hlen (fun x hx s H C cl fp => ⟨jts_nil, fun _ => turn x hx s H C cl fp⟩) hN hown hc hs
  rwa [List.filter_eq_self.mpr (fun _ _ => rfl)] at this
end
section
variable {X : Cx} {a b c : Expr} {rest : List Expr} {ρ : Rho} {pos : Pos} {d1 d2 : D}
theorem jw_orT (h : JT X a ρ true) : JW X (.BoolOp .Or (a :: b :: rest) pos) ρ true := jw_or (u := true) h (fun z => Bool.noConfusion z)
theorem j_andFa (h : J X a ρ (.bl false)) : J X (.BoolOp .And (a :: b :: rest) pos) ρ (.bl false) := j_and (u := true) h (fun z => Bool.noConfusion z)
theorem j_ifT (h : JT X c ρ true) (h1 : J X a ρ d1) : J X (.IfExp c a b pos) ρ d1 := (j_ifExp (d2 := d1) h (fun _ => h1) (fun z => Bool.noConfusion z)).to (by rw [if_pos rfl])
theorem j_ifF (h : JT X c ρ false) (h1 : J X b ρ d1) : J X (.IfExp c a b pos) ρ d1 := (j_ifExp (d1 := d1) h (fun z => Bool.noConfusion z) (fun _ => h1)).to (by rw [if_neg Bool.false_ne_true])
end
theorem ji_rangeN {X : Cx} {tg a : Expr} {ρ : Rho} {i : Int} {p pos : Pos} (n : Nat) (T : Bt X.mg) (h : J X a ρ (.int i)) (hn : i.toNat = n) (h1 : -(2 ^ 62) ≤ i) (h2 : i < 2 ^ 62) (hg : Gl X "range" := by rfl) (hs : starEach [a] X.env = [(false, eval a X.env)] := by rfl) :
    JI X tg (.Call (.Name "range" p) [a] [] pos) ρ ((List.range n).map fun k => D.int (0 + (k : Nat))) := by
  have := ji_range1 (X := X) (tg := tg) (p := p) (pos := pos) T.range h h1 h2 hg hs
  rw [hn] at this
  exact this
theorem atI_mapN {α : Type} (f : α → D) (x0 : α) {L : List α} {i : Int} (n : Nat) (h0 : i = (n : Int)) (h1 : n < L.length) : atI (L.map f) i = some (f (L.getD n x0)) := by
  subst h0
  have := atI_map f x0 (L := L) (i := (n : Int)) (by omega) (by omega)
  rwa [Int.toNat_natCast] at this
end Pf

namespace Pf
open PySem L2
open Evl (Ex)
section
variable {K : PySem.W.Frag} {Hf H : Hp}
end
section
variable {K : PySem.W.Frag} {E : Ent} {ρ : RhoS} {σ : L2.St} {H Hf : Hp} {A : Nat → List Addr} {i : Nat} {C : Addr} {fds : List (Str × D)} {f : Str} {d : D}
end
end Pf

namespace Pf
open PySem L2
open Evl (Ex)
def getD (kds : List (Key × D)) (k : Key) : Option D := (kds.find? fun kv => decide (kv.1 = k)).map (·.2)
def hasD (kds : List (Key × D)) (k : Key) : Bool := kds.any fun kv => decide (kv.1 = k)
def setD (kds : List (Key × D)) (k : Key) (d : D) : List (Key × D) := if hasD kds k = true then kds.map (fun kv => if kv.1 = k then (kv.1, d) else kv) else kds ++ [(k, d)]
section
variable {K : PySem.W.Frag} {Hf H : Hp}
end
section
variable {X : Cx} {pin : List Nat} {ρ : RhoS} {Φ : Out → Prop} {e ke : Expr} {d : D} {pos p' p1 p2 p3 : Pos} {i : Nat} {x f : Str} {C : Addr} {fds : List (Str × D)}
end
section
variable {K : PySem.W.Frag} {E : Ent} {ρ : RhoS} {σ : L2.St} {H Hf : Hp} {A : Nat → List Addr} {i : Nat} {C : Addr} {fds : List (Str × D)} {f : Str} {d : D} {kds : List (Key × D)}
end
section
variable {X : Cx} {pin : List Nat} {ρ : RhoS} {Φ : Out → Prop} {e ke : Expr} {d : D} {pos p' p1 p2 p3 : Pos} {i : Nat} {x f : Str} {C : Addr} {fds : List (Str × D)} {kds : List (Key × D)} {z : Str}
end
end Pf

namespace Pf
open PySem L2
open Evl (Ex)
theorem DpAll.len {K : PySem.W.Frag} {H : Hp} : ∀ {xs : List V} {ps : List PyData}, DpAll K H xs ps → xs.length = ps.length
  | _, _, .nil => rfl
  | _, _, .cons _ t => congrArg (· + 1) (DpAll.len t)
end Pf

namespace Pf
open PySem L2
open Evl (Ex)
section
variable {X : Cx} {elt : Expr} {elts : List Expr} {scope : Scope} {own : List (Str × Nat)} {pos tpos apos cpos p1 p2 : Pos} {kk : Nat} {ρ : Rho} {its : List (D × Option D)} {is : List Nat} {x f : Str} {i : Nat} {C : Addr} {fds : List (Str × D)} {kds : List (Key × D)}
end
end Pf

namespace Pf
open PySem L2
open Evl (Ex)
def dcD (its : List (D × (Str × D))) : List (Key × D) := its.foldl (fun kds q => setD kds (.inr q.2.1) q.2.2) []
theorem setD_in {kds : List (Key × D)} {k : Key} {d x : D} (h : x ∈ (setD kds k d).map (·.2)) : x = d ∨ x ∈ kds.map (·.2) := by
  unfold setD at h
  split at h
  · obtain ⟨kv, h1, h2⟩ := List.mem_map.mp h
    obtain ⟨kw, h3, h4⟩ := List.mem_map.mp h1
    by_cases c : kw.1 = k
    · rw [if_pos c] at h4; rw [← h4] at h2; exact .inl h2.symm
    · rw [if_neg c] at h4; rw [← h4] at h2; exact .inr (List.mem_map.mpr ⟨kw, h3, h2⟩)
  · rw [List.map_append] at h
    rcases List.mem_append.mp h with z | z
    · exact .inr z
    · exact .inl (by simpa using z)
theorem dcD_in {x : D} : ∀ (its : List (D × (Str × D))) (kds : List (Key × D)), x ∈ (its.foldl (fun kds q => setD kds (.inr q.2.1) q.2.2) kds).map (·.2) → x ∈ kds.map (·.2) ∨ ∃ q ∈ its, x = q.2.2
  | [], _, h => .inl h
  | q :: its, kds, h => by
    rcases dcD_in its _ h with z | ⟨r, hr, e⟩
    · rcases setD_in z with y | y
      · exact .inr ⟨q, by simp, y⟩
      · exact .inl y
    · exact .inr ⟨r, by simp [hr], e⟩
theorem NoM.dm {α : Type} {f : α → D × (Str × D)} {xs : List α} (h : ∀ x, insM (f x).2.2 = false) : NoM ((dcD (xs.map f)).map (·.2)) := fun d hd => by
  rcases dcD_in _ _ hd with z | ⟨q, hq, e⟩
  · cases z
  · obtain ⟨x, _, rfl⟩ := List.mem_map.mp hq
    rw [e]; exact h x
section
variable {X : Cx} {kx vx tg iter : Expr} {scope : Scope} {own : List (Str × Nat)} {pos : Pos} {ρ : Rho} {its : List (D × (Str × D))} {pat : Pat}
end
section
variable {X : Cx} {pin : List Nat} {ρ : RhoS} {Φ : Out → Prop} {e ke o : Expr} {d : D} {pos p' p1 p2 p3 : Pos} {i j : Nat} {x y f : Str} {C : Addr} {fds : List (Str × D)} {kds : List (Key × D)} {z : Str}
/-- .. over what is read in the whole heap, the items flat -/
theorem StAt.move {K : PySem.W.Frag} {E : Ent} {σ : L2.St} {H Hf : Hp} {A : Nat → List Addr} {v : V} (s : StAt K E ρ σ H Hf A) (hi : ρ[i]? = some (some (.ow d))) (hv : σ[i]? = some (some v)) (hp : E.pa i = none) (hpj : E.pa j = none) (hij : i ≠ j) :
    StAt K E ((ρ.set j (some (.ow d))).set i none) (σ.set j (some v)) H Hf (fun n => if n = j then A i else if n = i then [] else A n) where
  len := by rw [List.length_set, List.length_set, List.length_set]; exact s.len
  w0 := s.w0
  fh := s.fh
  fr := s.fr
  hh := s.hh
  kp := s.kp
  sl := fun n sv h => by
    by_cases hn : i = n
    · subst hn
      by_cases hl : i < (ρ.set j (some (.ow d))).length
      · rw [List.getElem?_set_self hl] at h; cases h
      · rw [List.getElem?_eq_none (by rw [List.length_set]; omega)] at h; cases h
    · rw [List.getElem?_set_ne hn] at h
      by_cases hj : j = n
      · subst hj
        by_cases hl : j < ρ.length
        · rw [List.getElem?_set_self hl] at h; cases h
          obtain ⟨v', e1, e2⟩ := s.sl i _ hi
          rw [hv] at e1; cases e1
          exact ⟨v, List.getElem?_set_self (by rw [← s.len]; exact hl), by dsimp only; rw [if_pos rfl]; exact e2⟩
        · rw [List.getElem?_eq_none (by rw [List.length_set]; omega)] at h; cases h
      · rw [List.getElem?_set_ne hj] at h ⊢
        obtain ⟨v', e1, e2⟩ := s.sl n sv h
        refine ⟨v', e1, ?_⟩
        cases sv with
        | fz d' => exact e2
        | ow d' => dsimp only at e2 ⊢; rw [if_neg (fun q => hj q.symm), if_neg (fun q => hn q.symm)]; exact e2
  ap := fun n a ha => by
    by_cases hj : n = j
    · rw [if_pos hj] at ha
      obtain ⟨h1, h2, h3⟩ := s.ap i a ha
      exact ⟨h1, h2, .inl (h3.resolve_right fun q => q.2 hp)⟩
    · rw [if_neg hj] at ha
      by_cases hn : n = i
      · rw [if_pos hn] at ha; exact absurd ha (by simp)
      · rw [if_neg hn] at ha; exact s.ap n a ha
  dj := fun n m a h1 h2 => by
    have g : ∀ n, a ∈ (if n = j then A i else if n = i then [] else A n) → (n = j ∧ a ∈ A i) ∨ (n ≠ j ∧ n ≠ i ∧ a ∈ A n) := fun n h => by
      by_cases hj : n = j
      · rw [if_pos hj] at h; exact .inl ⟨hj, h⟩
      · rw [if_neg hj] at h
        by_cases hn : n = i
        · rw [if_pos hn] at h; exact absurd h (by simp)
        · rw [if_neg hn] at h; exact .inr ⟨hj, hn, h⟩
    rcases g n h1 with ⟨a1, a2⟩ | ⟨a1, a2, a3⟩ <;> rcases g m h2 with ⟨b1, b2⟩ | ⟨b1, b2, b3⟩
    · rw [a1, b1]
    · exact absurd (s.dj _ _ _ a2 b3).symm b2
    · exact absurd (s.dj _ _ _ b2 a3).symm a2
    · exact s.dj _ _ _ a3 b3
  pn := fun n a h => by
    have hn : j ≠ n := fun q => by subst q; rw [hpj] at h; cases h
    rw [List.getElem?_set_ne hn]; exact s.pn n a h
end
end Pf

namespace Pf
open PySem L2
open Evl (Ex)
theorem RepAll.any {K : PySem.W.Frag} {H H' : Hp} : ∀ {ds : List D} {vs : List V}, RepAll K H ds vs → ds.all flatD = true → RepAll K H' ds vs
  | _, _, .nil, _ => .nil
  | _, _, .cons r t, h => by
    rw [List.all_cons, Bool.and_eq_true] at h
    exact .cons (r.any h.1) (RepAll.any t h.2)
section
variable {X : Cx} {elt : Expr} {elts : List Expr} {scope : Scope} {own : List (Str × Nat)} {pos tpos apos cpos p1 p2 : Pos} {kk : Nat} {ρ : Rho} {its : List (D × Option D)} {pat : Pat} {x f : Str} {i : Nat} {C : Addr} {fds : List (Str × D)} {kds : List (Key × D)}
end
section
variable {X : Cx} {pin : List Nat} {ρ : RhoS} {Φ : Out → Prop} {es : List Expr} {ds ts : List D} {pos tpos p1 p2 p3 : Pos} {kk : Nat} {i : Nat} {x : Str}
end
section
variable {X : Cx} {pin : List Nat} {ρ : RhoS} {Φ : Out → Prop} {pos p' : Pos} {i j : Nat} {x : Str}
end
end Pf

namespace Pf
open PySem L2 PySem.Spec PyProof.Rows
open Evl (Ex)
section
variable {prog : Program} {w : World} {A : Around} {E : Value → Shared → Prop} {s : Shared}
end
section
variable {X : Cx} {pos tpos p2 : Pos}
end
end Pf

namespace Pf
open PySem L2
open Evl (Ex)
theorem OwnAll.drop {K : PySem.W.Frag} {Hf H : Hp} : ∀ {ds : List D} {vs : List V} {B : List Addr} (n : Nat), OwnAll K Hf H ds vs B → ∃ B', (∀ b ∈ B', b ∈ B) ∧ OwnAll K Hf H (ds.drop n) (vs.drop n) B'
  | _, _, B, 0, h => ⟨B, fun _ q => q, h⟩
  | _, _, _, _ + 1, .nil => ⟨[], fun _ q => q, .nil⟩
  | _, _, _, n + 1, .cons q t _ _ => by
    obtain ⟨B', h1, h2⟩ := OwnAll.drop n t
    exact ⟨B', fun b hb => List.mem_append_right _ (h1 b hb), h2⟩
theorem OwnAll.dropLast {K : PySem.W.Frag} {Hf H : Hp} : ∀ {ds : List D} {vs : List V} {B : List Addr}, OwnAll K Hf H ds vs B → ∃ B', (∀ b ∈ B', b ∈ B) ∧ OwnAll K Hf H ds.dropLast vs.dropLast B'
  | _, _, _, .nil => ⟨[], fun _ q => q, .nil⟩
  | _, _, _, .cons q .nil _ _ => ⟨[], fun _ h => absurd h (by simp), .nil⟩
  | _, _, _, .cons (A := A1) q (.cons (A := A2) (B := B2) q2 t2 n2 w2) nd w => by
    obtain ⟨B', h1, h2⟩ := OwnAll.dropLast (.cons q2 t2 n2 w2)
    exact ⟨A1 ++ B', fun b hb => by
      rcases List.mem_append.mp hb with z | z
      · exact List.mem_append_left _ z
      · exact List.mem_append_right _ (h1 b z), .cons q h2 (fun a ha hb => nd a ha (h1 a hb)) w⟩
section
variable {K : PySem.W.Frag} {E : Ent} {ρ : RhoS} {σ : L2.St} {H Hf : Hp} {A : Nat → List Addr} {i : Nat} {C : Addr} {fds : List (Str × D)} {f : Str} {ds : List D}
end
section
variable {X : Cx} {pin : List Nat} {ρ : RhoS} {Φ : Out → Prop} {e : Expr} {d : D} {pos tpos p' p1 p2 p3 : Pos} {i j : Nat} {x y f : Str} {C : Addr} {fds : List (Str × D)} {ds : List D}
end
end Pf

namespace Pf
open PySem L2
open Evl (Ex)
def Fx (i : Nat) (f : Str) (l : Addr) (vs : List V) (σ : L2.St) (H : Hp) : Prop := ∃ ad C dx fs, σ[i]? = some (some (.ref ad)) ∧ H ad = some (.ins C dx fs) ∧ fs.lookup f = some (.ref l) ∧ l ≠ ad ∧ H l = some (.lst vs)
theorem Fx.grow {i : Nat} {f : Str} {l : Addr} {vs : List V} {σ : L2.St} {H H' : Hp} (h : Fx i f l vs σ H) (e : Ex H H') : Fx i f l vs σ H' := by
  obtain ⟨ad, C, dx, fs, h1, h2, h3, h4, h5⟩ := h
  exact ⟨ad, C, dx, fs, h1, e _ _ h2, h3, h4, e _ _ h5⟩
theorem Fx.slot {i j : Nat} {f : Str} {l : Addr} {vs : List V} {σ σ' : L2.St} {H : Hp} (h : Fx i f l vs σ H) (e : σ'[i]? = σ[i]?) : Fx i f l vs σ' H := by
  obtain ⟨ad, C, dx, fs, h1, h2, h3, h4, h5⟩ := h
  exact ⟨ad, C, dx, fs, e.trans h1, h2, h3, h4, h5⟩
section
variable {X : Cx} {pin : List Nat} {st : Stmt} {rest a b body : List Stmt} {ρ : RhoS} {Φ : Out → Prop} {e c tg : Expr} {d : D} {pos p' p1 p2 : Pos} {i j : Nat} {x f g : Str} {t : Bool} {C : Addr} {fds : List (Str × D)}
end
end Pf

namespace Pf
open PySem L2 PySem.Spec PyProof.Rows
open Evl (Ex)
section
variable {K : PySem.W.Frag}
theorem r1_neg {i : Int} : R1D K (rU fun i => .int (-i)) (.int i) (.int (-i)) := fun W H v ex r Q q => by
  cases r; exact ⟨i, rfl, q.now ex (.int _)⟩
end
section
variable {X : Cx} {ρ : Rho} {e a b c : Expr} {pos p p2 pos2 : Pos}
theorem jb_intB {t : Bool} (T : Bt X.mg) (ha : JA X [e] ρ [.bl t]) (hg : Gl X "int" := by rfl) (he : starEach [e] X.env = (false, eval e X.env) :: starEach [] X.env := by rfl) (hpl : (backTo pos (starEach [] X.env)).any (·.1) = false := by rfl) :
    J X (.Call (.Name "int" p) [e] [] pos) ρ (.int (if t then 1 else 0)) := j_ct call_int1 T.int (by decide +kernel) ha rc_intB hg (by decide) (by decide) he hpl
theorem j_neg {i : Int} (ha : J X a ρ (.int i)) : J X (.UnaryOp .USub a pos) ρ (.int (-i)) := j_un un_neg ha r1_neg
end
section
variable {E : Ent} {σ : L2.St} {H Hf : Hp} {A : Nat → List Addr}
theorem js_retRP {P : D → Prop} (h : JP X e (retR pin ρ) P) (hk : ∀ d, P d → Φ (.rt d ρ)) : JS X pin (.Return (some e) pos) ρ Φ := ⟨fun E σ H D hp ⟨Hf, A, s⟩ k =>
  .of (ps_ret pe_w) (h (retW E Hf H A) σ H s.retH (s.visR hp) _ fun d hd v W' H' st r => k _ (hk d hd) v H' ⟨σ, Hf, A, W', s.grow st.hh, s.retHf.trans st.ww, st.wh, fun b h1 h2 => by
      by_cases q : retW E Hf H A b = none
      · exact s.kp b (st.fr b h1 q)
      · by_cases hn : ∃ i, b ∈ A i ∧ E.pa i ≠ none
        · exact absurd (retW_arg hn) q
        · by_cases z : E.H0 b = none
          · exact z
          · rw [retW_old hn z] at q; exact s.fr b q h2, fun i a ha hpa => by
      cases q : W' a with
      | none => rfl
      | some o => exact absurd (st.fr a (by rw [q]; simp) (retW_arg ⟨i, ha, hpa⟩)) (s.ap i a ha).2.1, r⟩)⟩
theorem js_retP {P : D → Prop} (h : JP X e (allR ρ) P) (hk : ∀ d, P d → Φ (.rt d ρ)) : JS X [] (.Return (some e) pos) ρ Φ := js_retRP (by rw [retR_nil]; exact h) hk
end
section
variable {X : Cx} {pin : List Nat} {st : Stmt} {rest a b body : List Stmt} {ρ : RhoS} {Φ : Out → Prop} {e c tg iter : Expr} {es : List Expr} {d : D} {ds : List D} {pos p p' p1 p2 p3 : Pos} {i : Nat} {x : Str} {t : Bool}
end
end Pf

namespace Pf
open PySem L2 PySem.Spec PyProof.Rows
open Evl (Ex)
section
variable {X : Cx} {ρ : Rho} {a : Expr} {pos p p2 kp tpos : Pos} {elts : List Expr} {kk kt : Nat}
end
end Pf

namespace Pf
open PySem L2 PySem.Spec PyProof.Rows PySem.W
open Evl (Ex)
/-- three digits -/
def d3 (n : Nat) : PySem.Str := ⟨#[48 + n / 100, 48 + n / 10 % 10, 48 + n % 10]⟩
end Pf

namespace Pf
open PySem L2 PySem.Spec PyProof.Rows
open Evl (Ex)
section
variable {X : Cx} {ρ : Rho} {e o a b c : Expr} {es : List Expr} {pos p p1 p2 p3 apos cpos : Pos} {kk : Nat}
inductive JF (X : Cx) (ρ : Rho) : List Expr → List PySem.Str → Prop
  | nil : JF X ρ [] []
  | cons {e : Expr} {y : PySem.Str} {es : List Expr} {ys : List PySem.Str} (h : J X e ρ (.str y)) (r : JF X ρ es ys) : JF X ρ (e :: es) (y :: ys)
theorem app_len (x y : PySem.Str) : (x ++ y).length = x.length + y.length := by
  show (x.cps ++ y.cps).size = _
  rw [Array.size_append]; rfl
def signsD (z : PySem.Str) : List D := z.cps.toList.map fun c => .str ⟨#[c]⟩
theorem signsD_get {z : PySem.Str} {i : Nat} {d : D} (h : (signsD z)[i]? = some d) : ∃ c, z.cps[i]? = some c ∧ d = .str ⟨#[c]⟩ := by
  unfold signsD at h
  rw [List.getElem?_map, Array.getElem?_toList] at h
  cases hc : z.cps[i]? with
  | none => rw [hc] at h; cases h
  | some c => rw [hc] at h; cases h; exact ⟨c, rfl, rfl⟩
theorem signsD_length {z : PySem.Str} : (signsD z).length = z.cps.size := by unfold signsD; rw [List.length_map, Array.length_toList]
theorem walks_signs {K : PySem.W.Frag} {W : Hp} {z : PySem.Str} : Walks K (Its z) W (signsD z) where
  go := fun i H _ h => by rw [signsD_length] at h; exact h
  yld := fun i H x H' d _ hd ⟨hH, c, hc, hx⟩ W2 _ e2 => by
    obtain ⟨c', hc', rfl⟩ := signsD_get hd
    rw [hc] at hc'
    cases hc'
    subst hx hH
    exact ⟨W2, .refl e2, .str _⟩
  stop := fun H _ => Nat.le_of_eq signsD_length.symm
theorem ji_str {tg : Expr} {z : PySem.Str} (ha : J X a ρ (.str z)) : JI X tg a ρ (signsD z) := ⟨fun W σ H ex hV R g => .of (pi_str pe_w) (ha W σ H ex hV _ fun v W1 H1 s1 r1 => by
  cases r1; exact ⟨z, rfl, g _ _ _ s1 walks_signs⟩)⟩
theorem j_join {x : PySem.Str} {ys : List PySem.Str} {z : PySem.Str} (ho : J X o ρ (.str x)) (ha : J X a ρ (.lst (ys.map D.str))) (hz : (ys.map (·.length)).sum + ys.length * x.length ≤ 16777216) (hj : Txt.join x ys = z) (hs : starEach [a] X.env = [(false, eval a X.env)] := by rfl) (hbase : attributeBase o "join" X.env (eval o X.env) = eval o X.env := by rfl) (hline : (apos.endLine == pos.line) = true := by rfl) :
    J X (.Call (.Attribute o "join" apos) [a] [] pos) ρ (.str z) := ⟨fun W σ H ex hV Q g => .of (pe_join pe_w pe_w hs hbase hline) (ho W σ H ex hV _ fun v W1 H1 s1 r1 => by
  cases r1
  refine ⟨⟨x, rfl⟩, ha W1 σ H1 s1.wh (hV.mono s1.ww) _ fun u W2 H2 s2 r2 => ?_⟩
  cases r2 with
  | lst h1 k => cases k.strs; subst hj; exact ⟨x, _, ys, rfl, rfl, .inl (SqL.of (s2.wh _ _ h1)), hz, g _ _ _ (s1.trans s2) (.str _)⟩)⟩
theorem rc_intS {K : PySem.W.Frag} {x : PySem.Str} {n : Int} (h : PySem.intText? x = some n) (hl : x.length ≤ 640) : RCD K (fun xs H Q => ∃ a n, xs = [V.str a] ∧ PySem.intText? a = some n ∧ a.length ≤ 640 ∧ Q (V.int n) H) [.str x] (.int n) := fun W H vs ex r Q q => by
  cases r with | cons r t => cases t; cases r; exact ⟨x, n, rfl, h, hl, q.now ex (.int _)⟩
theorem jb_intS {x : PySem.Str} {n : Int} (T : Bt X.mg) (ha : JA X [e] ρ [.str x]) (h : PySem.intText? x = some n) (hl : x.length ≤ 640) (hg : Gl X "int" := by rfl) (he : starEach [e] X.env = (false, eval e X.env) :: starEach [] X.env := by rfl) (hpl : (backTo pos (starEach [] X.env)).any (·.1) = false := by rfl) :
    J X (.Call (.Name "int" p) [e] [] pos) ρ (.int n) := j_ct call_int_str T.int (by decide +kernel) ha (rc_intS h hl) hg (by decide) (by decide) he hpl
end
end Pf

namespace Pf
open PySem L2 PySem.Spec PyProof.Rows
open Evl (Ex)

section
open PySem.W PySem.Calls
variable {prog : Program} {w : World} {A : Around} {E : Value → Shared → Prop} {h : Heap} {g : Array GenState} {d : Drawn} {t : Nat} {os : OsState}
end

section
variable {X : Cx} {pins : List (Addr × Obj)} {σ : L2.St} {H : Hp} {s : Shared} {A : Around} {E : Value → Shared → Prop} {a C u : Addr}
end

section
variable {P : Program} {w : World} {K : PySem.W.Frag} {mg : Str → Option Value} {base : Heap} {k : Nat} {f C cc c : Addr} {qual pa fld : Str} {params : Arguments} {scope : Scope} {dV kV doc pm ct oc : Value} {an od : Option Addr} {osl : Array (Option Value)} {fd : FuncData} {msg : Expr} {p0 p1 p2 p3 p4 q0 q1 q2 q3 : Pos} {G : D → Prop} {body : List Stmt}
end
end Pf

namespace Pf
open PySem L2 PySem.Spec PyProof.Rows
open Evl (Ex)

abbrev HdT := Value × Option Nat × (Addr → Value → Option Addr → TS)
def SuiteOk (X : Cx) (st : List Stmt) (ts : Addr → Value → Option Addr → TS) : Prop := ∀ (a : Addr) (oe : Obj) (cls : Value) (d : Option Addr) (pn : List (Addr × Obj)), Zc cls d oe → (∃ vs, oe.data = .fields vs) → PSs (X.suite a ((a, oe) :: pn)) st (ts a cls d)
inductive HdM (X : Cx) : List ExceptHandler → List HdT → Prop
  | nil : HdM X [] []
  | plain {x : Str} {c : Value} {ts : Addr → Value → Option Addr → TS} {b₀ : Stmt} {suite : List Stmt} {np pos' : Pos} {hds : List ExceptHandler} {l : List HdT} : Names X x c → SuiteOk X (b₀ :: suite) ts → HdM X hds l → HdM X (.ExceptHandler (some (.Name x np)) none (b₀ :: suite) pos' :: hds) ((c, none, ts) :: l)
  | named {x n : Str} {i : Nat} {c : Value} {ts : Addr → Value → Option Addr → TS} {b₀ : Stmt} {suite : List Stmt} {np pos' : Pos} {hds : List ExceptHandler} {l : List HdT} : Names X x c → X.N[i]? = some n → X.env.kindOf n = some .local → SuiteOk X (b₀ :: suite) ts → HdM X hds l →
      HdM X (.ExceptHandler (some (.Name x np)) (some n) (b₀ :: suite) pos' :: hds) ((c, some i, ts) :: l)

section
variable {X : Cx} {body : List Stmt} {h₀ : ExceptHandler} {hds : List ExceptHandler} {l : List HdT} {pos : Pos} {tb : L2.WX → TS} {Wo : L2.WX}
end
end Pf

namespace Pf
open PySem L2 PySem.Spec PyProof.Rows
open Evl (Ex)

/-- every wish that X takes, at once -/
def Wall (X : Cx) : L2.WX := fun cls d σ H => ∃ Wx : L2.WX, L2.Takes X Wx ∧ Wx cls d σ H
/-- what is done where an error er leaves, made behind H -/
def GoodX (K : PySem.W.Frag) (H : Hp) (er : Er) (E : XK) : Prop := ∀ d H', Ex H H' → ErAt K H' er d → (∀ dd, d = some dd → H dd = none) → E er.cls d H'
theorem GoodX.step {K : PySem.W.Frag} {H H1 : Hp} {er : Er} {E : XK} (g : GoodX K H er E) (e : Ex H H1) : GoodX K H1 er E := fun d H' e1 at' fr => g d H' (e.trans e1) at' fun dd q => by
  cases z : H dd with
  | none => rfl
  | some o => have := e _ _ z; rw [fr dd q] at this; cases this
section
variable {P : Program} {w : World} {K : PySem.W.Frag} {mg : Str → Option Value} {base : Heap} {x qual : Str} {st : Stmt} {f : Addr} {fd : FuncData} {N ps : List Str} {k : Nat} {G : List D → (D → Prop) → (Er → Prop) → Prop}
end

section
variable {X : Cx} {pin : List Nat} {ρ : RhoS} {Φ : Out → Prop} {e : Expr} {es : List Expr} {ds : List D} {pos p p' : Pos} {i k j n : Nat} {x : Str} {P : D → Prop} {R : Er → Prop} {G : List D → (D → Prop) → (Er → Prop) → Prop}
theorem ExOk.good {E : Ent} {ρ : RhoS} {er : Er} (h : ExOk X E er ρ) {σ : L2.St} {H : Hp} (s : StOk X.K E ρ σ H) : GoodX X.K H er fun cls d H' => Wall X cls d σ H' := fun d H' ex at' fr => by
  obtain ⟨Wx, tk, q⟩ := h
  exact ⟨Wx, tk, q d σ H H' s ex at' fr⟩
end

section
variable {X : Cx} {pin : List Nat} {ρ : RhoS} {Φ : Out → Prop} {e : Expr} {es : List Expr} {ds : List D} {pos p p' : Pos} {i k j n : Nat} {x : Str} {er : Er}
end

/-- an except clause: its class, the slot of its name, its suite -/
structure Hd where
  c : Value
  i : Option Nat
  st : List Stmt
inductive HdJ (X : Cx) : List ExceptHandler → List Hd → Prop
  | nil : HdJ X [] []
  | plain {x : Str} {c : Value} {b₀ : Stmt} {suite : List Stmt} {np pos' : Pos} {hds : List ExceptHandler} {l : List Hd} : Names X x c → HdJ X hds l → HdJ X (.ExceptHandler (some (.Name x np)) none (b₀ :: suite) pos' :: hds) (⟨c, none, b₀ :: suite⟩ :: l)
  | named {x n : Str} {i : Nat} {c : Value} {b₀ : Stmt} {suite : List Stmt} {np pos' : Pos} {hds : List ExceptHandler} {l : List Hd} : Names X x c → X.N[i]? = some n → X.env.kindOf n = some .local → HdJ X hds l →
      HdJ X (.ExceptHandler (some (.Name x np)) (some n) (b₀ :: suite) pos' :: hds) (⟨c, some i, b₀ :: suite⟩ :: l)
/-- the dict of a caught error: there where it has fields, none else -/
structure DOk (er : Er) (d : Option Addr) : Prop where
  has : er.fs.isSome = true → ∃ dd, d = some dd
  no : er.fs = none → d = none
instance {er : Er} {d : Option Addr} : CoeFun (DOk er d) (fun _ => er.fs.isSome = true → ∃ dd, d = some dd) := ⟨DOk.has⟩
def tsOf (X : Cx) (st : List Stmt) : Addr → Value → Option Addr → TS := fun a cls d D σ H => ∀ (oe : Obj) (pn : List (Addr × Obj)), Zc cls d oe → (∃ vs, oe.data = .fields vs) → wSs (X.suite a ((a, oe) :: pn)) st D σ H
theorem tsOf_ok {X : Cx} {st : List Stmt} : SuiteOk X st (tsOf X st) := fun a oe cls d pn hz hf => ⟨fun pins s σ H D I h => h oe pn hz hf pins s I⟩
def hdT (X : Cx) (h : Hd) : HdT := (h.c, h.i, tsOf X h.st)
theorem HdJ.m {X : Cx} : ∀ {hds : List ExceptHandler} {l : List Hd}, HdJ X hds l → HdM X hds (l.map (hdT X))
  | _, _, .nil => .nil
  | _, _, .plain hc r => .plain hc tsOf_ok r.m
  | _, _, .named hc hi hl r => .named hc hi hl tsOf_ok r.m
section
variable {K : PySem.W.Frag} {E : Ent} {ρ : RhoS} {σ : L2.St} {H Hf : Hp} {A : Nat → List Addr}
end
section
variable {X : Cx} {pin : List Nat} {ρ : RhoS} {Φ : Out → Prop} {body : List Stmt} {h₀ : ExceptHandler} {hds : List ExceptHandler} {l : List Hd} {pos : Pos}
end
end Pf

namespace Pf
open PySem L2 PySem.Spec PyProof.Rows
open Evl (Ex)
section
variable {X : Cx} {K : PySem.W.Frag} {ρ : Rho} {a b e o : Expr} {es : List Expr} {ds es' : List D} {pos p tpos apos cpos : Pos} {elts : List Expr} {kk : Nat} {d : D}
theorem zipL_get {xs ys : List D} {i : Nat} {d : D} (h : ((xs.zip ys).map fun p => D.tup [p.1, p.2])[i]? = some d) : ∃ x y, xs[i]? = some x ∧ ys[i]? = some y ∧ d = .tup [x, y] := by
  rw [List.getElem?_map] at h
  cases q : (xs.zip ys)[i]? with
  | none => rw [q] at h; cases h
  | some x =>
    rw [q] at h
    obtain ⟨h1, h2⟩ := List.getElem?_zip_eq_some.mp q
    exact ⟨x.1, x.2, h1, h2, (Option.some.inj h).symm⟩
theorem walks_zipL {W : Hp} {l m : Addr} {vs us : List V} (h : W l = some (.lst vs)) (k : RepAll K W ds vs) (h' : W m = some (.lst us)) (k' : RepAll K W es' us) : Walks K (Itz K l m) W ((ds.zip es').map fun p => D.tup [p.1, p.2]) where
  go := fun i H ex hi => by
    rw [List.length_map, List.length_zip] at hi
    have hv : i < vs.length := by rw [← k.length]; omega
    have hu : i < us.length := by rw [← k'.length]; omega
    exact ⟨vs, us, vs[i], us[i], SqL.of (ex _ _ h), SqL.of (ex _ _ h'), by simp [hv], by simp [hu]⟩
  yld := fun i H x H' d ex hd hy W2 e1 e2 => by
    obtain ⟨T, y, z, rfl, hT, rfl, hy, hz⟩ := hy
    obtain ⟨dx, dy, h1, h2, rfl⟩ := zipL_get hd
    obtain ⟨v, g1, g2⟩ := k.get h1
    obtain ⟨u, g3, g4⟩ := k'.get h2
    have q := hy vs (SqL.of (ex _ _ h))
    rw [g1] at q; cases q
    have q := hz us (SqL.of (ex _ _ h'))
    rw [g3] at q; cases q
    have en := Evl.Ex.new (o := .tup [y, z]) (Evl.fresh_back e2 hT)
    exact ⟨_, .new e2 hT, .tup (SqT.of upd_same) (.cons ((g2.mono e1).mono en) (.cons ((g4.mono e1).mono en) .nil))⟩
  stop := fun H ex => ⟨vs, us, SqL.of (ex _ _ h), SqL.of (ex _ _ h'), by
    rw [List.length_map, List.length_zip]
    have := k.length; have := k'.length
    omega⟩
theorem ji_zipL (hm : X.mg "zip" = none) (h : J X a ρ (.lst ds)) (h' : J X b ρ (.lst es')) (hg : Gl X "zip" := by rfl) (hs : starEach [a, b] X.env = (false, eval a X.env) :: starEach [b] X.env := by rfl) (hs2 : starEach [b] X.env = (false, eval b X.env) :: starEach [] X.env := by rfl) (hpl : (backTo pos (starEach [b] X.env)).any (·.1) = false := by rfl) :
    JI X (.Tuple elts kk tpos) (.Call (.Name "zip" p) [a, b] [] pos) ρ ((ds.zip es').map fun p => D.tup [p.1, p.2]) := ⟨fun W σ H ex hV R g =>
  .of (pi_zip hg hm pa_w hs hpl) (ja_cons h (ja_cons h' ja_nil hs2) hs W σ H ex hV _ fun vs W1 H1 s1 r1 => by
    cases r1 with
    | cons r t =>
      cases t with
      | cons r' t =>
        cases t
        cases r with
        | lst h1 k =>
          cases r' with
          | lst h2 k2 => exact ⟨_, _, _, _, rfl, SqL.of (s1.wh _ _ h1), SqL.of (s1.wh _ _ h2), g _ W1 H1 s1 (walks_zipL h1 k h2 k2)⟩)⟩
end
def tx (cs : List Nat) : Str := ⟨cs.toArray⟩
theorem tx_cps (cs : List Nat) : (tx cs).cps.toList = cs := rfl
theorem tx_len (cs : List Nat) : (tx cs).length = cs.length := by show cs.toArray.size = _; simp
theorem tx_of (z : Str) : tx z.cps.toList = z := by show (⟨z.cps.toList.toArray⟩ : Str) = z; rw [Array.toArray_toList]
theorem len_of (z : Str) : z.cps.toList.length = z.length := by rw [Array.length_toList]; rfl
theorem tx_app (a b : List Nat) : tx a ++ tx b = tx (a ++ b) := by
  show (⟨a.toArray ++ b.toArray⟩ : Str) = ⟨(a ++ b).toArray⟩
  rw [List.append_toArray]
theorem tx_inj {a b : List Nat} (h : tx a = tx b) : a = b := congrArg (fun z : Str => z.cps.toList) h
theorem le_size {n : Nat} (h : n ≤ 10000) : n ≤ sizeLine := Nat.le_trans h (by decide)
theorem lt_size {n : Nat} (h : n ≤ 10000) : n < sizeLine := Nat.lt_of_le_of_lt h (by decide)
theorem atI_getD {α : Type} (d : α) {xs : List α} {i : Int} (h0 : 0 ≤ i) (h1 : i < xs.length) : atI xs i = some (xs.getD i.toNat d) := by
  unfold atI ixN
  rw [if_pos h0, if_pos (by omega)]
  show xs[i.toNat]? = _
  rw [List.getD_eq_getElem?_getD, List.getElem?_eq_getElem (by omega)]
  rfl
theorem atI_N {α : Type} (d : α) {xs : List α} {i : Int} (n : Nat) (h0 : i = (n : Int)) (h1 : n < xs.length) : atI xs i = some (xs.getD n d) := by
  subst h0
  exact atI_getD d (by omega) (by omega)
theorem cut_take {α : Type} (xs : List α) (n : Nat) (h : n ≤ xs.length) : cut xs none (some (n : Int)) = xs.take n := by
  unfold cut
  rw [HT.sIx_none, HT.sIx_nat, List.drop_zero]
  congr 1
  omega
theorem cut_drop {α : Type} (xs : List α) (n : Nat) (h : n ≤ xs.length) : cut xs (some (n : Int)) none = xs.drop n := by
  unfold cut
  rw [HT.sIx_none, HT.sIx_nat, Nat.min_eq_left h]
  exact List.take_of_length_le (by rw [List.length_drop]; omega)
theorem lenS {z : Str} (h : z.length ≤ sizeLine) : lenD (.str z) = some z.length := if_pos h
theorem j_gI {X : Cx} {ρ : Rho} {pos : Pos} {n : Str} {i : Int} (h : ∃ t, X.mg n = some (.int i t)) (hg : Gl X n := by rfl) (hdb : (n == ("__debug__" : Str)) = false := by decide) : J X (.Name n pos) ρ (.int i) := by
  obtain ⟨t, h⟩ := h
  exact j_glob (v := .int i) h ⟨t, rfl⟩ (fun H => .int _) hg hdb
theorem j_gS {X : Cx} {ρ : Rho} {pos : Pos} {n : Str} {i : Str} (h : ∃ t, X.mg n = some (.str i t)) (hg : Gl X n := by rfl) (hdb : (n == ("__debug__" : Str)) = false := by decide) : J X (.Name n pos) ρ (.str i) := by
  obtain ⟨t, h⟩ := h
  exact j_glob (v := .str i) h ⟨t, rfl⟩ (fun H => .str _) hg hdb
def nmSign (c : Nat) : Bool := (decide (97 ≤ c) && decide (c ≤ 122)) || (decide (48 ≤ c) && decide (c ≤ 57))
theorem nm_mem (c : Nat) : decide (c ∈ ("abcdefghijklmnopqrstuvwxyz0123456789" : Str).cps.toList) = nmSign c := by
  rw [show ("abcdefghijklmnopqrstuvwxyz0123456789" : Str).cps.toList = [97, 98, 99, 100, 101, 102, 103, 104, 105, 106, 107, 108, 109, 110, 111, 112, 113, 114, 115, 116, 117, 118, 119, 120, 121, 122, 48, 49, 50, 51, 52, 53, 54, 55, 56, 57] from by decide +kernel]
  unfold nmSign
  rw [Bool.eq_iff_iff, Bool.or_eq_true, Bool.and_eq_true, Bool.and_eq_true, decide_eq_true_iff, decide_eq_true_iff, decide_eq_true_iff, decide_eq_true_iff, decide_eq_true_iff]
  simp only [List.mem_cons, List.not_mem_nil, or_false]
  omega
def isNm (z : Str) : Bool := (decide (1 ≤ z.length) && decide (z.length ≤ 12)) && z.cps.toList.all nmSign
end Pf

namespace Pf
open PySem L2 PySem.Spec PyProof.Rows
open Evl (Ex)
section
variable {X : Cx} {ρ : Rho} {a b e : Expr} {es : List Expr} {x y z d : D} {ds es' : List D} {pos p : Pos} {op : CmpOp} {bo : Operator} {P P' : D → Prop} {R : Er → Prop} {t : Bool}
theorem op_mulS : OpR X (binaryOp .Mult) (fun x y H Q => ∃ (i : Str) (n : Int), x = .str i ∧ y = .int n ∧ MulOk i n ∧ Q (.str (Txt.mul i n)) H) := by
  rintro pins s σ H x y v u Q I rx ry ⟨i, n, rfl, rfl, hk, q⟩
  obtain ⟨t, rfl⟩ := rx
  obtain ⟨t', rfl⟩ := ry
  exact SB.mul hk fun t2 k => ⟨.str (Txt.mul i n), H, I.tok _, ⟨t2, rfl⟩, q⟩
theorem od_mulS {i z : Str} {n : Int} (h : MulOk i n) (hz : Txt.mul i n = z) : OpD X .Mult (.str i) (.int n) (.str z) := ⟨_, op_mulS, fun W H v u ex r1 r2 Q q => by
  cases r1; cases r2; subst hz; exact ⟨i, n, rfl, rfl, h, q.now ex (.str _)⟩⟩
end
def kySign (c : Nat) : Bool := nmSign c || decide (c = 45)
theorem ky_mem (c : Nat) : decide (c ∈ ("abcdefghijklmnopqrstuvwxyz0123456789-" : Str).cps.toList) = kySign c := by
  rw [show ("abcdefghijklmnopqrstuvwxyz0123456789-" : Str).cps.toList = ("abcdefghijklmnopqrstuvwxyz0123456789" : Str).cps.toList ++ [45] from by decide +kernel]
  unfold kySign
  rw [← nm_mem, Bool.eq_iff_iff, Bool.or_eq_true, decide_eq_true_iff, decide_eq_true_iff, decide_eq_true_iff, List.mem_append, List.mem_singleton]
def isKy (z : Str) : Bool := (decide (1 ≤ z.length) && decide (z.length ≤ 20)) && z.cps.toList.all kySign
def nmD : D → Bool
  | .str z => isNm z
  | _ => false
def kyD : D → Bool
  | .str z => isKy z
  | _ => false
def inD (lo hi : Int) : D → Bool
  | .int i => decide (lo ≤ i) && decide (i ≤ hi)
  | _ => false
/-- an entry by its parts -/
def entD : List D → Bool
  | [.str w, a, b, c, d] => decide (w = "ask") && ((kyD a && (nmD b && inD 1 1000 c)) && inD 0 1000000000 d)
  | [.str w, a, b] => decide (w = "release") && (kyD a && inD 0 1000000000 b)
  | _ => false
end Pf

namespace Pf
open PySem L2 PySem.Spec PyProof.Rows
open Evl (Ex)
open PySem.NumText (AllDigits digitsVal)
section
variable {X : Cx} {K : PySem.W.Frag} {ρ : Rho} {a b e o : Expr} {es : List Expr} {ds : List D} {pos p apos cpos : Pos} {d : D}
theorem j_split {x y : PySem.Str} (ho : J X o ρ (.str x)) (ha : JA X [a] ρ [.str y]) (hy : (y.length == 0) = false) (hl : x.length + 2 ≤ sizeLine) (hbase : attributeBase o "split" X.env (eval o X.env) = eval o X.env := by rfl)
    (hfew : ((backTo cpos (starEach [a] X.env)).all (fun x => !x.1) && (backToKw cpos (keywordEach [] X.env)).all (fun x => x.1.isSome) && decide ([a].length + ([] : List Keyword).length + (if ([] : List Keyword).isEmpty then 0 else 1) < 30)) = true := by rfl)
    (hline : (apos.endLine == cpos.line) = true := by rfl) (hs : starEach [a] X.env = (false, eval a X.env) :: starEach [] X.env := by rfl) (hplain : (backTo cpos (starEach [] X.env)).any (·.1) = false := by rfl) :
    J X (.Call (.Attribute o "split" apos) [a] [] cpos) ρ (.lst ((Txt.split x y).map D.str)) := ⟨fun W σ H ex hV Q g =>
  .of (pe_bm PySem.F.plainAttrs_str PySem.F.slot_str_split PySem.F.type_str_split mt_split pe_w pa_w hbase hfew hline hs hplain) (ho W σ H ex hV _ fun v W1 H1 s1 r1 => by
  cases r1
  refine ⟨rfl, ha W1 σ H1 s1.wh (hV.mono s1.ww) _ fun us W2 H2 s2 r2 => ?_⟩
  cases r2 with
  | cons q1 r2 =>
    cases q1
    cases r2
    exact ⟨x, y, rfl, rfl, hy, hl, fun q hq => g _ _ _ ((s1.trans s2).trans (.new s2.wh hq)) (.lst upd_same (RepAll.toStrs _))⟩)⟩
theorem rc_strS {z : PySem.Str} : RCD K (fun xs H Q => ∃ a, xs = [V.str a] ∧ Q (V.str a) H) [.str z] (.str z) := fun W H vs ex r Q q => by
  cases r with | cons r t => cases t; cases r; exact ⟨_, rfl, q.now ex (.str _)⟩
theorem jb_strS {z : PySem.Str} (T : Bt X.mg) (ha : JA X [e] ρ [.str z]) (hg : Gl X "str" := by rfl) (he : starEach [e] X.env = (false, eval e X.env) :: starEach [] X.env := by rfl) (hpl : (backTo pos (starEach [] X.env)).any (·.1) = false := by rfl) :
    J X (.Call (.Name "str" p) [e] [] pos) ρ (.str z) := j_ct SkE.call_str_str T.str (by decide +kernel) ha rc_strS hg (by decide) (by decide) he hpl
end
theorem join_len (y : Str) : ∀ xs : List Str, (Txt.join y xs).length ≤ (xs.map (·.length)).sum + xs.length * y.length := by
  intro xs
  rw [TL.join_eq]
  induction xs with
  | nil => exact Nat.zero_le _
  | cons x xs ih =>
    cases xs with
    | nil => show x.length ≤ _; simp
    | cons z r =>
      show (x ++ y ++ Str.join y (z :: r)).length ≤ _
      rw [app_len, app_len]
      simp only [List.map_cons, List.sum_cons, List.length_cons, Nat.add_mul] at ih ⊢
      omega
theorem sum_le {xs : List Str} {m : Nat} (h : ∀ x ∈ xs, x.length ≤ m) : (xs.map (·.length)).sum ≤ xs.length * m := by
  induction xs with
  | nil => simp
  | cons x xs ih =>
    have h1 := h x (by simp)
    have h2 := ih fun y hy => h y (by simp [hy])
    simp only [List.map_cons, List.sum_cons, List.length_cons, Nat.add_mul]
    omega
def numS (n : Int) : List Nat := ((toString n : String) : Str).cps.toList
def isDg (c : Nat) : Bool := decide (48 ≤ c) && decide (c ≤ 57)
def okNum (cs : List Nat) (k : Nat) : Bool := (decide (1 ≤ cs.length) && decide (cs.length ≤ k)) && cs.all isDg
def zeroed (cs : List Nat) : Bool := decide (cs.getD 0 0 = 48) && !decide (cs = [48])
def pNum (cs : List Nat) (k : Nat) : Option Nat := if okNum cs k = true then (if zeroed cs = true then none else some (digitsVal cs)) else none
def optN : Option Nat → D
  | none => .non
  | some n => .int (n : Int)
theorem dg_mem (c : Nat) : decide (c ∈ ("0123456789" : Str).cps.toList) = isDg c := by
  rw [show ("0123456789" : Str).cps.toList = [48, 49, 50, 51, 52, 53, 54, 55, 56, 57] from by decide +kernel]
  unfold isDg
  rw [Bool.eq_iff_iff, Bool.and_eq_true, decide_eq_true_iff, decide_eq_true_iff, decide_eq_true_iff]
  simp only [List.mem_cons, List.not_mem_nil, or_false]
  omega
theorem val_lt : ∀ cs : List Nat, AllDigits cs → digitsVal cs < 10 ^ cs.length := by
  have key : ∀ (cs : List Nat) (acc : Nat), AllDigits cs → cs.foldl (fun acc c => acc * 10 + (c - 48)) acc < (acc + 1) * 10 ^ cs.length := by
    intro cs
    induction cs with
    | nil => intro acc _; simp
    | cons c cs ih =>
      intro acc h
      have hc := h c List.mem_cons_self
      have := ih (acc * 10 + (c - 48)) fun d hd => h d (List.mem_cons_of_mem _ hd)
      rw [List.foldl_cons, List.length_cons, Nat.pow_succ]
      refine Nat.lt_of_lt_of_le this ?_
      rw [Nat.mul_comm (10 ^ cs.length) 10, ← Nat.mul_assoc]
      exact Nat.mul_le_mul_right _ (by omega)
  intro cs h
  have := key cs 0 h
  unfold digitsVal
  simpa using this
theorem signs_of (n : Nat) : numS (n : Int) = (Nat.toDigits 10 n).map Char.toNat := PySem.W.KIN.signs_num n
theorem dig_range {c : Char} (h : c.isDigit = true) : 48 ≤ c.toNat ∧ c.toNat ≤ 57 := by
  unfold Char.isDigit at h
  rw [Bool.and_eq_true, decide_eq_true_iff, decide_eq_true_iff] at h
  exact ⟨h.1, h.2⟩
theorem numS_dig (n : Nat) : AllDigits (numS (n : Int)) := by
  intro c hc
  rw [signs_of] at hc
  obtain ⟨ch, hch, rfl⟩ := List.mem_map.mp hc
  exact dig_range (Nat.isDigit_of_mem_toDigits (by decide) (by decide) hch)
theorem numS_val (n : Nat) : digitsVal (numS (n : Int)) = n := by rw [signs_of]; exact PySem.W.KIN.val_back n
theorem numS_le {n k : Nat} (hk : 1 ≤ k) (h : n < 10 ^ k) : (numS (n : Int)).length ≤ k := by rw [signs_of, List.length_map]; exact digits10_le hk h
theorem numS_pos (n : Nat) : 1 ≤ (numS (n : Int)).length := by rw [signs_of, List.length_map]; exact tDigits_len_ge 10 n
theorem pNum_num {n k : Nat} (hk : 1 ≤ k) (h : n < 10 ^ k) : pNum (numS (n : Int)) k = some n := by
  have hd := numS_dig n
  have hl := numS_le hk h
  have hp := numS_pos n
  have hok : okNum (numS (n : Int)) k = true := by
    unfold okNum
    rw [Bool.and_eq_true, Bool.and_eq_true, decide_eq_true_iff, decide_eq_true_iff]
    refine ⟨⟨hp, hl⟩, List.all_eq_true.mpr fun c hc => ?_⟩
    unfold isDg
    rw [Bool.and_eq_true, decide_eq_true_iff, decide_eq_true_iff]
    exact hd c hc
  have hz : zeroed (numS (n : Int)) = false := by
    have hv := numS_val n
    cases hcs : numS (n : Int) with
    | nil => rfl
    | cons c rest =>
      cases rest with
      | nil =>
        unfold zeroed
        by_cases q : c = 48
        · subst q; rfl
        · show (decide (c = 48) && _) = false
          rw [decide_eq_false q]; rfl
      | cons e rest =>
        unfold zeroed
        show (decide (c = 48) && _) = false
        by_cases q : c = 48
        · exfalso
          subst q
          rw [hcs] at hv hd
          have h2 : digitsVal (e :: rest) = n := by rw [← hv]; rfl
          have h3 := val_lt (e :: rest) (fun c hc => hd c (List.mem_cons_of_mem _ hc))
          rw [h2] at h3
          have h4 := numS_le (n := n) (k := (e :: rest).length) (by simp) h3
          rw [hcs] at h4
          simp at h4
          omega
        · rw [decide_eq_false q]; rfl
  unfold pNum
  rw [if_pos hok, hz, numS_val]
  rfl
theorem sapp_assoc (a b c : Str) : a ++ b ++ c = a ++ (b ++ c) := by
  show (⟨a.cps ++ b.cps ++ c.cps⟩ : Str) = ⟨a.cps ++ (b.cps ++ c.cps)⟩
  rw [Array.append_assoc]
theorem join_fold (y x : Str) (xs : List Str) : xs.foldl (fun a z => a ++ y ++ z) x = Txt.join y (x :: xs) := by
  rw [TL.join_eq]
  induction xs generalizing x with
  | nil => rfl
  | cons z r ih =>
    rw [List.foldl_cons, ih]
    show Str.join y ((x ++ y ++ z) :: r) = x ++ y ++ Str.join y (z :: r)
    cases r with
    | nil => rfl
    | cons q r =>
      show (x ++ y ++ z) ++ y ++ Str.join y (q :: r) = x ++ y ++ (z ++ y ++ Str.join y (q :: r))
      rw [sapp_assoc (x ++ y ++ z), sapp_assoc (x ++ y) z, sapp_assoc z]
theorem mem_join {c : Nat} {y : Str} : ∀ {xs : List Str}, c ∈ (Txt.join y xs).cps.toList → c ∈ y.cps.toList ∨ ∃ x ∈ xs, c ∈ x.cps.toList := by
  intro xs
  rw [TL.join_eq]
  induction xs with
  | nil => intro h; cases h
  | cons x xs ih =>
    cases xs with
    | nil => exact fun h => .inr ⟨x, by simp, h⟩
    | cons z r =>
      intro h
      have h' : c ∈ TL.tl (x ++ y ++ Str.join y (z :: r)) := h
      rw [TL.tl_append, TL.tl_append, List.mem_append, List.mem_append] at h'
      rcases h' with (h | h) | h
      · exact .inr ⟨x, by simp, h⟩
      · exact .inl h
      · rcases ih h with q | ⟨w, hw, q⟩
        · exact .inl q
        · exact .inr ⟨w, by simp [hw], q⟩
theorem le_join (y : Str) : ∀ {xs : List Str} {x : Str}, x ∈ xs → x.length ≤ (Txt.join y xs).length := by
  intro xs
  induction xs with
  | nil => intro x h; cases h
  | cons a xs ih =>
    intro x h
    rw [TL.join_eq] at ih ⊢
    cases xs with
    | nil => rw [List.mem_singleton] at h; subst h; exact Nat.le_refl _
    | cons z r =>
      show x.length ≤ (a ++ y ++ Str.join y (z :: r)).length
      rw [app_len, app_len]
      rcases List.mem_cons.mp h with h | h
      · subst h; omega
      · have := ih h; omega
theorem split_in {x y w : Str} (h : w ∈ Txt.split x y) : w.length ≤ x.length := by
  have := le_join y h
  rw [TL.join_eq, PySem.StrLaws.join_split] at this
  exact this
theorem split_ne {x y : Str} (hy : Txt.split "" y ≠ []) : Txt.split x y ≠ [] := fun h => by
  have e := PySem.StrLaws.join_split x y
  rw [h] at e
  have e2 : x = "" := e.symm
  rw [e2] at h
  exact hy h
theorem cut_init {α : Type} (xs : List α) : cut xs none (some (-1)) = xs.dropLast := by
  unfold cut
  rw [HT.sIx_none, List.drop_zero, Nat.sub_zero, List.dropLast_eq_take]
  refine congrArg (fun k => xs.take k) ?_
  show (if (-1 : Int) < 0 then ((-1 : Int) + (xs.length : Int)).toNat else min (-1 : Int).toNat xs.length) = _
  rw [if_pos (by decide)]
  omega
theorem ji_tx {X : Cx} {ρ : Rho} {a tg : Expr} {cs : List Nat} (ha : J X a ρ (.str (tx cs))) : JI X tg a ρ (cs.map fun c : Nat => D.str ⟨#[c]⟩) := ji_str ha
end Pf

namespace Pf
open PySem L2 PySem.Spec PyProof.Rows
open Evl (Ex)

/-- the texts that a set's entries bear -/
def txtOf (e : Int × Value) : Str := strOf e.2
def TxE (P : Program) (w : World) (e : Int × Value) : Prop := ∃ z tk, e = ((PySem.strKind P w).hash z, Value.str z tk)
/-- a set of texts at a: its members, each once, and a table that can be walked -/
structure TSet (P : Program) (w : World) (h : Heap) (a : Addr) (xs : List Str) (o : Obj) (es : Array (Int × Value)) (ep : Nat) (t : SetTable) : Prop where
  at' : h.get? a = some o
  ex : o.ExactSet
  da : o.data = .set es ep t
  tx : ∀ e ∈ es.toList, TxE P w e
  pm : (es.toList.map txtOf).Perm xs
  nd : xs.Nodup
  few : xs.length < scanBound
  fits : t.fits es.size = true
  ris : Ris t.place.toList
  led : w.params.followText "set-order" = true ∨ t.led = true
def TS1 (P : Program) (w : World) (h : Heap) (a : Addr) (xs : List Str) : Prop := ∃ o es ep t, TSet P w h a xs o es ep t
section
variable {P : Program} {w : World} {h h' : Heap} {a : Addr} {xs : List Str} {o : Obj} {es : Array (Int × Value)} {ep : Nat} {t : SetTable}
theorem TSet.size (R : TSet P w h a xs o es ep t) : es.size = xs.length := by rw [← Array.length_toList, ← R.pm.length_eq, List.length_map]
theorem TSet.els (R : TSet P w h a xs o es ep t) : ElemsOf (PySem.strKind P w) es.toList := fun e he => by
  obtain ⟨z, tk, rfl⟩ := R.tx e he
  exact ⟨⟨z, strKind_is _ _ _ _, rfl⟩, rfl⟩
theorem TSet.small (R : TSet P w h a xs o es ep t) : es.size < scanBound := by rw [R.size]; exact R.few
theorem TSet.has (R : TSet P w h a xs o es ep t) (k : Str) : k ∈ xs ↔ ∃ e ∈ es.toList, (PySem.strKind P w).is k e.2 = true := by
  rw [← R.pm.mem_iff, List.mem_map]
  constructor
  · rintro ⟨e, he, q⟩
    obtain ⟨z, tk, rfl⟩ := R.tx e he
    have q' : z = k := q
    exact ⟨_, he, by rw [q']; exact strKind_is _ _ _ _⟩
  · rintro ⟨e, he, q⟩
    obtain ⟨z, tk, rfl⟩ := R.tx e he
    exact ⟨_, he, (PySem.strKind P w).inj _ _ _ (strKind_is P w z tk) q⟩
theorem TS1.keep (R : TS1 P w h a xs) (k : ∀ o, h.get? a = some o → h'.get? a = some o) : TS1 P w h' a xs := by
  obtain ⟨o, es, ep, t, r⟩ := R
  exact ⟨o, es, ep, t, k o r.at', r.ex, r.da, r.tx, r.pm, r.nd, r.few, r.fits, r.ris, r.led⟩
end
/-- one more -/
def addD (xs : List Str) (k : Str) : List Str := if k ∈ xs then xs else xs ++ [k]
section
variable {P : Program} {w : World} {A : Around} {E : Value → Shared → Prop} {s : Shared} {a : Addr} {xs : List Str}
/-- what is stored behind an addition, the table grown or not -/
theorem ts_tail {xs' : List Str} {g : Bool → Sem Unit} (hg : ∀ (b : Bool) (s₁ : Shared) (Q' : Unit → Shared → Prop), Q' () s₁ → wpAny (model P w) A (g b) Q' E s₁) {o : Obj} {es es1 : Array (Int × Value)} {ep : Nat} {t t1 : SetTable} (ho : s.heap.get? a = some o) (hex : o.ExactSet) (hd : o.data = .set es ep t)
    (htx : ∀ e ∈ es1.toList, TxE P w e) (hpm : (es1.toList.map txtOf).Perm xs') (hnd : xs'.Nodup) (hfew : xs'.length < scanBound) (hfit : t1.fits es1.size = true) (hris : Ris t1.place.toList) (hled : w.params.followText "set-order" = true ∨ t1.led = true) {d : Bool} {R : Option Bool → Shared → Prop}
    (hR : ∀ h', Heap.SameBut a s.heap h' → TS1 P w h' a xs' → R (some true) { s with heap := h' }) :
    wpAny (model P w) A (do
        storeSet a es1 t1
        if (!d && t1.tooFull) = true then do
            g (relayAll t1 es1 (SetTable.grown es1.size)).2.2
            storeSet a (relayAll t1 es1 (SetTable.grown es1.size)).1 (relayAll t1 es1 (SetTable.grown es1.size)).2.1
            pure (some true)
          else pure (some true)) R E s := by
  have z1 : es1.size = xs'.length := by rw [← Array.length_toList, ← hpm.length_eq, List.length_map]
  have b1 : es1.size < scanBound := by rw [z1]; exact hfew
  refine wpAny_bind (wpAny_storeSet_of ho hd ?_ (fits_of_scanBound b1))
  have at1 := store_at (es' := es1) (t' := t1) ho hd
  have same1 := Heap.SameBut.update s.heap a (Obj.putSet es1 t1)
  split
  · have p2 := relayAll_perm t1 es1 (SetTable.grown es1.size)
    have f2 := relayAll_fits t1 es1 (SetTable.grown es1.size)
    have r2 := relayAll_ris t1 es1 (SetTable.grown es1.size)
    have l2 := relayAll_led t1 es1 (SetTable.grown es1.size)
    rcases hz : relayAll t1 es1 (SetTable.grown es1.size) with ⟨es2, t2, gave⟩
    rw [hz] at p2 f2 r2 l2
    have z2 : es2.size = es1.size := by rw [← Array.length_toList, ← Array.length_toList]; exact p2.length_eq
    refine wpAny_bind (hg _ _ _ (wpAny_bind (wpAny_storeSet_of at1 rfl (wpAny_pure (hR _ (same1.trans (Heap.SameBut.update _ a _)) ⟨_, es2, _, t2, store_at at1 rfl, hex, rfl, fun e he => htx e (p2.mem_iff.mp he), (p2.map txtOf).trans hpm, hnd, hfew, f2, r2, ?_⟩)) (fits_of_scanBound (by show es2.size < scanBound; rw [z2]; exact b1)))))
    rcases hled with q | q
    · exact .inl q
    · exact .inr (l2.trans q)
  · exact wpAny_pure (hR _ same1 ⟨_, es1, _, t1, at1, hex, rfl, htx, hpm, hnd, hfew, hfit, hris, hled⟩)
theorem ts_add {k : Str} {tk : Tok} {Q : Bool → Shared → Prop} (R : TS1 P w s.heap a xs) (room : xs.length + 1 < scanBound) (hQ : ∀ b h', Heap.SameBut a s.heap h' → TS1 P w h' a (addD xs k) → Q b { s with heap := h' }) :
    wpAny (model P w) A (setAddHashed a (.str k tk) ((PySem.strKind P w).hash k)) Q E s := by
  obtain ⟨o, es, ep, t, r⟩ := R
  have hkey : (PySem.strKind P w).is k (.str k tk) = true := strKind_is P w k tk
  have hsc : (Value.str k tk).scannable = true := rfl
  unfold setAddHashed setAddHashedIn
  refine wpAny_holding (wpAny_bind (wpAny_setState_of r.at' r.da r.fits ?_))
  dsimp only
  rw [byScan_of hsc r.small r.els]
  simp only [↓reduceIte]
  unfold setAddByScan
  refine wpAny_bind (wpAny_bind (wpAny_rule (wpAny_bind (wpAny_setScan_of hkey r.at' r.da r.fits r.els ?_))))
  cases hfi : List.findIdx? (fun e => (PySem.strKind P w).is k e.2) es.toList with
  | some j =>
    dsimp only
    obtain ⟨hj, pj, _⟩ := List.findIdx?_eq_some_iff_getElem.mp hfi
    have hin : k ∈ xs := (r.has k).mpr ⟨es.toList[j], List.getElem_mem hj, pj⟩
    have e : addD xs k = xs := by unfold addD; rw [if_pos hin]
    exact wpAny_pure (wpAny_pure (hQ _ s.heap (Heap.SameBut.refl a s.heap) (by rw [e]; exact ⟨o, es, ep, t, r⟩)))
  | none =>
    dsimp only
    have hnin : k ∉ xs := fun q => by
      obtain ⟨e, he, q⟩ := (r.has k).mp q
      have := List.findIdx?_eq_none_iff.mp hfi e he
      rw [q] at this; cases this
    have e : addD xs k = xs ++ [k] := by unfold addD; rw [if_neg hnin]
    rw [e] at hQ
    have gw : ∀ (b : Bool) {s₁ : Shared} {Q' : Unit → Shared → Prop}, Q' () s₁ → wpAny (model P w) A (match b with | true => rule "set.scan.the-table-gave-way" | false => pure ()) Q' E s₁ := fun b s₁ Q' q => by
      cases b
      · exact wpAny_pure q
      · exact wpAny_rule q
    have p1 := layNew_perm t es ((PySem.strKind P w).hash k) (.str k tk)
    have f1 := layNew_fits t es ((PySem.strKind P w).hash k) (.str k tk)
    have r1 := layNew_ris t es ((PySem.strKind P w).hash k) (.str k tk) r.ris
    have l1 := layNew_led t es ((PySem.strKind P w).hash k) (.str k tk)
    rcases hz : layNew t es ((PySem.strKind P w).hash k) (.str k tk) with ⟨es1, t1, wasDummy, gave⟩
    rw [hz] at p1 f1 r1 l1
    dsimp only at p1 f1 r1 l1 ⊢
    rw [Array.toList_push] at p1
    have tx1 : ∀ e ∈ es1.toList, TxE P w e := fun e he => by
      rcases List.mem_append.mp (p1.mem_iff.mp he) with q | q
      · exact r.tx e q
      · rw [List.mem_singleton] at q; exact ⟨k, tk, q⟩
    have pm1 : (es1.toList.map txtOf).Perm (xs ++ [k]) := by
      have q := p1.map txtOf
      rw [List.map_append] at q
      exact q.trans (List.Perm.append_right _ r.pm)
    have nd1 : (xs ++ [k]).Nodup := by
      rw [List.nodup_append]
      exact ⟨r.nd, by simp, fun x hx y hy exy => by rw [List.mem_singleton] at hy; exact hnin (by rw [← hy, ← exy]; exact hx)⟩
    have few1 : (xs ++ [k]).length < scanBound := by rw [List.length_append]; exact room
    have led1 : w.params.followText "set-order" = true ∨ t1.led = true := by
      rcases r.led with q | q
      · exact .inl q
      · exact .inr (l1.trans q)
    refine wpAny_bind (gw _ ?_)
    split
    · refine wpAny_bind ?_
      rw [hashByValue_scannable 8 hsc]
      refine wpAny_pure (ts_tail ?_ r.at' r.ex r.da tx1 pm1 nd1 few1 ?_ ?_ ?_ ?_)
      · intro b s₁ Q' q; cases b <;> first | exact wpAny_pure q | exact wpAny_rule q
      · first | (split <;> first | exact f1 | exact SetTable.fits_plain_off f1) | exact f1
      · first | (split <;> exact r1) | exact r1
      · first | (split <;> exact led1) | exact led1
      · intro h' sb q; dsimp only; exact wpAny_pure (hQ _ h' sb q)
    · refine wpAny_bind (wpAny_pure ?_)
      simp only [↓reduceIte]
      refine ts_tail ?_ r.at' r.ex r.da tx1 pm1 nd1 few1 f1 r1 led1 ?_
      · intro b s₁ Q' q; cases b <;> first | exact wpAny_pure q | exact wpAny_rule q
      · intro h' sb q; dsimp only; exact wpAny_pure (hQ _ h' sb q)
end
def ddL (xs : List Str) : List Str := xs.foldl addD []
theorem ddL_snoc (xs : List Str) (x : Str) : ddL (xs ++ [x]) = addD (ddL xs) x := by unfold ddL; rw [List.foldl_append]; rfl
theorem addD_len (xs : List Str) (x : Str) : (addD xs x).length ≤ xs.length + 1 := by unfold addD; split <;> simp
theorem ddL_len (xs : List Str) : (ddL xs).length ≤ xs.length := by
  have key : ∀ (l acc : List Str), (l.foldl addD acc).length ≤ acc.length + l.length := by
    intro l
    induction l with
    | nil => intro acc; simp
    | cons x l ih =>
      intro acc
      have := ih (addD acc x)
      have := addD_len acc x
      rw [List.foldl_cons, List.length_cons]
      omega
  have := key xs []
  simpa [ddL] using this
theorem ddL_take {xs : List Str} {i : Nat} (h : i < xs.length) : ddL (xs.take (i + 1)) = addD (ddL (xs.take i)) (xs.getD i Str.empty) := by
  rw [List.take_add_one, List.getD_eq_getElem?_getD, List.getElem?_eq_getElem h]
  exact ddL_snoc _ _
section
variable {prog : Program} {w : World} {A : Around} {R : Result → Shared → Prop} {I : Addr} {fp wr : List Addr} {G : Array GenState → Array GenState → Prop} {n : Nat} {Pv : Nat → Value → Prop} {St : Nat → Shared → Prop}
theorem ts_loop (W : WalksS prog w A.in1 I fp wr G n Pv St) (S : Addr) (hS : S ∉ fp) (zs : List Str) (hz : zs.length = n) (hb : n + 1 < scanBound) (hval : ∀ i v, Pv i v → ∃ t, v = .str (zs.getD i Str.empty) t) :
    ∀ (k i : Nat) (s : Shared), n - i = k → i ≤ n → St i s → TS1 prog w s.heap S (ddL (zs.take i)) → (∀ s', Moved (S :: wr) G s s' → TS1 prog w s'.heap S (ddL zs) → R (.ok (.ret .none)) s') →
      codeAny (model prog w) A (.builtin "set.update.loop" ⟨[.ref S, .ref I], []⟩) R s := by
  have notW : S ∉ wr := fun q => hS (W.sub _ q)
  intro k
  induction k with
  | zero =>
    intro i s hk hi st T fin
    have hin : i = n := by omega
    subst hin
    refine codeAny_builtin PyProof.Rows.F.entry_set_update_loop ?_
    rw [Around.under_plainId PyProof.Rows.F.plain_set_update_loop _]
    show wpAny _ A.in1 (pyNext (.ref I) >>= _) _ _ s
    refine wpAny_bind (W.done s _ _ st fun s' hm => ?_)
    show wpAny _ A.in1 (ret Value.none) _ _ s'
    rw [← hz, List.take_length] at T
    exact wpAny_pure (fin s' (hm.mono fun b q => List.mem_cons_of_mem _ q) (T.keep fun o q => hm.heap S _ notW q))
  | succ k ih =>
    intro i s hk hi st T fin
    have hlt : i < n := by omega
    refine codeAny_builtin PyProof.Rows.F.entry_set_update_loop ?_
    rw [Around.under_plainId PyProof.Rows.F.plain_set_update_loop _]
    show wpAny _ A.in1 (pyNext (.ref I) >>= _) _ _ s
    refine wpAny_bind (W.item i s _ _ hlt st fun v s' hP st' hm => ?_)
    obtain ⟨t, rfl⟩ := hval i v hP
    have T' := T.keep fun o q => hm.heap S _ notW q
    show wpAny _ A.in1 (holding [Value.str (zs.getD i Str.empty) t] (setAdd S (.str (zs.getD i Str.empty) t)) >>= _) _ _ s'
    refine wpAny_bind (wpAny_holding ?_)
    unfold setAdd
    refine wpAny_holding (wpAny_bind ((PySem.strKind prog w).pyHash (k := zs.getD i Str.empty) (strKind_is _ _ _ _) ?_))
    have room : (ddL (zs.take i)).length + 1 < scanBound := by
      have := ddL_len (zs.take i)
      rw [List.length_take] at this
      omega
    refine ts_add (s := { s' with toks := s'.toks + 1 }) T' room fun _ h' sb T2 => ?_
    rw [← ddL_take (by omega)] at T2
    refine wpAny_pure ⟨plainId_quiet PyProof.Rows.F.plain_set_update_loop _, ih (i + 1) _ (by omega) hlt (W.frame _ s' _ _ st' (Nat.le_succ _) fun b hb o e => ?_) T2 fun s'' hm'' T3 => ?_⟩
    · rw [sb.2 b (fun q : b = S => hS (by rw [← q]; exact hb))]; exact e
    · refine fin s'' (Moved.trans W.gtrans ((hm.mono fun b q => List.mem_cons_of_mem _ q).then_heap (Nat.le_succ _) fun b o hb e => ?_) hm'') T3
      rw [sb.2 b (fun q : b = S => hb (by rw [q]; exact List.mem_cons_self))]; exact e
end
section
variable {P : Program} {w : World} {A : Around} {E : Value → Shared → Prop} {s : Shared}
/-- set.__new__ with something to take in: the table keeps its order where the world doesn't follow the text -/
theorem new_led (a : Value) {Q : Value → Shared → Prop} (h : Q (.ref s.heap.objs.size) { s with heap := s.heap.push { cls := .type "set", dict := none, data := .set #[] 0 (.fresh 0 0 (!w.params.followText "set-order")) } }) :
    codeAny (model P w) A (.call (.builtin "set.__new__") ⟨[.type "set", a], []⟩) (wants Q E) s := by
  refine codeAny_of_tree (show wpAny _ A.in1 (do checkBuiltinCall "set.__new__" ⟨[.type "set", a], []⟩; again (.builtin "set.__new__" ⟨[.type "set", a], []⟩)) _ _ s from ?_)
  refine wpAny_bind (wpAny_of_eq (PySem.F.newCall_set_1 a) (wpAny_pure ⟨plainId_quiet PySem.F.plain_set_new _, codeAny_builtin PySem.F.entry_set_new ?_⟩))
  rw [Around.under_plainId PySem.F.plain_set_new _]
  unfold Builtin.«set.__new__» Builtin.Frozenset.newClass
  have hsub := sub_set_self
  obtain ⟨hp, g, d, tk, os⟩ := s
  dsimp only
  wp_walk
  refine wpAny_askSetting (wpAny_pure ?_)
  dsimp only
  simp only [newObj]
  exact wpAny_bind (wpAny_alloc (wpAny_pure (wpAny_pure h)))
theorem ts_fresh (h : Heap) : TS1 P w (h.push { cls := .type "set", dict := none, data := .set #[] 0 (.fresh 0 0 (!w.params.followText "set-order")) }) h.objs.size [] :=
  ⟨_, #[], 0, _, Heap.get?_push_size _ rfl, ⟨rfl, rfl, rfl⟩, rfl, (fun e he => by simp at he), .refl _, List.nodup_nil, by decide, rfl, List.Pairwise.nil, by
    show _ ∨ (!w.params.followText "set-order") = true
    cases w.params.followText "set-order"
    · exact .inr rfl
    · exact .inl rfl⟩
end
section
variable {P : Program} {w : World} {A : Around} {E : Value → Shared → Prop} {s : Shared}
end
end Pf

namespace Pf
open PySem L2 PySem.Spec PyProof.Rows
open Evl (Ex)
/-- the order of texts -/
def ltT (a b : Str) : Prop := a.cps.toList < b.cps.toList
theorem ltT_of {a b : Str} (h : ltCps b.cps.toList a.cps.toList = false) (hne : a ≠ b) : ltT a b := by
  rw [ltCps_eq] at h
  have h' : ¬ b.cps.toList < a.cps.toList := of_decide_eq_false h
  unfold ltT
  rcases Std.lt_trichotomy a.cps.toList b.cps.toList with q | q | q
  · exact q
  · exact absurd (TL.ext_tl q) hne
  · exact absurd q h'
theorem asc_of : ∀ {p : Str} {l : List Str}, risingS p l = true → (p :: l).Nodup → (p :: l).Pairwise ltT
  | p, [], _, _ => List.pairwise_singleton _ _
  | p, x :: r, h, hn => by
    have h' : (!ltCps x.cps.toList p.cps.toList && risingS x r) = true := h
    rw [Bool.and_eq_true, Bool.not_eq_true'] at h'
    have ih := asc_of h'.2 (List.nodup_cons.mp hn).2
    have hpx := ltT_of h'.1 (fun e => (List.nodup_cons.mp hn).1 (by rw [e]; simp))
    refine List.pairwise_cons.mpr ⟨fun y hy => ?_, ih⟩
    rcases List.mem_cons.mp hy with rfl | hy
    · exact hpx
    · exact List.lt_trans hpx ((List.pairwise_cons.mp ih).1 y hy)
theorem asc_sorted {l : List Str} (h : sortedS l = true) (hn : l.Nodup) : l.Pairwise ltT := by
  cases l with
  | nil => exact .nil
  | cons p l => exact asc_of h hn
theorem ddL_all {xs : List Str} : (ddL xs).length = xs.length ↔ xs.Nodup := by
  have key : ∀ (l acc : List Str), acc.Nodup → (l.foldl addD acc).length ≤ acc.length + l.length ∧ ((l.foldl addD acc).length = acc.length + l.length ↔ (acc ++ l).Nodup) := by
    intro l
    induction l with
    | nil => intro acc h; simpa using h
    | cons x l ih =>
      intro acc h
      rw [List.foldl_cons]
      by_cases hx : x ∈ acc
      · rw [show addD acc x = acc from if_pos hx]
        have q := ih acc h
        refine ⟨by rw [List.length_cons]; omega, ⟨fun e => ?_, fun hn => ?_⟩⟩
        · rw [List.length_cons] at e; omega
        · rw [List.nodup_append] at hn
          exact absurd rfl (hn.2.2 x hx x (by simp))
      · rw [show addD acc x = acc ++ [x] from if_neg hx]
        have hn : (acc ++ [x]).Nodup := by
          rw [List.nodup_append]
          exact ⟨h, by simp, fun a ha b hb e => by rw [List.mem_singleton] at hb; exact hx (by rw [← hb, ← e]; exact ha)⟩
        have q := ih (acc ++ [x]) hn
        rw [List.length_append, List.append_assoc] at q
        simp only [List.length_cons, List.length_nil, List.singleton_append] at q ⊢
        refine ⟨by omega, ?_⟩
        rw [← q.2]
        constructor <;> intro e <;> omega
  have := (key xs [] List.nodup_nil).2
  simpa [ddL] using this
section
variable {P : Program} {w : World} {A : Around} {E : Value → Shared → Prop} {s : Shared} {a : Addr} {xs : List Str}
end
section
variable {X : Cx} {a : Expr} {ta : TE} {p p2 q pos : Pos} {ρ : Rho} {zs : List Str}
end
section
variable {X : Cx} {a : Expr} {p p2 q pos : Pos} {ρ : Rho} {xs : List Str}
end
end Pf

namespace Pf
open PySem L2 PySem.Spec PyProof.Rows
open Evl (Ex)
section
variable {X : Cx} {ρ : Rho} {a b c d e : Expr} {x y z u : D} {pos p : Pos} {op op' op'' : CmpOp} {t t' t'' : Bool}
theorem cd_ltS {x y : Str} : CmD X .Lt (.str x) (.str y) (decide (x.cps.toList < y.cps.toList)) := ⟨_, op_lt_str, fun W H v u ex r1 r2 Q q => by
  cases r1; cases r2; exact ⟨x, y, rfl, rfl, q.now ex (.bl _)⟩⟩
end
section
variable {X : Cx} {ρ : Rho} {a b e : Expr} {pos p : Pos} {n z : Str} {T : List (Str × Option (List Int))} {ns : List Int}
end
section
variable {X : Cx} {K : PySem.W.Frag} {ρ : Rho} {a b : Expr} {ds es' : List D} {pos p tpos : Pos} {elts : List Expr} {kk : Nat}
end
section
variable {X : Cx} {ρ : Rho} {e e2 : Expr} {pos p : Pos} {fds : List (Str × D)} {a C : Addr} {oe : Obj} {pn : List (Addr × Obj)} {b : Bool}
end
section
variable {X : Cx} {ρ : Rho} {pos : Pos}
inductive JPs (X : Cx) (ρ : Rho) : List (Option Expr) → List Expr → List (Str × D) → Prop
  | nil : JPs X ρ [] [] []
  | cons {k v : Expr} {ks : List (Option Expr)} {vs : List Expr} {z : Str} {d : D} {r : List (Str × D)} : J X k ρ (.str z) → J X v ρ d → JPs X ρ ks vs r → JPs X ρ (some k :: ks) (v :: vs) ((z, d) :: r)
def trsOf (X : Cx) : List (Option Expr) → List Expr → List (TE × TE)
  | some k :: ks, v :: vs => (wE X k, wE X v) :: trsOf X ks vs
  | _, _ => []
theorem JPs.len : ∀ {ks : List (Option Expr)} {vs : List Expr} {r : List (Str × D)}, JPs X ρ ks vs r → ks.length = vs.length ∧ ks.length = r.length ∧ ks.all (·.isSome) = true
  | _, _, _, .nil => ⟨rfl, rfl, rfl⟩
  | _, _, _, .cons _ _ h => by
    obtain ⟨a, b, c⟩ := h.len
    exact ⟨by simp [a], by simp [b], by simp [c]⟩
theorem JPs.run : ∀ {ks : List (Option Expr)} {vs : List Expr} {r : List (Str × D)}, JPs X ρ ks vs r → ∀ W σ H, Ex W H → Vis X.K ρ W σ → ∀ Q : List (V × V) → Hp → Prop, (∀ (us : List V) W' H', Step W H W' H' → RepAll X.K W' (r.map (·.2)) us → Q ((r.map fun q => V.str q.1).zip us) H') → tPairs (trsOf X ks vs) σ H Q
  | _, _, _, .nil => fun W σ H ex hV Q g => g [] W H (.refl ex) .nil
  | _, _, _, .cons hk hv h => fun W σ H ex hV Q g => hk W σ H ex hV _ fun x W1 H1 s1 r1 => hv W1 σ H1 s1.wh (hV.mono s1.ww) _ fun y W2 H2 s2 r2 => h.run W2 σ H2 s2.wh (hV.mono (s1.trans s2).ww) _ fun us W3 H3 s3 r3 => by
    cases r1
    exact g (y :: us) W3 H3 ((s1.trans s2).trans s3) (.cons (r2.mono s3.ww) r3)
end
end Pf

namespace Pf
open PySem L2 PySem.Spec PyProof.Rows
open Evl (Ex)
section
variable {X : Cx} {ρ : Rho} {e : Expr} {pos p : Pos} {P1 : D → Prop}
theorem jp_tupleL (T : Bt X.mg) (h : JP X e ρ P1) (hP : ∀ d, P1 d → ∃ ds, d = .lst ds) (hg : Gl X "tuple" := by rfl) (he : starEach [e] X.env = (false, eval e X.env) :: starEach [] X.env := by rfl) (hpl : (backTo pos (starEach [] X.env)).any (·.1) = false := by rfl) :
    JP X (.Call (.Name "tuple" p) [e] [] pos) ρ fun d => ∃ ds, P1 (.lst ds) ∧ d = .tup ds := ⟨fun W σ H ex hV Q g => .of (pe_callTy call_tuple_of hg T.tuple (by decide +kernel) (pa_cons pe_w pa_nil he) (by decide) (by decide) he hpl) (h.run W σ H ex hV _ fun d hd v W1 H1 s1 r1 => by
  obtain ⟨ds, rfl⟩ := hP d hd
  exact rc_tupleL W1 H1 [v] s1.wh (.cons r1 .nil) Q ((g _ ⟨ds, hd, rfl⟩).step s1))⟩
end
structure JAP (X : Cx) (es : List Expr) (ρ : Rho) (P : List D → Prop) : Prop where
  run : ∀ W σ H, Ex W H → Vis X.K ρ W σ → ∀ Q : List V → Hp → Prop, (∀ ds, P ds → GoodA X.K W H ds Q) → wA X es σ H Q
section
variable {X : Cx} {ρ : Rho} {e : Expr} {es : List Expr} {pos : Pos} {P1 : D → Prop} {P : List D → Prop} {d : D} {ds : List D}
theorem jap_cons (h : J X e ρ d) (h2 : JAP X es ρ P) (hs : starEach (e :: es) X.env = (false, eval e X.env) :: starEach es X.env := by rfl) : JAP X (e :: es) ρ fun l => ∃ r, P r ∧ l = d :: r := ⟨fun W σ H ex hV Q g =>
  .of (pa_cons pe_w pa_w hs) (h W σ H ex hV _ fun v W1 H1 s1 r1 => h2.run W1 σ H1 s1.wh (hV.mono s1.ww) _ fun r hr vs W2 H2 s2 r2 => g (d :: r) ⟨r, hr, rfl⟩ (v :: vs) W2 H2 (s1.trans s2) (.cons (r1.mono s2.ww) r2))⟩
theorem jap_p (h : JP X e ρ P1) (h2 : JA X es ρ ds) (hs : starEach (e :: es) X.env = (false, eval e X.env) :: starEach es X.env := by rfl) : JAP X (e :: es) ρ fun l => ∃ d, P1 d ∧ l = d :: ds := ⟨fun W σ H ex hV Q g =>
  .of (pa_cons pe_w pa_w hs) (h.run W σ H ex hV _ fun d hd v W1 H1 s1 r1 => h2 W1 σ H1 s1.wh (hV.mono s1.ww) _ fun vs W2 H2 s2 r2 => g (d :: ds) ⟨d, hd, rfl⟩ (v :: vs) W2 H2 (s1.trans s2) (.cons (r1.mono s2.ww) r2))⟩
theorem jp_tup {k} (h : JAP X es ρ P) (hl : ∀ ds, P ds → ds.length ≤ sizeLine) : JP X (.Tuple es k pos) ρ fun d => ∃ ds, P ds ∧ d = .tup ds := ⟨fun W σ H ex hV Q g =>
  .of (pe_tup pa_w) (h.run W σ H ex hV _ fun ds hds vs W1 H1 s1 r1 => ⟨by rw [← r1.length]; exact hl ds hds, fun q hq =>
    g _ ⟨ds, hds, rfl⟩ _ _ _ (s1.trans (.new s1.wh hq)) (.tup (SqT.of upd_same) (r1.mono (Evl.Ex.new (Evl.fresh_back s1.wh hq))))⟩)⟩
end
end Pf

namespace Pf
open PySem L2 PySem.Spec PyProof.Rows
open Evl (Ex)
section
variable {K : PySem.W.Frag} {E : Ent} {ρ : RhoS} {σ : L2.St} {H Hf : Hp} {A : Nat → List Addr} {i : Nat} {d : D}
theorem StAt.freeze (s : StAt K E ρ σ H Hf A) (hi : ρ[i]? = some (some (.ow d))) (hp : E.pa i = none) : StAt K E (ρ.set i (some (.fz d))) σ H (fun b => if b ∈ A i then H b else Hf b) (fun j => if j = i then [] else A j) := by
  have no : ∀ b, b ∈ A i → Hf b = none := fun b hb => (s.ap i b hb).1
  have ex : Ex Hf (fun b => if b ∈ A i then H b else Hf b) := fun b o q => by
    show (if b ∈ A i then H b else Hf b) = some o
    rw [if_neg (fun hb => by rw [no b hb] at q; cases q)]; exact q
  refine ⟨by rw [List.length_set]; exact s.len, s.w0.trans ex, fun b o q => ?_, fun b q1 q2 => ?_, s.hh, s.kp, fun j sv q => ?_, fun j a ha => ?_, fun j k a h1 h2 => ?_, s.pn⟩
  · by_cases hb : b ∈ A i
    · have q' : (if b ∈ A i then H b else Hf b) = some o := q
      rw [if_pos hb] at q'; exact q'
    · have q' : (if b ∈ A i then H b else Hf b) = some o := q
      rw [if_neg hb] at q'; exact s.fh _ _ q'
  · by_cases hb : b ∈ A i
    · rcases (s.ap i b hb).2.2 with h | ⟨_, h⟩
      · exact h
      · exact absurd hp h
    · have q' : (if b ∈ A i then H b else Hf b) ≠ none := q1
      rw [if_neg hb] at q'
      exact s.fr b q' q2
  · by_cases hj : i = j
    · subst hj
      obtain ⟨v, e1, e2⟩ := s.sl i _ hi
      have hlt : i < ρ.length := (List.getElem?_eq_some_iff.mp hi).1
      rw [List.getElem?_set_self hlt] at q
      cases q
      exact ⟨v, e1, e2.1.rep ex fun a ha => if_pos ha⟩
    · rw [List.getElem?_set_ne hj] at q
      obtain ⟨v, e1, e2⟩ := s.sl j sv q
      refine ⟨v, e1, ?_⟩
      cases sv with
      | fz d => exact Rep.mono ex e2
      | ow d =>
        have hji : ¬ j = i := fun e => hj e.symm
        show Own K _ H d v (if j = i then [] else A j) ∧ (if j = i then [] else A j) ≠ []
        rw [if_neg hji]
        exact ⟨e2.1.move ex fun _ _ => rfl, e2.2⟩
  · by_cases hj : j = i
    · have ha' : a ∈ (if j = i then [] else A j) := ha
      rw [if_pos hj] at ha'; cases ha'
    · have ha' : a ∈ (if j = i then [] else A j) := ha
      rw [if_neg hj] at ha'
      obtain ⟨h1, h2⟩ := s.ap j a ha'
      refine ⟨?_, h2⟩
      show (if a ∈ A i then H a else Hf a) = none
      rw [if_neg (fun hb => hj (s.dj j i a ha' hb))]; exact h1
  · have h1' : a ∈ (if j = i then [] else A j) := h1
    have h2' : a ∈ (if k = i then [] else A k) := h2
    by_cases hj : j = i
    · rw [if_pos hj] at h1'; cases h1'
    · by_cases hk : k = i
      · rw [if_pos hk] at h2'; cases h2'
      · rw [if_neg hj] at h1'; rw [if_neg hk] at h2'
        exact s.dj j k a h1' h2'
end
section
variable {X : Cx} {pin : List Nat} {st : List Stmt} {ρ : RhoS} {Φ : Out → Prop} {d : D}
/-- what is own may be taken as frozen -/
theorem jss_freeze (i : Nat) (hi : ρ[i]? = some (some (.ow d))) (h : JSs X pin st (ρ.set i (some (.fz d))) Φ) (hp : i ∉ pin := by decide) : JSs X pin st ρ Φ := ⟨fun E σ H D hpn ⟨Hf, A, s⟩ k =>
  h.run E σ H D hpn ⟨_, _, s.freeze hi (hpn.none hp)⟩ k⟩
end
section
variable {X : Cx} {ρ : Rho} {a b : Expr} {ds : List D} {pos : Pos} {P2 : D → Prop}
end
end Pf

namespace Pf
open PySem L2 PySem.Spec PyProof.Rows
open Evl (Ex)
open SrtO (Swo Srtd Stb SortableO Cmp)
/-- the text at the beginning of a tuple -/
def nmAt (h : Heap) (v : Value) : Str := match v with
  | .ref a => match h.get? a with
    | some o => match o.data with
      | .seq its _ => match its.toList with
        | Value.str z _ :: _ => z
        | _ => Str.empty
      | _ => Str.empty
    | none => Str.empty
  | _ => Str.empty
def HasTxt (h : Heap) (v : Value) : Prop := ∃ a o z t r n, v = .ref a ∧ h.get? a = some o ∧ o.cls = .type "tuple" ∧ o.data = .seq (Value.str z t :: r).toArray n
theorem HasTxt.nm {h : Heap} {v : Value} (x : HasTxt h v) : ∃ a o t r n, v = .ref a ∧ h.get? a = some o ∧ o.cls = .type "tuple" ∧ o.data = .seq (Value.str (nmAt h v) t :: r).toArray n := by
  obtain ⟨a, o, z, t, r, n, rfl, h1, h2, h3⟩ := x
  refine ⟨a, o, t, r, n, rfl, h1, h2, ?_⟩
  have : nmAt h (.ref a) = z := by
    unfold nmAt
    simp only [h1, h3]
  rw [this]; exact h3
section
variable {prog : Program} {w : World} {A : Around} {s : Shared}
theorem HasTxt.keeps {h h' : Heap} {v : Value} (x : HasTxt h v) (k : ∀ b o, h.get? b = some o → o.cls = .type "tuple" → h'.get? b = some o) : HasTxt h' v ∧ nmAt h' v = nmAt h v := by
  obtain ⟨a, o, z, t, r, n, rfl, h1, h2, h3⟩ := x
  have h4 := k _ _ h1 h2
  refine ⟨⟨a, o, z, t, r, n, rfl, h4, h2, h3⟩, ?_⟩
  unfold nmAt
  simp only [h1, h4]
end
section
variable {X : Cx} {β : Type} {nm : β → Str}
end
section
variable {X : Cx} {a : Expr} {p pos : Pos} {ρ : Rho}
end
end Pf

namespace Pf
open PySem L2 PySem.Spec PyProof.Rows
open Evl (Ex)
structure JNP (X : Cx) (e : Expr) (ρ : Rho) (P : List D → Prop) : Prop where
  run : ∀ W σ H, Ex W H → Vis X.K ρ W σ → ∀ Q : VK, (∀ ds, P ds → ∀ (a : Addr) (W' H' : Hp) (vs : List V), Step W H W' H' → H a = none → W' a = none → H' a = some (.lst vs) → RepAll X.K W' ds vs → Q (.ref a) H') → wE X e σ H Q
section
variable {X : Cx} {ρr : Rho} {e a o : Expr} {es : List Expr} {ds : List D} {d : D} {P : List D → Prop} {pos p apos : Pos}
theorem JNP.imp {P2 : List D → Prop} (h : JNP X e ρr P) (k : ∀ l, P l → P2 l) : JNP X e ρr P2 := ⟨fun W σ H ex hV Q g => h.run W σ H ex hV Q fun l hl => g l (k l hl)⟩
theorem jp_N (h : JNP X e ρr P) : JP X e ρr fun d => ∃ l, P l ∧ d = .lst l := ⟨fun W σ H ex hV Q g => h.run W σ H ex hV Q fun l hl a W' H' vs st h1 h2 h3 r =>
  g _ ⟨l, hl, rfl⟩ (.ref a) (upd W' a (.lst vs)) H' (st.show' h1 h2 h3) (.lst upd_same (r.mono fun b u hb => by rw [upd_ne (ne_of_none hb h2)]; exact hb))⟩
end
section
variable {X : Cx} {pin : List Nat} {ρ : RhoS} {Φ : Out → Prop} {e : Expr} {ds : List D} {P : List D → Prop} {pos p' p1 : Pos} {i : Nat} {x f : Str} {C : Addr} {fds : List (Str × D)}
end
section
variable {P : Program} {w : World} {K : PySem.W.Frag} {mg : Str → Option Value} {base : Heap} {x qual : Str} {st : Stmt} {f : Addr} {fd : FuncData} {N ps : List Str} {k : Nat} {G : List D → (List D → Prop) → Prop} {e : Expr} {pos : Pos}
end
section
variable {X : Cx} {ρ : Rho} {o e : Expr} {es : List Expr} {ds : List D} {C : Addr} {fds : List (Str × D)} {pos apos : Pos} {m f : Str} {k j n : Nat} {G : List D → (List D → Prop) → Prop} {P : List D → Prop}
end
section
variable {X : Cx} {a : Expr} {p pos : Pos} {ρ : Rho}
end
section
variable {X : Cx} {d : D} {ds : List D} {t u : Bool}
end
end Pf

namespace Pf
open PySem L2 PySem.Spec PyProof.Rows
open Evl (Ex)
inductive All2 {α β : Type} (R : α → β → Prop) : List α → List β → Prop
  | nil : All2 R [] []
  | cons {a : α} {b : β} {as : List α} {bs : List β} : R a b → All2 R as bs → All2 R (a :: as) (b :: bs)
section
variable {α β γ : Type} {R : α → β → Prop}
theorem All2.len : ∀ {as : List α} {bs : List β}, All2 R as bs → as.length = bs.length
  | _, _, .nil => rfl
  | _, _, .cons _ h => congrArg (· + 1) h.len
theorem All2.append {as : List α} {bs : List β} {as' : List α} {bs' : List β} (h : All2 R as bs) (h' : All2 R as' bs') : All2 R (as ++ as') (bs ++ bs') := by
  induction h with
  | nil => exact h'
  | cons a _ ih => exact .cons a ih
theorem All2.imp {S : α → β → Prop} {as : List α} {bs : List β} (h : All2 R as bs) (k : ∀ a ∈ as, ∀ b, R a b → S a b) : All2 S as bs := by
  induction h with
  | nil => exact .nil
  | cons a _ ih => exact .cons (k _ List.mem_cons_self _ a) (ih fun x hx => k x (List.mem_cons_of_mem _ hx))
end
section
variable {X : Cx} {elt tg iter : Expr} {scope : Scope} {own : List (Str × Nat)} {pos : Pos} {ρ : Rho}
end
end Pf

namespace Pf
open PySem L2 PySem.Spec PyProof.Rows
open Evl (Ex)
section
variable {X : Cx} {ρ : Rho} {a : Expr} {ds : List D} {pos p p2 kp tpos : Pos} {elts : List Expr} {kk kt : Nat}
end
section
variable {X : Cx} {pin : List Nat} {ρ : RhoS} {Φ : Out → Prop} {e : Expr} {ds es : List D} {pos p1 p2 p3 : Pos} {i : Nat} {x : Str}
theorem js_extendL (hi : ρ[i]? = some (some (.ow (.lst ds)))) (h : J X e (fzR ρ) (.lst es)) (hl : ds.length + es.length ≤ sizeLine) (hk : Φ (.nx (ρ.set i (some (.ow (.lst (ds ++ es))))))) (hM : NoM es := by (repeat (first | exact NoM.nil | exact NoM.map fun _ => rfl | exact NoM.fm fun _ => rfl | refine NoM.cons rfl ?_ | refine NoM.app ?_ ?_))) (hN : X.N[i]? = some x := by rfl) (hv : L2.Vis X.env.scope x := by first | exact Or.inl rfl | exact Or.inr (Or.inl rfl))
    (hd : (x == ("__debug__" : Str)) = false := by decide) (hcd : (x == ("__classdict__" : Str)) = false := by decide) (hst : starEach [e] X.env = (false, eval e X.env) :: starEach [] X.env := by rfl)
    (hfew : ((backTo p3 (starEach [e] X.env)).all (fun x => !x.1) && (backToKw p3 (keywordEach [] X.env)).all (fun x => x.1.isSome) && decide ([e].length + ([] : List Keyword).length + (if ([] : List Keyword).isEmpty then 0 else 1) < 30)) = true := by rfl)
    (hline : (p2.endLine == p3.line) = true := by rfl)
    (hs : swapsWith (.Call (.Attribute (.Name x p1) "extend" p2) [e] [] p3) none pos.line X.env = pure false := by rfl) : JS X pin (.Expr (.Call (.Attribute (.Name x p1) "extend" p2) [e] [] p3) pos) ρ Φ := ⟨fun E σ H D hpn ⟨Hf, A, s⟩ k => by
  refine .of (ps_expr (pe_bm PySem.F.plainAttrs_list PySem.F.slot_list_extend PySem.F.type_list_extend mt_extend (pe_var hN hv hd hcd) (pa_cons pe_w pa_nil hst) rfl hfew hline hst) hs) ?_
  obtain ⟨v, hσ, ow, ne⟩ := s.sl i _ hi
  generalize hA : A i = Ai at ow ne
  cases ow with
  | fz _ => exact absurd rfl ne
  | @lst l vs _ B hl1 ha nB =>
    refine ⟨_, hσ, .inl ⟨rfl, _, SqL.of hl1⟩, ?_⟩
    refine h Hf σ H s.fh s.vis _ fun y W' H' st r => ?_
    have s' := s.step st
    have hl2 := st.hh _ _ hl1
    cases r with
    | @lst b zs _ hb rz =>
      refine ⟨l, b, vs, zs, rfl, rfl, hl2, st.wh _ _ hb, by rw [← ha.length, ← rz.length]; exact hl, ?_⟩
      have hm : l ∈ A i := by rw [hA]; exact List.mem_cons_self
      have k1 : ∀ a ∈ B, upd H' l (.lst (vs ++ zs)) a = H a := fun a haB => by
        rw [upd_ne (fun z => by subst z; exact nB haB)]
        have := (s.ap i a (by rw [hA]; exact List.mem_cons_of_mem _ haB)).2.1
        cases q : H a with
        | none => exact absurd q this
        | some o => exact st.hh _ _ q
      have ap := (ha.move st.ww k1).append (OwnAll.fz rz hM) (fun a _ h => absurd h (by simp))
      rw [List.append_nil] at ap
      exact k _ hk _ _ ⟨W', _, s'.change (B := l :: B) hi hσ hm (by simp) (fun b hb => by rw [hA]; exact hb) (.lst upd_same ap nB)⟩⟩
theorem js_patL {tg : Expr} {is : List Nat} (h : J X e (fzR ρ) (.lst ds)) (hl : ds.length = is.length) (hk : Φ (.nx (setAll ρ is (ds.map SV.fz)))) (hg : PG X tg (gLst X.K is.length (gNames is))) (hp : ∀ i ∈ is, i ∉ pin := by decide) (hs : swapsWithSole [tg] e pos.line X.env = pure false := by rfl) (hw : swappedStores [tg] e X.env = pure none := by rfl)
    (h1 : (assignEach [tg] X.env).map (·.2) = [assign tg X.env] := by rfl) : JS X pin (.Assign [tg] e pos) ρ Φ := ⟨fun E σ H D hpn ⟨Hf, A, s⟩ k =>
  .of (ps_asg pe_w hg hs hw h1) (h Hf σ H s.fh s.vis _ fun v W' H' st r => by
    cases r with
    | @lst l vs _ hb rz =>
      obtain ⟨A', s'⟩ := setAllFz (i := 0) is (s.step st) rz hl fun i hi => hpn.none (hp i hi)
      exact ⟨l, vs, rfl, SqL.of (st.wh _ _ hb), by rw [← rz.length]; exact hl, gNames_run is (by rw [← rz.length]; exact hl) (k _ hk _ _ ⟨_, _, s'⟩)⟩)⟩
end
end Pf

namespace Pf
open PySem L2 PySem.Spec PyProof.Rows
open Evl (Ex)

section
variable {X : Cx} {A' : Around} {W' : L2.WX} {E E2 : Value → Shared → Prop} {i : Nat} {n : Str} {pos : Pos} {u : Value} {s : Shared}
end
end Pf

namespace Pf
open PySem L2 PySem.Spec PyProof.Rows
open Evl (Ex)

section
variable {X : Cx} {body suite : List Stmt} {b₀ : Stmt} {x n : Str} {c : Value} {i : Nat} {np pos pos' : Pos} {tb : L2.WX → TS} {ts : Addr → Value → Option Addr → TS} {Wo : L2.WX}
end

def ExN (X : Cx) (E : Ent) (er : Er) (ρ : RhoS) : Prop := ∃ W : L2.WX, L2N.Takes X W ∧ ∀ d σ H H', StOk X.K E ρ σ H → Ex H H' → ErAt X.K H' er d → (∀ dd, d = some dd → H dd = none) → W er.cls d σ H'
section
variable {X : Cx} {pin : List Nat} {st : Stmt} {rest a b body : List Stmt} {ρ : RhoS} {Φ : Out → Prop} {e c tg iter : Expr} {es : List Expr} {d : D} {ds : List D} {pos p p' : Pos} {i k j n : Nat} {x : Str} {t : Bool} {er : Er} {P : D → Prop} {R : Er → Prop} {G : List D → (D → Prop) → (Er → Prop) → Prop}
/-- every wish that takes errors without a context -/
def WallN (X : Cx) : L2.WX := fun cls d σ H => ∃ Wx : L2.WX, L2N.Takes X Wx ∧ Wx cls d σ H
theorem ExN.good {E : Ent} {σ : L2.St} {H : Hp} (h : ExN X E er ρ) (s : StOk X.K E ρ σ H) : GoodX X.K H er fun cls d H' => WallN X cls d σ H' := fun d H' ex at' fr => by
  obtain ⟨Wx, tk, q⟩ := h
  exact ⟨Wx, tk, q d σ H H' s ex at' fr⟩
end
section
variable {P : Program} {w : World} {K : PySem.W.Frag} {mg : Str → Option Value} {base : Heap} {x qual : Str} {st : Stmt} {f : Addr} {fd : FuncData} {N ps : List Str} {k : Nat} {G : List D → (D → Prop) → (Er → Prop) → Prop}
end

section
variable {X : Cx} {pin : List Nat} {ρ : RhoS} {Φ : Out → Prop} {body suite : List Stmt} {b₀ : Stmt} {x n : Str} {c : Value} {i : Nat} {np pos pos' : Pos}
end
end Pf

namespace Pf
open PySem L2 PySem.Spec PyProof.Rows
open Evl (Ex)
section
open PySem.Builtin PySem.Builtin.Str
/-- the first one replaced -/
def rep1 (x y z : Str) : Str := if ((occurrences x y 0 x.length 1).isEmpty || (y.length == 0 && z.length == 0)) = true then x else glued z (partsBetween x (occurrences x y 0 x.length 1) y.length)
theorem rep1_tree (x y z : Str) (t u v k : Tok) : «str.replace» ⟨[.str x t, .str y u, .str z v, .int 1 k], []⟩ =
    (if ((occurrences x y 0 x.length 1).isEmpty || (y.length == 0 && z.length == 0)) = true then (do rule "str.replace.nothing"; ret (.str x t)) else
      (do let same ← isSame (.str y u) (.str z v)
          if same = true then (do rule "str.replace.old-is-new"; ret (.str x t)) else
          if tooLong (x.length + (occurrences x y 0 x.length 1).length * z.length) = true then unsupported "str.replace:memory" else
          retStr (glued z (partsBetween x (occurrences x y 0 x.length 1) y.length)))) := by
  show (do let limit ← countLimit "str.replace" (some (.int 1 k)) (x.length + 1); _) = _
  rw [countLimit_int "str.replace" 1 k (x.length + 1) (by decide)]
  rfl
theorem gives_rep1 (x y z : Str) (t u v k : Tok) (hu : u ≠ 0) (hv : v ≠ 0) (huv : u ≠ v) (hyz : (y == z) = false) (hl : tooLong (x.length + (occurrences x y 0 x.length 1).length * z.length) = false) :
    Gives («str.replace» ⟨[.str x t, .str y u, .str z v, .int 1 k], []⟩) (if ((occurrences x y 0 x.length 1).isEmpty || (y.length == 0 && z.length == 0)) = true then .val (.str x t) else .str (glued z (partsBetween x (occurrences x y 0 x.length 1) y.length))) := by
  rw [rep1_tree]
  cases hc : ((occurrences x y 0 x.length 1).isEmpty || (y.length == 0 && z.length == 0))
  · rw [isSame_str_other y z u v (by simp [hu, hv]) (by simp [huv]) hyz, hl]
    exact .of_eq rfl
  · exact .rule (.of_eq rfl)
theorem call_rep1 {prog : Program} {w : World} {A : Around} {E : Value → Shared → Prop} {s : Shared} {x y z : Str} {t u v k : Tok} {Q : Value → Shared → Prop} (hu : u ≠ 0) (hv : v ≠ 0) (huv : u ≠ v) (hyz : (y == z) = false) (hx : x.length + z.length ≤ 10000)
    (hq : ∀ t' k, Q (.str (rep1 x y z) t') { s with toks := k }) : wpAny (model prog w) A (call (.builtin "str.replace") [.str x t, .str y u, .str z v, .int 1 k]) Q E s := by
  have h1 := StrLaws.occ_length_le x y 0 x.length 1
  have h2 : (occurrences x y 0 x.length 1).length * z.length ≤ 1 * z.length := Nat.mul_le_mul_right _ h1
  have e : (10000 : Nat) ≤ sizeLine := by decide
  refine call_gives F.slot_str_replace (typeIs_str _ _ _) F.entry_str_replace (F.args_str_replace_4 _ _ _ _) (gives_rep1 x y z t u v k hu hv huv hyz (by unfold tooLong; exact decide_eq_false (by omega))) ?_
  have hq' := hq
  unfold rep1 at hq'
  cases hc : ((occurrences x y 0 x.length 1).isEmpty || (y.length == 0 && z.length == 0))
  · rw [hc] at hq'
    simp only [Bool.false_eq_true, if_false] at hq' ⊢
    refine ⟨?_, hq' _ _⟩
    have hy : (glued y (partsBetween x (occurrences x y 0 x.length 1) y.length)).length = x.length := by rw [StrLaws.glued_between_self]
    rw [size_glued, length_partsBetween, Nat.add_sub_cancel] at hy
    rw [size_glued, length_partsBetween, Nat.add_sub_cancel]
    omega
  · rw [hc] at hq'
    simp only [if_true] at hq' ⊢
    exact hq' t s.toks
end
structure JT1 (X : Cx) (e : Expr) (ρ : Rho) (d : D) : Prop where
  run : ∀ W σ H, Ex W H → Vis X.K ρ W σ → ∀ Q : VK, GoodE X.K W H d Q → ∀ pins s, 1 ≤ s.toks → Inv X pins σ H s → wpAny (model X.prog X.w) X.A (eval e X.env) (EP X pins σ Q) X.xe s
structure JA1 (X : Cx) (es : List Expr) (ρ : Rho) (ds : List D) : Prop where
  run : ∀ W σ H, Ex W H → Vis X.K ρ W σ → ∀ Q : List V → Hp → Prop, GoodA X.K W H ds Q → ∀ (pos : Pos) pins s, 1 ≤ s.toks → Inv X pins σ H s → wpAny (model X.prog X.w) X.A (spliced (backTo pos (starEach es X.env))) (AP X pins σ Q) X.xe s
section
variable {X : Cx} {ρ : Rho} {e o : Expr} {es : List Expr} {d : D} {ds : List D} {pos apos c0 c1 c2 cp : Pos} {j k l : Nat} {x y z c : Str}
theorem jt1_of (h : J X e ρ d) : JT1 X e ρ d := ⟨fun W σ H ex hV Q g pins s _ I => h.run W σ H ex hV Q g pins s I⟩
theorem ja1_nil : JA1 X [] ρ [] := ⟨fun W σ H ex hV Q g pos pins s _ I => Calls.spliced_nil ⟨[], H, I, .nil, g [] W H (.refl ex) .nil⟩⟩
theorem ja1_cons (h : JT1 X e ρ d) (h2 : JA1 X es ρ ds) (hs : starEach (e :: es) X.env = (false, eval e X.env) :: starEach es X.env := by rfl) : JA1 X (e :: es) ρ (d :: ds) := ⟨fun W σ H ex hV Q g pos pins s h0 I => by
  rw [hs]
  show wpAny _ _ (spliced ((false, eval e X.env) :: backTo pos (starEach es X.env))) _ _ s
  refine Calls.spliced_cons (wpAny_mono (PySem.wpAny_toks (h.run W σ H ex hV (fun v H1 => ∃ W1, Step W H W1 H1 ∧ Rep X.K W1 d v) (fun v W1 H1 s1 r1 => ⟨W1, s1, r1⟩) pins s h0 I)) (fun v s1 q => ?_) fun _ _ x => x.2)
  obtain ⟨hk, xv, H1, I1, rv, W1, s1', r1⟩ := q
  exact thn (h2.run W1 σ H1 s1'.wh (hV.mono s1'.ww) (fun vs H2 => ∃ W2, Step W1 H1 W2 H2 ∧ RepAll X.K W2 ds vs) (fun vs W2 H2 s2 r2 => ⟨W2, s2, r2⟩) pos pins s1 (Nat.le_trans h0 hk) I1) fun us s2 ⟨xs, H2, I2, r2, W2, s2', r3⟩ =>
    ⟨xv :: xs, H2, I2, .cons rv r2, g _ W2 H2 (s1'.trans s2') (.cons (r1.mono s2'.ww) r3)⟩⟩
theorem jt1_rep (ho : J X o ρ (.str x)) (hyz : (y == z) = false) (hx : x.length + z.length ≤ 10000)
    (hst : starEach [.Constant (.str y) j c0, .Constant (.str z) k c1, .Constant (.int 1) l c2] X.env = [(false, eval (.Constant (.str y) j c0) X.env), (false, eval (.Constant (.str z) k c1) X.env), (false, eval (.Constant (.int 1) l c2) X.env)] := by rfl)
    (hbase : attributeBase o "replace" X.env (eval o X.env) = eval o X.env := by rfl)
    (hfew : ((backTo pos (starEach [.Constant (.str y) j c0, .Constant (.str z) k c1, .Constant (.int 1) l c2] X.env)).all (fun x => !x.1) && (backToKw pos (keywordEach [] X.env)).all (fun x => x.1.isSome) && decide ([(.Constant (.str y) j c0 : Expr), .Constant (.str z) k c1, .Constant (.int 1) l c2].length + ([] : List Keyword).length + (if ([] : List Keyword).isEmpty then 0 else 1) < 30)) = true := by rfl)
    (hline : (apos.endLine == pos.line) = true := by rfl) :
    JT1 X (.Call (.Attribute o "replace" apos) [.Constant (.str y) j c0, .Constant (.str z) k c1, .Constant (.int 1) l c2] [] pos) ρ (.str (rep1 x y z)) := ⟨fun W σ H ex hV Q g pins s h0 I => by
  refine wpAny_Call_method_late hbase hfew hline rfl (wpAny_mono (PySem.wpAny_toks (ho.run W σ H ex hV (fun v H1 => v = .str x ∧ ∃ W1, Step W H W1 H1) (fun v W1 H1 s1 r1 => by cases r1; exact ⟨rfl, W1, s1⟩) pins s I)) (fun v s1 q => ?_) fun _ _ z => z.2)
  obtain ⟨hk, xv, H1, I1, rv, rfl, W1, s1'⟩ := q
  obtain ⟨tx, rfl⟩ := rv
  have h1 : 1 ≤ s1.toks := Nat.le_trans h0 hk
  refine ⟨"str", _, PySem.F.plainAttrs_str, PySem.F.slot_str_replace, PySem.F.type_str_replace, typeIs_str _ _ _, (fun _ e => nomatch e), Calls.callWith_builtin rfl (Calls.evalArgs_plain ?_)⟩
  refine Calls.spliced_cons (Calls.Constant_str (k := j) (pos := c0) ?_)
  refine Calls.spliced_cons (Calls.Constant_str (k := k) (pos := c1) ?_)
  refine Calls.spliced_cons (wpAny_Constant_int (k := l) (pos := c2) (Calls.spliced_nil ?_))
  exact call_rep1 (by show s1.toks ≠ 0; omega) (by show s1.toks + 1 ≠ 0; omega) (by show s1.toks ≠ s1.toks + 1; omega) hyz hx fun t' k' => ⟨.str (rep1 x y z), H1, I1.tok k', ⟨t', rfl⟩, g _ _ _ s1' (.str _)⟩⟩
end
def stepP (cs : List Nat) (st : Array Nat × Nat) (i : Nat) : Array Nat × Nat := if (st.1.size < 1 ∧ st.2 ≤ i) ∧ cs[i]? = some 32 then (st.1.push i, i + 1) else st
theorem run_P (cs : List Nat) : ∀ (l : List Nat) (st : Array Nat × Nat), (forIn l st (StrLaws.occBody (tx cs) (tx [32]) (tx cs).length 1)).run = l.foldl (stepP cs) st
  | [], st => rfl
  | a :: l, st => by
    rw [List.forIn_cons, List.foldl_cons]
    have hs := StrLaws.subAt_one (tx cs) 32 a
    unfold StrLaws.occBody stepP
    by_cases q : ((st.fst.size < 1 ∧ st.snd ≤ a) ∧ a + (tx [32]).length ≤ (tx cs).length) ∧ Builtin.Str.subAt (tx cs) (tx [32]) a = true
    · rw [if_pos q, if_pos ⟨q.1.1, hs.mp ⟨q.1.2, q.2⟩⟩]
      exact run_P cs l _
    · rw [if_neg q, if_neg fun z => q ⟨⟨z.1, (hs.mpr z.2).1⟩, (hs.mpr z.2).2⟩]
      exact run_P cs l _
theorem skip_P (cs : List Nat) : ∀ (l : List Nat) (st : Array Nat × Nat), (1 ≤ st.1.size ∨ ∀ i ∈ l, cs[i]? ≠ some 32) → l.foldl (stepP cs) st = st
  | [], _, _ => rfl
  | a :: l, st, h => by
    have h1 : stepP cs st a = st := by
      unfold stepP
      refine if_neg fun z => ?_
      rcases h with h | h
      · omega
      · exact h a List.mem_cons_self z.2
    rw [List.foldl_cons, h1]
    exact skip_P cs l st (h.imp id fun h i hi => h i (List.mem_cons_of_mem _ hi))
theorem occ_one {A B : List Nat} (hA : 32 ∉ A) : Builtin.Str.occurrences (tx (A ++ 32 :: B)) (tx [32]) 0 (tx (A ++ 32 :: B)).length 1 = [A.length] := by
  generalize hcs : A ++ 32 :: B = cs
  have hl : cs.length = A.length + 1 + B.length := by rw [← hcs]; simp; omega
  rw [StrLaws.occ_eq, run_P, tx_len, Nat.sub_zero]
  have e1 : List.range' 0 (cs.length + 1) = List.range' 0 A.length ++ (A.length :: List.range' (A.length + 1) (B.length + 1)) := by
    have r2 : A.length :: List.range' (A.length + 1) (B.length + 1) = List.range' A.length (B.length + 2) := rfl
    rw [r2]
    have r3 := List.range'_append_1 (s := 0) (m := A.length) (n := B.length + 2)
    rw [Nat.zero_add] at r3
    rw [r3, hl]
    congr 1
    omega
  have gA : cs[A.length]? = some 32 := by rw [← hcs, List.getElem?_append_right (Nat.le_refl _), Nat.sub_self]; rfl
  rw [e1, List.foldl_append, skip_P cs (List.range' 0 A.length) _ (.inr fun i hi q => ?_), List.foldl_cons]
  · rw [show stepP cs (#[], 0) A.length = (#[A.length], A.length + 1) from if_pos ⟨⟨by simp, Nat.zero_le _⟩, gA⟩]
    rw [skip_P cs _ _ (.inl (by simp))]
  · obtain ⟨h1, h2⟩ := List.mem_range'_1.mp hi
    rw [← hcs, List.getElem?_append_left (by omega)] at q
    exact hA (List.mem_of_getElem? q)
theorem sub_txL (cs : List Nat) (i j : Nat) : Builtin.Str.strSub (tx cs) i j = tx ((cs.drop i).take (j - i)) := by
  unfold Builtin.Str.strSub tx
  congr 1
  apply Array.ext'
  simp [List.drop_take]
theorem rep1_space {A B : List Nat} (hA : 32 ∉ A) (z : Str) : rep1 (tx (A ++ 32 :: B)) (tx [32]) z = tx (A ++ (z.cps.toList ++ B)) := by
  unfold rep1
  rw [occ_one hA, if_neg (by simp [tx_len]), StrLaws.partsBetween_eq]
  show Builtin.Str.glued z [Builtin.Str.strSub _ 0 A.length, Builtin.Str.strSub _ (A.length + 1) (tx _).length] = _
  rw [sub_txL, sub_txL, tx_len, List.drop_zero, Nat.sub_zero, List.take_left' rfl]
  rw [show (A ++ 32 :: B).drop (A.length + 1) = B from by rw [show A ++ 32 :: B = (A ++ [32]) ++ B by simp]; exact List.drop_left' (by simp)]
  rw [List.take_of_length_le (by simp only [List.length_append, List.length_cons]; omega)]
  unfold Builtin.Str.glued
  show (⟨_⟩ : Str) = ⟨_⟩
  congr 1
  apply Array.ext'
  simp [tx]
end Pf

namespace Pf
open PySem L2 PySem.Spec PyProof.Rows
open Evl (Ex)
section
variable {X : Cx} {ρ : Rho} {pos : Pos}
/-- {k: v, ..}, the keys numbers -/
inductive JPi (X : Cx) (ρ : Rho) : List (Option Expr) → List Expr → List (Int × D) → Prop
  | nil : JPi X ρ [] [] []
  | cons {k v : Expr} {ks : List (Option Expr)} {vs : List Expr} {z : Int} {d : D} {r : List (Int × D)} : J X k ρ (.int z) → J X v ρ d → JPi X ρ ks vs r → JPi X ρ (some k :: ks) (v :: vs) ((z, d) :: r)
theorem JPi.len : ∀ {ks : List (Option Expr)} {vs : List Expr} {r : List (Int × D)}, JPi X ρ ks vs r → ks.length = vs.length ∧ ks.length = r.length ∧ ks.all (·.isSome) = true
  | _, _, _, .nil => ⟨rfl, rfl, rfl⟩
  | _, _, _, .cons _ _ h => by
    obtain ⟨a, b, c⟩ := h.len
    exact ⟨by simp [a], by simp [b], by simp [c]⟩
theorem JPi.run : ∀ {ks : List (Option Expr)} {vs : List Expr} {r : List (Int × D)}, JPi X ρ ks vs r → ∀ W σ H, Ex W H → Vis X.K ρ W σ → ∀ Q : List (V × V) → Hp → Prop, (∀ (us : List V) W' H', Step W H W' H' → RepAll X.K W' (r.map (·.2)) us → Q ((r.map fun q => V.int q.1).zip us) H') → tPairs (trsOf X ks vs) σ H Q
  | _, _, _, .nil => fun W σ H ex hV Q g => g [] W H (.refl ex) .nil
  | _, _, _, .cons hk hv h => fun W σ H ex hV Q g => hk W σ H ex hV _ fun x W1 H1 s1 r1 => hv W1 σ H1 s1.wh (hV.mono s1.ww) _ fun y W2 H2 s2 r2 => h.run W2 σ H2 s2.wh (hV.mono (s1.trans s2).ww) _ fun us W3 H3 s3 r3 => by
    cases r1
    exact g (y :: us) W3 H3 ((s1.trans s2).trans s3) (.cons (r2.mono s3.ww) r3)
end
end Pf

namespace Pf
open PySem L2
open Evl (Ex)
section
variable {X : Cx} {pin : List Nat} {ρ : RhoS} {Φ : Out → Prop} {e ke fe o : Expr} {es : List Expr} {d : D} {ds : List D} {pos p p' p1 p2 p3 : Pos} {i j : Nat} {x y : Str} {kds : List (Key × D)} {z : Str}
end
end Pf

namespace Pf
open PySem L2
open Evl (Ex)
section
variable {X : Cx} {pin : List Nat} {ρ : RhoS} {Φ : Out → Prop} {a b : Expr} {d1 d2 : D} {pos px py pt pt2 : Pos} {i j : Nat} {x y : Str}
theorem js_par {kt k2} (h : JA X [a, b] (fzR ρ) [d1, d2]) (hk : Φ (.nx ((ρ.set i (some (.fz d1))).set j (some (.fz d2))))) (hN : X.N.Nodup) (hw : swappedStores [.Tuple [.Name x px, .Name y py] kt pt] (.Tuple [a, b] k2 pt2) X.env = pure (some [x, y])) (hij : i ≠ j := by decide) (hi : X.N[i]? = some x := by rfl) (hj : X.N[j]? = some y := by rfl)
    (hx : X.env.scope.names.lookup x = some .local := by rfl) (hy : X.env.scope.names.lookup y = some .local := by rfl) (hp : i ∉ pin := by decide) (hq : j ∉ pin := by decide) (hc : X.calm = true := by rfl) (hs : swapsWithSole [.Tuple [.Name x px, .Name y py] kt pt] (.Tuple [a, b] k2 pt2) pos.line X.env = pure false := by rfl) :
    JS X pin (.Assign [.Tuple [.Name x px, .Name y py] kt pt] (.Tuple [a, b] k2 pt2) pos) ρ Φ := ⟨fun E σ H D hpn ⟨Hf, A, s⟩ k =>
  .of (ps_par hc hN hi hj hij hx hy pa_w hw hs) (h Hf σ H s.fh s.vis _ fun vs W' H' st r => by
    cases r with
    | cons r1 r =>
      cases r with
      | cons r2 r =>
        cases r
        exact ⟨_, _, rfl, k _ hk _ H' ⟨W', _, ((s.step st).setFz r1 (hpn.none hp)).setFz r2 (hpn.none hq)⟩⟩)⟩
end
end Pf

namespace Pf
open PySem L2 PySem.Spec PyProof.Rows
open Evl (Ex)
section
variable {P : Program} {w : World} {A : Around} {E : Value → Shared → Prop} {s : Shared}
set_option maxHeartbeats 3200000 in
/-- set(xs), xs a tuple of texts -/
theorem call_set_tt {l : Addr} {items : Array Value} {zs : List Str} {Q : Value → Shared → Prop} (hh : A.handled = none) (hl : s.heap.IsTuple l items) (hi : StrsAre items.toList zs) (hf : zs.length + 1 < scanBound)
    (h : ∀ (h' : Heap) (tk : Nat), TS1 P w h' s.heap.objs.size (ddL zs) → (∀ b o, s.heap.get? b = some o → h'.get? b = some o) → Q (.ref s.heap.objs.size) { s with heap := h', toks := tk }) :
    wpAny (model P w) A (call (.type "set") [.ref l]) Q E s := by
  have hsz : zs.length = items.size := by rw [← StrsAre.len_eq hi, Array.length_toList]
  have hlS : l < s.heap.objs.size := by obtain ⟨o, ho, _⟩ := hl; exact Heap.lt_size ho
  obtain ⟨c, tl, hmro⟩ := PySem.F.called_set.mro
  have hmade := PySem.F.called_set.made
  have hsub := PySem.F.called_set.sub
  refine wpAny_call (codeAny_of_tree (show wpAny _ _ (callAny (.type "set") _) _ _ _ from ?_))
  refine wpAny_pure ⟨Code.quiet_builtin _ (by decide +kernel), codeAny_builtin PySem.F.entry_type_call ?_⟩
  rw [Around.under_plain (weight_type_call_type "set" [.ref l] []) rfl]
  have h1 := PySem.F.called_set.notType
  have h2 := PySem.F.called_set.canCreate
  have hct := PySem.F.typeCall_set_1 (.ref l)
  repeat (any_goals (first | assumption | wp_step))
  refine codeAny_mono (new_led (.ref l) (E := E) (Q := fun obj s₁ => obj = .ref s.heap.objs.size ∧ s₁ = { s with heap := s.heap.push { cls := .type "set", dict := none, data := .set #[] 0 (.fresh 0 0 (!w.params.followText "set-order")) } }) ⟨rfl, rfl⟩) fun r s₁ hr => ?_
  cases r with
  | error e => exact hr
  | ok fl =>
    cases fl with
    | next => exact hr.elim
    | brk => exact hr.elim
    | cont => exact hr.elim
    | ret obj =>
      obtain ⟨rfl, rfl⟩ := hr
      have T0 := ts_fresh (P := P) (w := w) s.heap
      have hS : (s.heap.push { cls := .type "set", dict := none, data := .set #[] 0 (.fresh 0 0 (!w.params.followText "set-order")) }).get? s.heap.objs.size = some { cls := .type "set", dict := none, data := .set #[] 0 (.fresh 0 0 (!w.params.followText "set-order")) } := Heap.get?_push_size _ rfl
      have hl1 : (s.heap.push { cls := .type "set", dict := none, data := .set #[] 0 (.fresh 0 0 (!w.params.followText "set-order")) }).IsTuple l items := hl.push _
      have kp0 : ∀ b o, s.heap.get? b = some o → (s.heap.push { cls := .type "set", dict := none, data := .set #[] 0 (.fresh 0 0 (!w.params.followText "set-order")) }).get? b = some o := fun b o q => Heap.get?_push_of_some _ q
      have hz1 : (s.heap.push { cls := .type "set", dict := none, data := .set #[] 0 (.fresh 0 0 (!w.params.followText "set-order")) }).objs.size = s.heap.objs.size + 1 := size_push' _ _
      generalize s.heap.push { cls := .type "set", dict := none, data := .set #[] 0 (.fresh 0 0 (!w.params.followText "set-order")) } = hp1 at T0 hS hl1 kp0 hz1
      have hT : Shared.TypeIs { s with heap := hp1 } (.ref s.heap.objs.size) "set" := ⟨_, hS, rfl⟩
      have hli := PySem.F.called_set.init.lookup
      have hbi := PySem.F.called_set.init.bind (.ref s.heap.objs.size)
      repeat (any_goals (first | assumption | wp_step))
      refine codeAny_mono (codeAny_call_builtin (R := wants (fun r s₂ => r = .none ∧ ∃ h' tk, s₂ = { s with heap := h', toks := tk } ∧ TS1 P w h' s.heap.objs.size (ddL zs) ∧ ∀ b o, s.heap.get? b = some o → h'.get? b = some o) E) PySem.F.called_set.init.plain PySem.F.entry_set_init (check_set_init_1 hT ?_)) fun r₂ s₂ hr₂ => ?_
      · obtain ⟨ol, hol, hcl, nl, hdl⟩ := id hl1
        obtain ⟨ocls, odict, odata, oslots⟩ := ol
        simp only at hcl hdl
        subst hcl; subst hdl
        have hsls := PySem.F.sub_tuple_set
        have hslf := PySem.F.sub_tuple_frozenset
        have hne : (Value.type "tuple" == Value.type "dict") = false := by decide
        unfold Builtin.«set.__init__» noKeywords Builtin.Frozenset.updateFrom
        generalize hPI : pyIter = PI
        wp_walk
        subst hPI
        refine wpAny_pyIter_tuple hl1 (wpAny_bind (wpAny_runValue ?_))
        have hneI : l ≠ hp1.objs.size := by rw [hz1]; exact Nat.ne_of_lt (Nat.lt_succ_of_lt hlS)
        have hSf : s.heap.objs.size ∉ [hp1.objs.size, l] := by
          rw [hz1]
          simp only [List.mem_cons, List.not_mem_nil, or_false, not_or]
          exact ⟨Nat.ne_of_lt (Nat.lt_succ_self _), Nat.ne_of_gt hlS⟩
        have hval : ∀ (i : Nat) (v : Value), items[i]? = some v → ∃ t, v = .str (zs.getD i Str.empty) t := fun i v hv => SS.strs_at hi i v (by rw [Array.getElem?_toList]; exact hv)
        have hh3 : A.in1.in1.in1.handled = none := by simp [hh]
        refine ts_loop ((Walks.tuple hh3 _ l hneI items).toS) s.heap.objs.size hSf zs hsz (by rw [← hsz]; exact hf) hval (items.size - 0) 0 _ (by omega) (Nat.zero_le _) ⟨⟨_, Heap.get?_push_size _ rfl, rfl, rfl⟩, (hl1.push _)⟩ (T0.keep fun o q => Heap.get?_push_of_some _ q) ?_
        intro s' hm T
        obtain ⟨h', g', d', tk', os'⟩ := s'
        have eg : g' = s.gens := hm.gens
        have ed : d' = s.drawn := hm.drawn
        have eo : os' = s.os := hm.os
        subst eg; subst ed; subst eo
        show wpAny _ _ _ _ _ _
        refine wpAny_pure ?_
        show wpAny _ _ (ret Value.none) _ _ _
        refine wpAny_pure ⟨rfl, h', tk', rfl, T, fun b o q => ?_⟩
        have hb := Heap.lt_size q
        refine hm.heap b o (fun z => ?_) (Heap.get?_push_of_some _ (kp0 b o q))
        simp only [List.mem_cons, List.not_mem_nil, or_false] at z
        rcases z with z | z
        · exact absurd z (Nat.ne_of_lt hb)
        · exact absurd z (by rw [hz1]; exact Nat.ne_of_lt (Nat.lt_succ_of_lt hb))
      · cases r₂ with
        | error e => exact hr₂
        | ok fl₂ =>
          cases fl₂ with
          | ret r =>
            obtain ⟨rfl, h', tk, rfl, T, kp⟩ := hr₂
            repeat (any_goals (first | assumption | wp_step))
            exact h _ _ T kp
          | next => exact hr₂.elim
          | brk => exact hr₂.elim
          | cont => exact hr₂.elim
end
section
variable {X : Cx} {a : Expr} {ta : TE} {p p2 q pos : Pos}
def tSetT (K : PySem.W.Frag) (ta : TE) (k : List Str → Hp → VK → Prop) : TE := fun σ H Q => ta σ H fun x H1 => ∃ l, ∃ xs : List Str, x = .ref l ∧ SqT K H1 l (xs.map V.str) ∧ xs.length + 1 < scanBound ∧ k xs H1 Q
theorem pe_lenTT (hc : X.calm = true) (hg : Gl X "len") (hm : X.mg "len" = none) (hg2 : Gl X "set") (hm2 : X.mg "set" = none) (ha : PE X a ta) (na : starEach [a] X.env = (false, eval a X.env) :: starEach [] X.env := by rfl) :
    PE X (.Call (.Name "len" p) [.Call (.Name "set" p2) [a] [] q] [] pos) (tSetT X.K ta fun xs H1 Q => Q (.int ((ddL xs).length : Nat)) H1) := by
  refine ⟨fun pins s σ H Q I h => ?_⟩
  refine Call_ (ld_blt I hg hm boot_len ?_)
  refine PyProof.Rows.callWith_builtin1 (PyProof.Rows.args_cons ?_ rfl) rfl rfl
  refine Call_ (ld_blt I hg2 hm2 boot_set ?_)
  refine PyProof.Rows.callWith_type1 (PyProof.Rows.args_cons (thn (ha.run pins s σ H _ I h) fun v s1 ⟨x, H1, I1, r1, q1⟩ => PyProof.Rows.args_nil ?_) na) na rfl
  obtain ⟨l, xs, rfl, hq, hb, q1⟩ := q1
  cases r1
  obtain ⟨its, r, pl, hz⟩ := I1.tuple hq
  refine call_set_tt (P := X.prog) (w := X.w) (I1.ok.hd hc) pl (by simpa using strsAre_of r) hb fun h' tk T hk => ?_
  refine PyProof.Rows.args_nil ?_
  obtain ⟨o, es, ep, t, R⟩ := T
  have I2 : Inv X pins σ H1 { s1 with heap := h', toks := tk } := I1.kept fun b o e => hk b o e
  have hl := ddL_len xs
  have hs := R.size
  exact call_len_set R.at' R.ex R.da R.fits (by have h4 : scanBound = 4096 := rfl; omega) ⟨.int ((ddL xs).length : Nat), H1, I2.tok _, ⟨_, by rw [hs]⟩, q1⟩
end
section
variable {X : Cx} {a : Expr} {p p2 q pos : Pos} {ρ : Rho} {xs : List Str}
/-- len(set(t)) -/
theorem jb_lenSetT (T : Bt X.mg) (ha : J X a ρ (.tup (xs.map D.str))) (hb : xs.length + 1 < scanBound) (hc : X.calm = true := by rfl) (hg : Gl X "len" := by rfl) (hg2 : Gl X "set" := by rfl) (na : starEach [a] X.env = (false, eval a X.env) :: starEach [] X.env := by rfl) :
    J X (.Call (.Name "len" p) [.Call (.Name "set" p2) [a] [] q] [] pos) ρ (.int ((ddL xs).length : Nat)) := ⟨fun W σ H ex hV Q g => .of (pe_lenTT hc hg T.len hg2 T.set pe_w na) (ha W σ H ex hV _ fun v W1 H1 s1 r1 => by
  cases r1 with
  | tup h1 k => cases k.strs; exact ⟨_, xs, rfl, Evl.ex_t s1.wh h1, hb, g _ W1 H1 s1 (.int _)⟩)⟩
end
end Pf

namespace Pf
open PySem L2
open Evl (Ex)
theorem OwnAll.len {K : PySem.W.Frag} {Hf H : Hp} : ∀ {ds : List D} {vs : List V} {A : List Addr}, OwnAll K Hf H ds vs A → ds.length = vs.length
  | _, _, _, .nil => rfl
  | _, _, _, .cons _ r _ _ => by rw [List.length_cons, List.length_cons, r.len]
section
variable {X : Cx} {ρ : RhoS} {ke : Expr} {ds es : List D} {pos p1 : Pos} {i : Nat} {x : Str} {k : Nat}
end
end Pf

namespace Pf
open PySem L2 PySem.Spec PyProof.Rows
open Evl (Ex)
section
variable {X : Cx} {st : Stmt} {rest a b : List Stmt} {ρ : RhoS} {P : D → Prop} {e c : Expr} {d : D} {pos p : Pos} {i : Nat} {x : Str}
end
section
variable {P : Program} {w : World} {K : PySem.W.Frag} {mg : Str → Option Value} {base : Heap} {x qual : Str} {st : Stmt} {f : Addr} {fd : FuncData} {N ps : List Str} {k : Nat} {G : List D → (D → Prop) → Prop}
end
section
variable {X : Cx} {ρ : Rho} {e : Expr} {es : List Expr} {ds : List D} {pos p : Pos} {x : Str} {k j n : Nat} {G : List D → (D → Prop) → Prop} {P : D → Prop}
end
section
variable {X : Cx} {elt tg iter : Expr} {scope : Scope} {own : List (Str × Nat)} {pos : Pos} {ρ : Rho} {pat : Pat}
end
end Pf

namespace Pf
open PySem L2 PySem.Spec PyProof.Rows
open Evl (Ex)
section
variable {K : PySem.W.Frag} {E : Ent} {ρ : RhoS} {σ : L2.St} {H Hf W' H' : Hp} {A : Nat → List Addr} {i : Nat} {C : Addr} {fds : List (Str × D)} {f : Str} {d' : D} {a : Addr} {Ag : List Addr}
end
section
variable {X : Cx} {pin : List Nat} {ρ : RhoS} {Φ : Out → Prop} {e : Expr} {P : List D → Prop} {Pd : D → Prop} {pos p' p1 : Pos} {i : Nat} {x f : Str} {C : Addr} {fds : List (Str × D)}
end
section
variable {K : PySem.W.Frag} {Hf H : Hp}
end
def fzOnly : Option SV → Option SV
  | some (.fz d) => some (.fz d)
  | _ => none
/-- the names' values in the body: own slots hidden, the item in t -/
def bodyO (i t : Nat) (d : D) (ρ : RhoS) : RhoS := ((ρ.map fzOnly).set i none).set t (some (.ow d))
section
variable {X : Cx} {pin : List Nat} {ρ : RhoS} {Φ : Out → Prop} {body : List Stmt} {pos p' p1 p2 : Pos} {i t : Nat} {x y f : Str} {C : Addr} {fds : List (Str × D)} {ds : List D}
end
end Pf

namespace Pf
open PySem L2 PySem.Spec PyProof.Rows
open Evl (Ex)
section
variable {X : Cx} {pin : List Nat} {ρ : RhoS} {Φ : Out → Prop} {e a b c : Expr} {d : D} {pos p p2 apos : Pos} {i j k n : Nat} {x f m : Str} {C : Addr} {fds : List (Str × D)}
end
section
variable {X : Cx} {ρ : Rho} {o a : Expr} {pos apos : Pos}
theorem j_joinT {x : PySem.Str} {ys : List PySem.Str} {z : PySem.Str} (ho : J X o ρ (.str x)) (ha : J X a ρ (.tup (ys.map D.str))) (hz : (ys.map (·.length)).sum + ys.length * x.length ≤ 16777216) (hj : Txt.join x ys = z) (hs : starEach [a] X.env = [(false, eval a X.env)] := by rfl) (hbase : attributeBase o "join" X.env (eval o X.env) = eval o X.env := by rfl) (hline : (apos.endLine == pos.line) = true := by rfl) :
    J X (.Call (.Attribute o "join" apos) [a] [] pos) ρ (.str z) := ⟨fun W σ H ex hV Q g => .of (pe_join pe_w pe_w hs hbase hline) (ho W σ H ex hV _ fun v W1 H1 s1 r1 => by
  cases r1
  refine ⟨⟨x, rfl⟩, ha W1 σ H1 s1.wh (hV.mono s1.ww) _ fun u W2 H2 s2 r2 => ?_⟩
  cases r2 with
  | tup h1 k => cases k.strs; subst hj; exact ⟨x, _, ys, rfl, rfl, .inr (h1.imp (fun z => z.imp (s2.wh _ _) fun ⟨o, z⟩ => ⟨o, s2.wh _ _ z⟩) id), hz, g _ _ _ (s1.trans s2) (.str _)⟩)⟩
end
section
variable {X : Cx} {ρ : Rho} {o e f : Expr} {apos cpos : Pos} {kds : List (Key × D)} {z : Str} {d0 : D}
end
section
variable {X : Cx} {pin : List Nat} {ρ : RhoS} {Φ : Out → Prop} {e ke : Expr} {d : D} {pos p' p1 : Pos} {i : Nat} {x : Str} {kds : List (Key × D)} {z : Str}
end
end Pf

namespace Pf
open PySem L2 PySem.Spec PyProof.Rows
open Evl (Ex)
section
variable {X : Cx} {ρ : Rho} {e : Expr} {pos p : Pos}
def rRepr (K : PySem.W.Frag) : List V → Hp → VK → Prop := fun vs H Q => ∃ (a : Addr) (q : PyData), vs = [V.ref a] ∧ Dp K H (.ref a) q ∧ q.showable = true ∧ q.hasDict = false ∧ q.depth ≤ 60 ∧ q.shown.length ≤ sizeLine ∧ Q (.str q.shown) H
theorem cr_repr {X : Cx} (hg : X.A.guards = some []) (hu : X.A.units + 64 < cLine) : CallR X (.builtin "repr") (rRepr X.K) := by
  intro pins s σ H vs us Q Jv r h
  obtain ⟨a, q, rfl, hd, h1, h2, h3, h4, k⟩ := h
  obtain ⟨u, rfl, rel⟩ := vals1 r
  obtain ⟨as, rd⟩ := Dp.reads Jv _ _ _ hd rel
  obtain rfl : u = Value.ref a := rel
  exact repr_of_reads' rd h1 (fun z => by rw [h2] at z; cases z) hg (by omega) (fun _ _ z => z) (fun h' u tk kp => ⟨.str q.shown, H, Jv.kept kp, ⟨u, rfl⟩, k⟩) h4
/-- data in a list or a tuple -/
def boxed : D → Bool
  | .lst _ => true
  | .tup _ => true
  | _ => false
theorem j_repr {d : D} {q : PyData} (hG : X.A.guards = some []) (hu : X.A.units + 64 < cLine) (hm : X.mg "repr" = none) (ha : JA X [e] ρ [d]) (hp : toPy d = some q) (hb : boxed d = true) (h1 : q.showable = true) (h2 : q.hasDict = false) (h3 : q.depth ≤ 60) (h4 : q.shown.length ≤ sizeLine)
    (hg : Gl X "repr" := by rfl) (he : starEach [e] X.env = (false, eval e X.env) :: starEach [] X.env := by rfl) (hpl : (backTo pos (starEach [] X.env)).any (·.1) = false := by rfl) : J X (.Call (.Name "repr" p) [e] [] pos) ρ (.str q.shown) :=
  j_cb (cr_repr hG hu) hm (by decide +kernel) ha (fun W H vs ex r Q g => by
    cases r with
    | cons r t =>
      cases t
      have hd := (r.mono ex).dp _ hp
      rename_i v
      obtain ⟨a, rfl⟩ : ∃ a, v = V.ref a := by
        cases r with
        | lst h _ => exact ⟨_, rfl⟩
        | tup h _ => exact ⟨_, rfl⟩
        | _ => first | exact Bool.noConfusion hb | exact ⟨_, rfl⟩
      exact ⟨a, q, rfl, hd, h1, h2, h3, h4, g.now ex (.str _)⟩) hg (by decide) (by decide) he hpl
end
structure FnG (P : Program) (w : World) (K : PySem.W.Frag) (mg : Str → Option Value) (base : Heap) (k : Nat) (f : Addr) (fd : FuncData) (ps : List Str) (sp : Sp) : Prop where
  go : ∀ (s : Shared) (H : Hp) (us : List Value) (vs : List V) (Q : VK), Room k callerA → Env0 P w K mg base callerA [] s H → BindsTo s fd ⟨us, []⟩ (ps.zip us) → Vals vs us → vs.length = ps.length → sp vs H Q (fun _ _ _ => False) →
    codeAny (model P w) callerA (.call (.ref f) ⟨us, []⟩) (CR CX0 [] P w H s Q fun _ _ _ => False) s
section
variable {P : Program} {w : World} {K : PySem.W.Frag} {mg : Str → Option Value} {base : Heap} {x qual : Str} {st : Stmt} {f : Addr} {fd : FuncData} {N ps : List Str} {k : Nat} {G : List D → (D → Prop) → Prop}
theorem fn_g (F : Fun K x qual st f fd) (S : FnScope N ps (defScope st))
    (body : ∀ (cdv : Value) (s : Shared) (H : Hp) (ds : List D) (Pd : D → Prop), Room k (callerA.deeper (envOfC qual (defScope st) s.heap.objs.size f cdv)) → G ds Pd →
      JSs (cxOf CX0 P w K mg base N qual (defScope st) f cdv callerA [] s H fun _ _ _ => False).nox [] (defBody st) (startR N ds) (fin Pd)) : FnG P w K mg base (k + 1) f fd ps (spP K ps.length G) := by
  refine ⟨fun s H us vs Q hr en hb rv hlen hsp => ?_⟩
  obtain ⟨oc, od, kV, doc, pm, an, cdv, ct, osl, rfl, lk, hcd⟩ := F.ex
  have kin : K.In s.heap := en.mod.kin.keeps fun b o z => (en.bs b o z).1
  have nol : s.heap.NoLimit := en.mod.nolimit.keeps fun b o z => (en.bs b o z).1
  have kinds : ∀ y ∈ ps.zip us, (defScope st).names.lookup y.1 = some .local ∨ ((defScope st).names.lookup y.1 = some .cell ∧ ((cellsFrom (s.heap.objs.size + 1) (defScope st).names []).lookup y.1).isSome = true) := fun y hy => by
    rcases S.par y.1 (List.of_mem_zip (a := y.1) (b := y.2) hy).1 with z | z
    · exact .inl z
    · exact .inr ⟨z, PySem.W.cellsFrom_some _ _ _ (.inl z)⟩
  refine codeAny_call_function hr.depth (kin _ _ lk) rfl S.co S.gen rfl (PySem.W.codeRec_of kin hcd) (hb _ _ _ _ (wpAny_newFunctionEnv_cells S.kind kinds fun env he s1 ic => ?_))
  subst he
  obtain ⟨_, W, ds, Pd, ex, r, hg, q⟩ := hsp
  have start := inv_start (CX := CX0) (E := fun _ _ _ => False) S hr.hd en hlen rv ic
  have read : wSs (cxOf CX0 P w K mg base N qual (defScope st) f cdv callerA [] s H fun _ _ _ => False).nox (defBody st) { nx := fun _ H' => Q .non H', rt := Q } (L2.start N vs) H := by
    refine body cdv s H ds Pd (hr.deeper _) hg ⟨W, H, fun _ => False, fun _ => none⟩ (L2.start N vs) H _ (fun i => ⟨fun z => absurd rfl z, fun z => absurd z (by simp)⟩) ⟨W, _, start_ok ex r⟩ fun o ho => ?_
    cases o with
    | nx ρ => exact fun σ' H' ⟨Hf, A', s'⟩ => q _ ho .non Hf H' ⟨s'.w0, s'.fh, fun b o h => s'.hh b o h (fun z => z), s'.fr⟩ .non
    | rt d ρ => exact fun v H' ⟨σ', Hf, A', W', s', h1, h2, h3, _, h5⟩ => q _ ho v W' H' ⟨s'.w0.trans h1, h2, fun b o h => s'.hh b o h (fun z => z), h3⟩ h5
    | bk ρ => exact ho.elim
    | ct ρ => exact ho.elim
    | ex er ρ => exact ho.elim
  refine ⟨nol.keeps ic.toInCall.keep, codeAny_func (wpAny_mono (pss_w.nox.run [] s1 (L2.start N vs) H _ start read) (fun fl s' z => ?_) fun _ _ z => z)⟩
  cases fl with
  | ret u => obtain ⟨v, σ', H', J, rel, hQ⟩ := z; exact ⟨v, H', J.os, J.bare, J.base, J.hok, rel, hQ⟩
  | next => obtain ⟨σ', H', J, hQ⟩ := z; exact ⟨V.non, H', J.os, J.bare, J.base, J.hok, rfl, hQ⟩
  | brk => obtain ⟨_, _, _, z⟩ := z; cases z
  | cont => obtain ⟨_, _, _, z⟩ := z; cases z
end
/-- the script alone is known, if it is no object of the module's -/
def onlyS (K : PySem.W.Frag) (a : Addr) (o : Obj) (u : HO) : Hp := fun b => if b = a ∧ K.lookup a = none then some (.frz o u) else none
theorem onlyS_some {K : PySem.W.Frag} {a b : Addr} {o : Obj} {u z : HO} (h : onlyS K a o u b = some z) : b = a ∧ K.lookup a = none ∧ z = .frz o u := by
  unfold onlyS at h
  split at h
  · rename_i q
    cases h
    exact ⟨q.1, q.2, rfl⟩
  · cases h
theorem onlyS_non {K : PySem.W.Frag} {a b : Addr} {o : Obj} {u : HO} (h : b = a → K.lookup a = none → False) : onlyS K a o u b = none := if_neg fun q => h q.1 q.2
theorem law_g {P : Program} {w : World} {K : PySem.W.Frag} {mg mb : Str → Option Value} {k : Nat} {fa a : Addr} {fd : FuncData} {x : Str} {sp : Sp} {s : Shared} {vs : List Value} {ns : List Int} (kin : K.In s.heap)
    (nG : s.heap.Ns mainGlobals mg) (nB : s.heap.Ns builtinsNs mb) (boot : ∀ y : Str, y ≠ "__name__" → mb y = bootBuiltins y) (nol : s.heap.NoLimit) (gens : s.gens = #[])
    (scr : s.heap.get? a = some { cls := .type "list", data := .seq vs.toArray }) (isInts : IntsAre vs ns) (few : ns.length ≤ sizeLine) (hr : Room k callerA)
    (F : ∀ base : Heap, K.In base → base.Ns mainGlobals mg → FnG P w K mg base k fa fd [x] sp) (bind : ∀ (s : Shared) (u : Value), BindsTo s fd ⟨[u], []⟩ [(x, u)])
    (says : ∀ H : Hp, Only H → SqL K H a (ns.map V.int) → sp [.ref a] H (fun v _ => v = .bl true) fun _ _ _ => False) :
    codeAny (model P w) callerA (.call (.ref fa) ⟨[.ref a], []⟩) (fun r s' => r = .ok (.ret (.bool true)) ∧ OldK s.heap s'.heap ∧ s'.os = s.os ∧ AllBare s'.gens) s := by
  let o : Obj := { cls := .type "list", data := .seq vs.toArray }
  let H : Hp := onlyS K a o (.lst (ns.map V.int))
  have vals := vals_ints isInts
  have len := isInts.length
  have only : Only H := fun b => by
    cases q : H b with
    | none => exact .inl rfl
    | some z => obtain ⟨_, _, rfl⟩ := onlyS_some q; exact .inr ⟨_, _, rfl⟩
  have hok : HOk P w H s.heap := fun b z q => by
    obtain ⟨rfl, _, rfl⟩ := onlyS_some q
    exact ⟨scr, by rw [List.length_map]; exact few, vs, _, vals, scr⟩
  have sq : SqL K H a (ns.map V.int) := by
    cases q : K.lookup a with
    | none => exact .inl (.inr ⟨o, if_pos ⟨rfl, q⟩⟩)
    | some o' =>
      have z := kin a o' q
      rw [scr] at z
      cases z
      exact .inr ⟨_, vs.toArray, _, q, rfl, rfl, rfl, by rw [List.size_toArray, len]; exact few, by simpa using vals⟩
  have hid : ∀ {b : Addr} {m : Str → Option Value}, s.heap.Ns b m → (hidT s.heap H).Ns b m := fun {b m} ⟨o', es, ep, e, d, r⟩ => ⟨o', es, ep, hidT_get e (onlyS_non fun e1 _ => by
    subst e1
    rw [scr] at e
    cases e
    cases (show Data.seq vs.toArray _ = Data.dict es ep from d)), d, r⟩
  have kinB : K.In (hidT s.heap H) := fun b o' e => hidT_get (kin b o' e) (onlyS_non fun e1 e2 => by subst e1; rw [e2] at e; cases e)
  have en : Env0 P w K mg (hidT s.heap H) callerA [] s H := by
    refine ⟨rfl, ⟨kinB, hid nG, ⟨mb, hid nB, boot⟩, ?_⟩, fun b o e => of_hidT e, Nat.le_of_eq (hidT_size _ _), trivial, fun b z => ?_, hok, .of_eq gens⟩
    · obtain ⟨mc, h1, h2⟩ := nol
      exact ⟨mc, hid h1, h2⟩
    · exact absurd (show b ∈ ([] : List Addr) from z) (by simp)
  refine codeAny_mono ((F _ kinB (hid nG)).go s H [.ref a] [.ref a] _ hr en (bind s _) (.cons rfl .nil) rfl (says H only sq)) fun r s' z => ?_
  match r, z with
  | .ok (.ret u), z =>
    obtain ⟨v, H', os, bare, un, hok', rel, rfl⟩ := z
    obtain rfl : u = Value.bool true := rel
    refine ⟨rfl, OldK.of_keep fun b ob e => ?_, os, bare⟩
    cases q : H b with
    | none => exact un.keep b ob e q (fun z => absurd (show b ∈ ([] : List Addr) from z) (by simp)) (by simp)
    | some z =>
      obtain ⟨_, _, rfl⟩ := onlyS_some q
      have e1 := (hok b _ q).1
      rw [e] at e1
      cases e1
      exact (hok' b _ (un.frzs b _ _ q)).1
/-- the end of a law over such a def -/
theorem walk_g {l : PySem.W.OpenLaw} {n k : Nat} {q : Program} {loose : List Str} {XP : (Str → Option Value) → Heap → Prop} {YP : World → Heap → Prop} {d : DefRec} {x : Str} (hn : l.most = some n) (hn2 : n ≤ sizeLine) (hdf : d.params.defaults = []) (hr : Room k callerA)
    (F : ∀ (w : World) (mg : Str → Option Value) (fa : Addr) (h : Heap), YP w h → h.Ns mainGlobals mg → mg d.name = some (.ref fa) → ∃ (K : PySem.W.Frag) (fd : FuncData) (sp : Sp), K.In h ∧ (∀ (s : Shared) (u : Value), BindsTo s fd ⟨[u], []⟩ [(x, u)]) ∧
      (∀ (H : Hp) (a : Addr) (ns : List Int), ns.length ≤ n → Only H → SqL K H a (ns.map V.int) → sp [.ref a] H (fun v _ => v = .bl true) fun _ _ _ => False) ∧ ∀ base : Heap, K.In base → base.Ns mainGlobals mg → FnG l.prog w K mg base k fa fd [x] sp) :
    PySem.W.WalkO q loose XP YP l.row.toRowW d [] (fun f vs => PySem.call f vs) := Att.attach_call hn hdf fun w s₀ s₁ mg mb fa o pm cd doc a vs ns G Y ho hd hcd hmg hobj hints hlen hg => by
  obtain ⟨K, fd, sp, kin, bind, says, run⟩ := F w mg fa _ Y G.T.g hmg
  exact law_g kin G.T.g G.T.b G.T.builtins G.T.nolimit hg hobj hints (Nat.le_trans hlen hn2) hr run bind fun H o z => says H a ns hlen o z
end Pf

namespace Pf
open PySem L2 PySem.Spec PyProof.Rows
open Evl (Ex)
section
variable {prog : Program} {w : World} {A : Around} {E : Value → Shared → Prop} {s : Shared} {t : Addr} {vs : List Value}
theorem collect_tup {Q : List Value → Shared → Prop} (ht : IsTup s.heap t vs.toArray) (hsz : vs.length ≤ sizeLine) (h : ∀ h' : Heap, (∀ b o, s.heap.get? b = some o → h'.get? b = some o) → s.heap.objs.size ≤ h'.objs.size → Q vs { s with heap := h' }) : wpAny (model prog w) A (collect (.ref t)) Q E s := by
  obtain ⟨o, ho, hc, n, hd⟩ := id ht
  unfold collect
  refine wpAny_bind (wpAny_runValue (codeAny_builtin entry_proto_collect' (show wpAny _ _ (do again (.builtin "list.__iadd__" ⟨[← newList [], .ref t], []⟩)) _ _ s from ?_)))
  refine wpAny_bind (wpAny_newList (wpAny_pure ⟨Code.quiet_builtin _ (by decide +kernel), codeAny_builtin entry_list_iadd' (show wpAny _ _ (Builtin.List.listExtendWith (.ref s.heap.objs.size) (.ref t) (.ref s.heap.objs.size)) _ _ { s with heap := s.heap.push (seqObj "list" #[] 0) } from ?_)⟩))
  unfold Builtin.List.listExtendWith
  have keep : ∀ b u, s.heap.get? b = some u → (s.heap.push (seqObj "list" #[] 0)).get? b = some u := fun b u e => Heap.get?_push_of_some _ e
  refine wpAny_bind (wpAny_typeOf (T := "tuple") ⟨o, keep _ _ ho, hc⟩ ?_)
  rw [if_pos (by rw [show (Value.type "tuple" == Value.type "tuple") = true from rfl, Bool.or_true])]
  refine wpAny_bind (listItems_at (keep _ _ ho) hd (wpAny_bind (listItems_at (xs := #[]) (n := 0) (Heap.get?_push_size _ rfl) rfl ?_)))
  rw [if_neg (by simp)]
  refine wpAny_bind (listUpdate_at (xs := #[]) (n := 0) (Heap.get?_push_size _ rfl) rfl (wpAny_pure ?_) (Nat.zero_le _) (by show (#[] ++ vs.toArray).size ≤ sizeLine + 1; simp only [Array.size_append, List.size_toArray, List.length_nil]; omega))
  let h' := (s.heap.push (seqObj "list" #[] 0)).update s.heap.objs.size (Obj.mapSeq (· ++ vs.toArray))
  show wpAny (model prog w) A (do let o ← load s.heap.objs.size; match o.data with | .seq xs _ => pure xs.toList | _ => unsupported "internal:collect") Q E { s with heap := h' }
  refine wpAny_bind (wpAny_load (get?_update_seq (Heap.get?_push_size _ rfl) _) (show wpAny _ _ (pure ((#[] : Array Value) ++ vs.toArray).toList) Q E _ from ?_))
  rw [show ((#[] : Array Value) ++ vs.toArray).toList = vs from by simp]
  refine wpAny_pure (h h' (fun b u e => ?_) ?_)
  · have lt := Heap.lt_size e
    show ((s.heap.push (seqObj "list" #[] 0)).update s.heap.objs.size _).get? b = some u
    exact Heap.get?_update_of_ne _ (Ne.symm (Nat.ne_of_lt lt)) (keep b u e)
  · show s.heap.objs.size ≤ ((s.heap.push (seqObj "list" #[] 0)).update s.heap.objs.size _).objs.size
    rw [Heap.size_update, size_push']
    exact Nat.le_succ _
theorem sorted_tup {ys : List Str} {Q : Value → Shared → Prop} (ht : IsTup s.heap t vs.toArray) (hS : StrsAre vs ys) (hsz : vs.length ≤ sizeLine)
    (h : ∀ (h' : Heap) (a : Addr) (out : Array Value) (c : Nat) (zs : List Str), (∀ b o, s.heap.get? b = some o → h'.get? b = some o) → s.heap.objs.size ≤ a → h'.get? a = some (seqObj "list" out c) → StrsAre out.toList zs → zs.Perm ys → sortedS zs = true → Q (.ref a) { s with heap := h' }) :
    wpAny (model prog w) A (call (.builtin "sorted") [.ref t]) Q E s := by
  refine Calls.call_function_entry kind_sorted plain_sorted entry_sorted (args_sorted1 _) (by
    unfold Builtin.«sorted»
    refine wpAny_bind (m := checkCount "sorted" 1 1 _) (wpAny_pure (wpAny_bind (collect_tup ht hsz fun h1 k1 z1 => wpAny_bind (wpAny_newList ?_ hsz))))
    have hoL : (h1.push (seqObj "list" vs.toArray 0)).get? h1.objs.size = some (seqObj "list" vs.toArray 0) := Heap.get?_push_size _ rfl
    refine wpAny_bind (wpAny_holding (wpAny_call_entry slot_list_sort ⟨_, hoL, rfl⟩ entry_list_sort (list_sort_treeKAny strKind_oneLt hoL hS.keysOf (fun v₁ v₂ rest e => keyKind_strs (by rw [← e]; exact hS)) hsz fun st' hp hs => ⟨_, rfl, ?_⟩) (args_list_sort _)))
    obtain ⟨zs, a1, a2, a3⟩ := sorted_out_str hS hp hs
    obtain ⟨c, hc⟩ := sortedHeap_at (vs := vs) (out := (arrOf st').map (·.2)) hoL
    refine wpAny_pure ⟨_, rfl, h _ _ _ c zs (fun b u e => ?_) z1 hc a1 a2 a3⟩
    have q := k1 b u e
    have lt := Heap.lt_size q
    rw [sortedHeap_old (Nat.ne_of_lt lt) (by rw [size_push']; exact Nat.lt_succ_of_lt lt)]
    exact Heap.get?_push_of_some _ q)
end
section
variable {X : Cx}
def rSortedT (K : PySem.W.Frag) : List V → Hp → VK → Prop := fun vs H Q => ∃ (a : Addr) (xs : List Str), vs = [V.ref a] ∧ SqT K H a (xs.map V.str) ∧ ∀ (ys : List Str) (l : Addr), ys.Perm xs → sortedS ys = true → H l = none → Q (.ref l) (upd H l (.lst (ys.map V.str)))
theorem cr_sortedTup : CallR X (.builtin "sorted") (rSortedT X.K) := by
  intro pins s σ H vs us Q I r h
  obtain ⟨a, xs, rfl, hs, q⟩ := h
  obtain ⟨its, rv, ht, hz⟩ := I.tuple hs
  rw [Vals.ref1 r]
  have len := rv.length
  refine sorted_tup ht rv.strs (by omega) fun h' l out c ys k hp hg h1 h2 h3 => ?_
  have hn : H l = none := I.hok.fresh hp
  exact ⟨.ref l, upd H l (.lst (ys.map V.str)), I.laid (t' := s.toks) k hp ⟨by rw [List.length_map, h2.length_eq, ← List.length_map (f := V.str)]; exact hz, out.toList, c, vals_of_strs h1, hg⟩, rfl, q ys l h2 h3 hn⟩
end
section
variable {X : Cx} {ρ : Rho} {a : Expr} {p pos : Pos}
theorem jnp_sortedTuP {Pq : List Str → Prop} (T : Bt X.mg) (ha : JP X a ρ fun d => ∃ xs : List Str, d = .tup (xs.map D.str) ∧ Pq xs) (hg : Gl X "sorted" := by rfl) (he : starEach [a] X.env = (false, eval a X.env) :: starEach [] X.env := by rfl) (hpl : (backTo pos (starEach [] X.env)).any (·.1) = false := by rfl) :
    JNP X (.Call (.Name "sorted" p) [a] [] pos) ρ fun l => ∃ xs ys : List Str, Pq xs ∧ l = ys.map D.str ∧ ys.Perm xs ∧ (xs.Nodup → ys.Pairwise ltT) := ⟨fun W σ H ex hV Q g => .of (pe_callB cr_sortedTup hg T.sorted (by decide +kernel) (pa_cons pe_w pa_nil he) (by decide) (by decide) he hpl) (ha.run W σ H ex hV _ fun d hd v W1 H1 s1 r1 => by
  obtain ⟨xs, rfl, hq⟩ := hd
  cases r1 with
  | tup h1 k =>
    cases k.strs
    exact ⟨_, xs, rfl, Evl.ex_t s1.wh h1, fun ys q hp hs hn => g _ ⟨xs, ys, hq, rfl, hp, fun hx => asc_sorted hs (hp.nodup_iff.mpr hx)⟩ q W1 _ _ (s1.trans (.newH s1.wh hn)) (Evl.fresh_back s1.hh hn) (Evl.fresh_back s1.wh hn) upd_same (.toStrs ys)⟩)⟩
/-- one item of a tuple that is known by a promise -/
theorem jp_ixT {b : Expr} {i : Int} {P1 P2 : D → Prop} (ha : JP X a ρ P1) (hb : J X b ρ (.int i)) (hP : ∀ d, P1 d → ∃ ds x, d = .tup ds ∧ atI ds i = some x ∧ P2 x) (hs : PlainIx b := by exact fun _ _ => rfl) : JP X (.Subscript a b pos) ρ P2 := ⟨fun W σ H ex hV Q g =>
  .of (pe_ix ix_tup pe_w pe_w hs) (ha.run W σ H ex hV _ fun d0 hd v W1 H1 s1 r1 => hb W1 σ H1 s1.wh (hV.mono s1.ww) _ fun w W2 H2 s2 r2 => by
    obtain ⟨ds, x, rfl, q, hx⟩ := hP d0 hd
    cases r2
    cases r1 with
    | tup h1 h2 =>
      obtain ⟨u, e1, e2⟩ := h2.at q
      exact ⟨_, _, i, u, rfl, rfl, Evl.ex_t s2.wh (Evl.ex_t s2.ww h1), e1, g x hx _ W2 H2 (s1.trans s2) (e2.mono s2.ww)⟩)⟩
end
end Pf

namespace Pf
open PySem L2 PySem.Spec PyProof.Rows
open Evl (Ex)
section
variable {X : Cx} {ρ : Rho} {a : Expr} {es : List Expr} {ds : List D} {pos bp cp : Pos} {j : Nat} {x c : Str}
theorem j_lstB (ha : J X a ρ (.str x)) (hz : x.length + c.length ≤ sizeLine) (h : JA1 X es ρ ds) (hl : ds.length + 1 ≤ sizeLine := by (simp only [List.length_cons, List.length_nil]; decide)) (hs : starEach (.BinOp a .Add (.Constant (.str c) j cp) bp :: es) X.env = (false, eval (.BinOp a .Add (.Constant (.str c) j cp) bp) X.env) :: starEach es X.env := by rfl) :
    J X (.List (.BinOp a .Add (.Constant (.str c) j cp) bp :: es) pos) ρ (.lst (.str (x ++ c) :: ds)) := ⟨fun W σ H ex hV Q g pins s I => by
  refine wpAny_List_spliced ?_
  rw [hs]
  refine Calls.spliced_cons (wpAny_BinOp (thn (ha.run W σ H ex hV (fun v H1 => ∃ W1, Step W H W1 H1 ∧ Rep X.K W1 (.str x) v) (fun v W1 H1 s1 r1 => ⟨W1, s1, r1⟩) pins s I) fun v s1 ⟨xv, H1, I1, rv, W1, st1, r1⟩ => Calls.Constant_str (k := j) (pos := cp) ?_))
  cases r1
  have I1' : Inv X pins σ H1 { s1 with toks := s1.toks + 1 } := I1.tok _
  refine wpAny_mono (PySem.wpAny_toks (op_add_str pins { s1 with toks := s1.toks + 1 } σ H1 (.str x) (.str c) v (.str c s1.toks) (fun r H2 => r = .str (x ++ c) ∧ H2 = H1) I1' rv ⟨_, rfl⟩ ⟨x, c, rfl, rfl, hz, rfl, rfl⟩)) (fun u0 s2 q => ?_) fun _ _ z => z.2
  obtain ⟨hk, yv, H2, I2, ry, rfl, rfl⟩ := q
  have h1 : 1 ≤ s2.toks := Nat.le_trans (by show 1 ≤ s1.toks + 1; omega) hk
  refine thn (h.run W1 σ H2 st1.wh (hV.mono st1.ww) (fun vs H3 => ∃ W3, Step W1 H2 W3 H3 ∧ RepAll X.K W3 ds vs) (fun vs W3 H3 s3 r3 => ⟨W3, s3, r3⟩) _ pins s2 h1 I2) fun us s3 ⟨xs, H3, I3, r, W3, st, ra⟩ => ?_
  have hlen : (u0 :: us).length ≤ sizeLine := by
    rw [List.length_cons, ← r.length, ← ra.length]; exact hl
  refine ⟨hlen, ?_⟩
  have hf : H3 s3.heap.objs.size = none := I3.hok.fresh (Nat.le_refl _)
  refine ⟨.ref s3.heap.objs.size, upd H3 s3.heap.objs.size (.lst (.str (x ++ c) :: xs)), I3.laid (t' := s3.toks) (fun b u e => Heap.get?_push_of_some _ e) (Nat.le_refl _) ⟨by rw [List.length_cons, ← ra.length]; exact hl, _, 0, .cons ry r, Heap.get?_push_size _ rfl⟩, rfl, ?_⟩
  exact g _ _ _ ((st1.trans st).trans (.new st.wh hf)) (.lst upd_same ((RepAll.cons (.str (x ++ c)) ra).mono (Evl.Ex.new (Evl.fresh_back st.wh hf))))⟩
end
end Pf

namespace Pf
open PySem L2 PySem.Spec PyProof.Rows
mutual
/-- a bound of how long the data are shown, if they are small -/
def shD : Nat → D → Option Nat
  | _, .non => some 4
  | _, .bl _ => some 5
  | _, .int i => if 0 ≤ i ∧ i < 1000000000000000 then some 20 else none
  | _, .str x => if PySem.PyData.strOk x = true then some (10 * x.length + 2) else none
  | n + 1, .lst xs => (shAllD n xs).map (· + 3)
  | n + 1, .tup xs => (shAllD n xs).map (· + 3)
  | _, _ => none
def shAllD : Nat → List D → Option Nat
  | _, [] => some 0
  | n, x :: xs => match shD n x, shAllD n xs with
    | some a, some b => some (a + (b + 2))
    | _, _ => none
end
structure ShP (n b : Nat) (q : PyData) : Prop where
  s : q.showable = true
  h : q.hasDict = false
  d : q.depth ≤ n
  l : q.shown.length ≤ b
structure ShAll (n b : Nat) (qs : List PyData) : Prop where
  s : PyData.showableAll qs = true
  h : PyData.hasDictAll qs = false
  d : PyData.depthAll qs ≤ n
  l : ((PyData.shownAll qs).map (·.length)).sum + 2 * qs.length ≤ b
theorem num_short {i : Int} (h : 0 ≤ i ∧ i < 1000000000000000) : ((toString i : String) : Str).length ≤ 20 := by
  obtain ⟨n, rfl⟩ := Int.eq_ofNat_of_zero_le h.1
  rw [show ((toString (n : Int) : String) : Str).length = (numS (n : Int)).length from by unfold numS; rw [Array.length_toList]; rfl]
  exact Nat.le_trans (numS_le (k := 15) (by decide) (by omega)) (by decide)
theorem sh_one {n : Nat} (ih : ∀ m, n = m + 1 → ∀ (ds : List D) (b : Nat), shAllD m ds = some b → ∃ qs, toPys ds = some qs ∧ qs.length = ds.length ∧ ShAll m b qs) : ∀ (d : D) (b : Nat), shD n d = some b → ∃ q, toPy d = some q ∧ ShP n b q := by
  intro d b h
  cases d with
  | non => unfold shD at h; cases h; exact ⟨_, rfl, ⟨rfl, rfl, Nat.zero_le _, by decide +kernel⟩⟩
  | bl t => unfold shD at h; cases h; exact ⟨_, rfl, ⟨rfl, rfl, Nat.zero_le _, by cases t <;> decide +kernel⟩⟩
  | int i =>
    unfold shD at h
    split at h
    · rename_i hi
      cases h
      refine ⟨.int i, rfl, ⟨?_, rfl, Nat.zero_le _, num_short hi⟩⟩
      show decide (i.natAbs.log2 < 1920) = true
      rcases Nat.eq_zero_or_pos i.natAbs with z | z
      · rw [z]; rfl
      · exact decide_eq_true ((Nat.log2_lt (by omega)).mpr (Nat.lt_of_lt_of_le (by omega : i.natAbs < 2 ^ 50) (Nat.pow_le_pow_right (by decide) (by decide))))
    · cases h
  | str x =>
    unfold shD at h
    split at h
    · rename_i hx
      cases h
      refine ⟨.str x, rfl, ⟨rfl, rfl, Nat.zero_le _, ?_⟩⟩
      exact StrLaws.reprText_len x fun c hc => by
        unfold PySem.PyData.strOk at hx
        rw [← Array.all_toList, List.all_eq_true] at hx
        exact Nat.lt_trans (of_decide_eq_true (hx c hc)) (by decide)
    · cases h
  | lst xs =>
    cases n with
    | zero => unfold shD at h; cases h
    | succ n =>
      unfold shD at h
      rw [Option.map_eq_some_iff] at h
      obtain ⟨b', h1, rfl⟩ := h
      obtain ⟨qs, e, hl, k⟩ := ih n rfl xs b' h1
      refine ⟨.list qs, by unfold toPy; rw [e]; rfl, ⟨by simpa [PyData.showable] using k.s, by simpa [PyData.hasDict] using k.h, by have := k.d; simp only [PyData.depth]; omega, ?_⟩⟩
      have h2 := listText_len_le (PyData.shownAll qs)
      have h3 := PyData.shownAll_length qs
      have h4 := k.l
      simp only [PyData.shown]
      omega
  | tup xs =>
    cases n with
    | zero => unfold shD at h; cases h
    | succ n =>
      unfold shD at h
      rw [Option.map_eq_some_iff] at h
      obtain ⟨b', h1, rfl⟩ := h
      obtain ⟨qs, e, hl, k⟩ := ih n rfl xs b' h1
      refine ⟨.tuple qs, by unfold toPy; rw [e]; rfl, ⟨by simpa [PyData.showable] using k.s, by simpa [PyData.hasDict] using k.h, by have := k.d; simp only [PyData.depth]; omega, ?_⟩⟩
      have h2 := tupleText_len_le (PyData.shownAll qs)
      have h3 := PyData.shownAll_length qs
      have h4 := k.l
      simp only [PyData.shown]
      omega
  | _ => cases n <;> (unfold shD at h; cases h)
theorem sh_all {n : Nat} (one : ∀ (d : D) (b : Nat), shD n d = some b → ∃ q, toPy d = some q ∧ ShP n b q) : ∀ (ds : List D) (b : Nat), shAllD n ds = some b → ∃ qs, toPys ds = some qs ∧ qs.length = ds.length ∧ ShAll n b qs
  | [], b, h => by unfold shAllD at h; cases h; exact ⟨[], rfl, rfl, ⟨rfl, rfl, Nat.zero_le _, Nat.le_refl _⟩⟩
  | d :: ds, b, h => by
    unfold shAllD at h
    split at h
    · rename_i a c h1 h2
      cases h
      obtain ⟨q, e1, k1⟩ := one d a h1
      obtain ⟨qs, e2, hl, k2⟩ := sh_all one ds c h2
      refine ⟨q :: qs, by unfold toPys; rw [e1, e2], by simp [hl], ⟨by simp only [PyData.showableAll, k1.s, k2.s]; rfl, by simp only [PyData.hasDictAll, k1.h, k2.h]; rfl, by have := k1.d; have := k2.d; simp only [PyData.depthAll]; omega, ?_⟩⟩
      have := k1.l
      have := k2.l
      simp only [PyData.shownAll, List.map_cons, List.sum_cons, List.length_cons]
      omega
    · cases h
theorem sh_py (n : Nat) : (∀ (d : D) (b : Nat), shD n d = some b → ∃ q, toPy d = some q ∧ ShP n b q) ∧ (∀ (ds : List D) (b : Nat), shAllD n ds = some b → ∃ qs, toPys ds = some qs ∧ qs.length = ds.length ∧ ShAll n b qs) := by
  induction n with
  | zero => have o := sh_one (n := 0) fun m e => by omega
            exact ⟨o, sh_all o⟩
  | succ n ih => have o := sh_one (n := n + 1) fun m e => by
                   obtain rfl : n = m := by omega
                   exact ih.2
                 exact ⟨o, sh_all o⟩
/-- how it is shown -/
def shownD (d : D) : Str := match toPy d with
  | some q => q.shown
  | none => ""
section
variable {X : Cx} {ρ : Rho} {e : Expr} {p pos : Pos} {d : D} {b : Nat}
theorem j_reprD (n : Nat) (hG : X.A.guards = some []) (hu : X.A.units + 64 < cLine) (hm : X.mg "repr" = none) (ha : JA X [e] ρ [d]) (h : shD n d = some b) (hb : boxed d = true) (hl : b ≤ 16000000) (hn : n ≤ 60 := by decide)
    (hg : Gl X "repr" := by rfl) (he : starEach [e] X.env = (false, eval e X.env) :: starEach [] X.env := by rfl) (hpl : (backTo pos (starEach [] X.env)).any (·.1) = false := by rfl) : J X (.Call (.Name "repr" p) [e] [] pos) ρ (.str (shownD d)) := by
  obtain ⟨q, e1, k⟩ := (sh_py n).1 d b h
  have e2 : shownD d = q.shown := by unfold shownD; rw [e1]
  rw [e2]
  exact j_repr hG hu hm ha e1 hb k.s k.h (Nat.le_trans k.d hn) (Nat.le_trans k.l (Nat.le_trans hl (by decide))) hg he hpl
end
theorem sh_nil {n : Nat} : shAllD n [] = some 0 := by unfold shAllD; rfl
theorem sh_cons {n a b : Nat} {d : D} {ds : List D} (h : shD n d = some a) (h2 : shAllD n ds = some b) : shAllD n (d :: ds) = some (a + (b + 2)) := by unfold shAllD; rw [h, h2]
theorem sh_tup {n b : Nat} {ds : List D} (h : shAllD n ds = some b) : shD (n + 1) (.tup ds) = some (b + 3) := by unfold shD; rw [h]; rfl
theorem sh_int {n : Nat} {i : Int} (h : 0 ≤ i ∧ i < 1000000000000000) : shD n (.int i) = some 20 := by cases n <;> (unfold shD; rw [if_pos h])
theorem sh_str {n : Nat} {x : Str} (h : PySem.PyData.strOk x = true) : shD n (.str x) = some (10 * x.length + 2) := by cases n <;> (unfold shD; rw [if_pos h])
theorem sh_non {n : Nat} : shD n .non = some 4 := by cases n <;> (unfold shD; rfl)
theorem sh_bl {n : Nat} {t : Bool} : shD n (.bl t) = some 5 := by cases n <;> (unfold shD; rfl)
theorem sh_optN {n : Nat} {o : Option Nat} (h : ∀ k, o = some k → k < 1000000000000000) : ∃ b, shD n (optN o) = some b ∧ b ≤ 20 := by
  cases o with
  | none => exact ⟨4, sh_non, by decide⟩
  | some k => exact ⟨20, sh_int (by have := h k rfl; omega), by decide⟩
theorem sh_strs {n m : Nat} : ∀ {zs : List Str}, (∀ z ∈ zs, PySem.PyData.strOk z = true ∧ z.length ≤ m) → ∃ b, shAllD n (zs.map D.str) = some b ∧ b ≤ zs.length * (10 * m + 4)
  | [], _ => ⟨0, sh_nil, Nat.zero_le _⟩
  | z :: zs, h => by
    obtain ⟨b, h1, h2⟩ := sh_strs (n := n) (m := m) (zs := zs) fun y q => h y (List.mem_cons_of_mem _ q)
    obtain ⟨k1, k2⟩ := h z List.mem_cons_self
    refine ⟨_, sh_cons (sh_str k1) h1, ?_⟩
    rw [List.length_cons, Nat.add_mul, Nat.one_mul]
    omega
end Pf

namespace Toy
open PySem PyProof.Rows L2 Pf
section
variable {P : Program} {w : World} {K : PySem.W.Frag} {mg : Str → Option Value} {base : Heap}
abbrev sRow : Stmt := top 39
theorem scRow : FnScope ["cell", "many", "row", "rest", "state", "k"] ["cell", "many"] (defScope sRow) := ⟨rfl, rfl, rfl, by decide +kernel, rfl, by decide +kernel, by decide +kernel⟩
def gRow : List D → (D → Prop) → Prop := fun ds P => ∃ (c : Int) (m : Nat), ds = [.int c, .int m] ∧ m ≤ 10000 ∧ P = fun d => ∃ ns : List Int, d = .lst (ns.map D.int) ∧ ns.length = m ∧ ∀ n ∈ ns, 0 ≤ n ∧ n < 1009
theorem mod1009 (a : Int) : 0 ≤ a % 1009 ∧ a % 1009 < 1009 := by omega
theorem ok_row {f : Addr} {fd : FuncData} (F : Fun K "_law_row" "_law_row" sRow f fd) (T : Bt mg) : FnOk P w K mg base CX0 1 f fd ["cell", "many"] (spP K 2 gRow) := by
  refine fn_pure F scRow (by rintro ds Pd ⟨c, m, rfl, _⟩; rfl) fun cdv A outer s H E ds Pd hr hG => ?_
  obtain ⟨c, m, rfl, hm, rfl⟩ := hG
  have nd := scRow.nd
  -- row = []; rest = 0
  refine jss_cons (js_setN (i := 2) (jn_lst ja_nil) ?_ nd)
  refine jss_cons (js_set (i := 3) j_int ?_ nd)
  -- if abs(cell) >= 10 ** 18: rest = abs(cell)
  refine jss_mid (fun ρ => ∃ r : Int, ρ = [some (.fz (.int c)), some (.fz (.int m)), some (.ow (.lst [])), some (.fz (.int r)), none, none]) (js_if (jt_cm (jb_abs T (ja_cons (jv 0 rfl) ja_nil)) (j_bin j_int j_int (od_powI ⟨by decide, by decide, by decide⟩)) cd_geI) (fun _ => ?_) (fun _ => ?_)) ?_
  · exact jss_cons (js_set (i := 3) (jb_abs T (ja_cons (jv 0 rfl) ja_nil)) (jss_nil ⟨_, rfl, _, rfl⟩) nd)
  · exact jss_nil ⟨_, rfl, _, rfl⟩
  rintro _ ⟨r, rfl⟩
  -- state = int(abs(cell)) % 2147483647
  refine jss_cons (js_set (i := 4) (j_bin (jb_int T (ja_cons (jb_abs T (ja_cons (jv 0 rfl) ja_nil)) ja_nil)) j_int (od_modI (by decide))) ?_ nd)
  -- for k in range(many)
  refine jss_mid (fun ρ => ∃ (r s : Int) (ns : List Int) (o : Option SV), ρ = [some (.fz (.int c)), some (.fz (.int m)), some (.ow (.lst (ns.map D.int))), some (.fz (.int r)), some (.fz (.int s)), o] ∧ ns.length = m ∧ ∀ n ∈ ns, 0 ≤ n ∧ n < 1009)
    (js_range m (i := 5) (fun k ρ => ∃ (r s : Int) (ns : List Int) (o : Option SV), ρ = [some (.fz (.int c)), some (.fz (.int m)), some (.ow (.lst (ns.map D.int))), some (.fz (.int r)), some (.fz (.int s)), o] ∧ ns.length = k ∧ ∀ n ∈ ns, 0 ≤ n ∧ n < 1009) T (jv 1 rfl) (by omega) nd ⟨_, _, [], _, rfl, rfl, by simp⟩ ?_ ?_) ?_
  · rintro k _ hk ⟨r, s, ns, o, rfl, hl, hb⟩
    refine jss_cons (js_set (i := 4) (j_bin (jb_int T (ja_cons (j_bin (j_bin (j_bin (jv 4 rfl) j_int od_addI) j_int (od_mulI cmulR)) (j_bin j_int (jv 5 rfl) (od_mulI cmulL)) od_addI) ja_nil)) j_int (od_modI (by decide))) ?_ nd)
    refine jss_cons (js_if (jt_cm (jv 3 rfl) j_int cd_gtI) (fun _ => ?_) (fun _ => ?_))
    · refine jss_cons (js_append (i := 2) (ds := ns.map D.int) rfl (j_bin (jb_int T (ja_cons (jv 3 rfl) ja_nil)) j_int (od_modI (by decide))) (by rw [List.length_map, hl]; exact Nat.lt_of_lt_of_le (Nat.lt_of_lt_of_le hk hm) (by decide)) ?_)
      refine jss_cons (js_set (i := 3) (j_bin (jv 3 rfl) j_int (od_fdivI ⟨by decide, by decide⟩)) ?_ nd)
      refine jss_nil (jss_nil ⟨_, _, ns ++ [r % 1009], _, by rw [List.map_append]; rfl, by simp [hl], ?_⟩)
      intro n hn
      rcases List.mem_append.mp hn with h | h
      · exact hb n h
      · simp at h; subst h; exact mod1009 _
    · refine jss_cons (js_append (i := 2) (ds := ns.map D.int) rfl (j_bin (jb_int T (ja_cons (j_bin (jv 4 rfl) j_int (od_fdivI ⟨by decide, by decide⟩)) ja_nil)) j_int (od_modI (by decide))) (by rw [List.length_map, hl]; exact Nat.lt_of_lt_of_le (Nat.lt_of_lt_of_le hk hm) (by decide)) ?_)
      refine jss_nil (jss_nil ⟨_, _, ns ++ [_], _, by rw [List.map_append]; rfl, by simp [hl], ?_⟩)
      intro n hn
      rcases List.mem_append.mp hn with h | h
      · exact hb n h
      · simp at h; subst h; exact mod1009 _
  · rintro _ ⟨r, s, ns, o, rfl, hl, hb⟩
    exact ⟨_, rfl, r, s, ns, o, rfl, hl, hb⟩
  rintro _ ⟨r, s, ns, o, rfl, hl, hb⟩
  -- return row
  exact jss_cons (js_ret (jv 2 rfl) ⟨ns, rfl, hl, hb⟩)
end
end Toy

namespace Toy
open PySem PyProof.Rows L2 Pf
section
variable {P : Program} {w : World} {K : PySem.W.Frag} {mg : Str → Option Value} {base : Heap}
abbrev sNumbers : Stmt := top 40
theorem scNumbers : FnScope ["script", "many", "cells", "each", "numbers", "cell", "number"] ["script", "many"] (defScope sNumbers) := ⟨rfl, rfl, rfl, by decide +kernel, rfl, by decide +kernel, by decide +kernel⟩
/-- so many numbers below 1009 -/
def isNums (m : Nat) (d : D) : Prop := ∃ ns : List Int, d = .lst (ns.map D.int) ∧ ns.length = m ∧ ∀ n ∈ ns, 0 ≤ n ∧ n < 1009
def gNumbers : List D → (D → Prop) → Prop := fun ds P => ∃ (ns : List Int) (m : Nat), ds = [.scr ns, .int m] ∧ ns.length ≤ 63 ∧ m ≤ 1000 ∧ P = isNums m
def lenAt (i m : Nat) (ρ : RhoS) : Nat := match ρ[i]? with
  | some (some (.ow (.lst ds))) => m - ds.length
  | _ => 0
theorem cut_len_le {α : Type} (xs : List α) (a b : Option Int) : (cut xs a b).length ≤ xs.length := by
  unfold cut
  rw [List.length_take, List.length_drop]
  omega
theorem cut_to {α : Type} (xs : List α) (m : Nat) (h : m ≤ xs.length) : (cut xs none (some (m : Int))).length = m ∧ ∀ x ∈ cut xs none (some (m : Int)), x ∈ xs := by
  unfold cut
  rw [HT.sIx_none, HT.sIx_nat]
  constructor
  · rw [List.length_take, List.length_drop]; omega
  · intro x hx
    exact List.mem_of_mem_drop (List.mem_of_mem_take hx)
theorem map_cut (ns : List Int) (a b : Option Int) : cut (ns.map D.int) a b = (cut ns a b).map D.int := by
  unfold cut
  rw [List.length_map, ← List.map_drop, ← List.map_take]
theorem ok_numbers {f : Addr} {fd : FuncData} (F : Fun K "_law_numbers" "_law_numbers" sNumbers f fd) (T : Bt mg) (cR : PFn P w K mg base 1 "_law_row" 2 gRow) : FnOk P w K mg base CX0 2 f fd ["script", "many"] (spP K 2 gNumbers) := by
  refine fn_pure F scNumbers (by rintro ds Pd ⟨c, m, rfl, _⟩; rfl) fun cdv A outer s H E ds Pd hr hG => ?_
  obtain ⟨sc, m, rfl, hsc, hm, rfl⟩ := hG
  have nd := scNumbers.nd
  -- cells = script[:63]
  refine jss_cons (js_set (i := 2) (j_sl (jv 0 rfl) jo_none (jo_some j_int) sld_X) ?_ nd)
  have hcl : (cut sc none (some 63)).length ≤ 63 := Nat.le_trans (cut_len_le _ _ _) hsc
  generalize cut sc none (some 63) = cells at hcl
  -- each = 1 + many // max(1, len(cells))
  refine jss_cons (js_set (i := 3) (j_bin j_int (j_bin (jv 1 rfl) (jb_max2 T (ja_cons j_int (ja_cons (jb_len T (ja_cons (jv 2 rfl) ja_nil) rfl) ja_nil))) (od_fdivI ⟨?_, ?_⟩)) od_addI) ?_ nd)
  · split <;> omega
  · rw [List.length_map]; split <;> omega
  obtain ⟨e, he, he2⟩ : ∃ e : Nat, (1 + (m : Int) / (if ((cells.map D.int).length : Int) > 1 then ((cells.map D.int).length : Int) else 1)) = (e : Int) ∧ e ≤ 1 + m := by
    have h1 : (0 : Int) ≤ (m : Int) / (if ((cells.map D.int).length : Int) > 1 then ((cells.map D.int).length : Int) else 1) := Int.ediv_nonneg (by omega) (by split <;> omega)
    have h2 : (m : Int) / (if ((cells.map D.int).length : Int) > 1 then ((cells.map D.int).length : Int) else 1) ≤ m := Int.ediv_le_self _ (by omega)
    exact ⟨(1 + (m : Int) / (if ((cells.map D.int).length : Int) > 1 then ((cells.map D.int).length : Int) else 1)).toNat, by omega, by omega⟩
  rw [he]
  -- numbers = []
  refine jss_cons (js_setN (i := 4) (jn_lst ja_nil) ?_ nd)
  -- for cell in cells
  refine jss_mid (fun ρ => ∃ (xs : List Int) (o1 o2 : Option SV), ρ = [some (.fz (.scr sc)), some (.fz (.int m)), some (.fz (.lst (cells.map D.int))), some (.fz (.int e)), some (.ow (.lst (xs.map D.int))), o1, o2] ∧ xs.length ≤ 63 * 1001 ∧ ∀ n ∈ xs, 0 ≤ n ∧ n < 1009)
    (js_each (i := 5) cells D.int (fun k ρ => ∃ (xs : List Int) (o1 o2 : Option SV), ρ = [some (.fz (.scr sc)), some (.fz (.int m)), some (.fz (.lst (cells.map D.int))), some (.fz (.int e)), some (.ow (.lst (xs.map D.int))), o1, o2] ∧ xs.length ≤ k * 1001 ∧ ∀ n ∈ xs, 0 ≤ n ∧ n < 1009) (ji_list (jv 2 rfl)) nd ⟨[], _, _, rfl, by simp, by simp⟩ ?_ ?_) ?_
  · rintro k c _ hk ⟨xs, o1, o2, rfl, hl, hb⟩
    have hk' : k < cells.length := (List.getElem?_eq_some_iff.mp hk).1
    refine jss_cons (js_forP (pat := .nm 6) (Pd := fun ds => ∃ ys : List Int, ds = ys.map D.int ∧ ys.length = e ∧ ∀ n ∈ ys, 0 ≤ n ∧ n < 1009)
      (fun ds j ρ => ∃ (zs : List Int) (o2 : Option SV), ρ = [some (.fz (.scr sc)), some (.fz (.int m)), some (.fz (.lst (cells.map D.int))), some (.fz (.int e)), some (.ow (.lst (zs.map D.int))), some (.fz (.int c)), o2] ∧ zs.length = xs.length + j ∧ ∀ n ∈ zs, 0 ≤ n ∧ n < 1009)
      (jip_call (jp_call cR hr (ja_cons (jv 5 rfl) (ja_cons (jv 3 rfl) ja_nil)) ⟨c, e, rfl, by omega, rfl⟩) (by rintro d ⟨ns, rfl, h1, h2⟩; exact ⟨_, rfl, ns, rfl, h1, h2⟩)) (pg_name nd rfl (Or.inl rfl)) ?_ ?_ ?_ PassesOwn.never)
    · rintro ds ⟨ys, rfl, hy, hy2⟩
      exact ⟨xs, _, rfl, by simp, hb⟩
    · rintro ds ⟨ys, rfl, hy, hy2⟩ j d ρ hd ⟨zs, o2', rfl, hz, hz2⟩
      obtain ⟨y, hy3, rfl⟩ := map_get hd
      have hj : j < ys.length := (List.getElem?_eq_some_iff.mp hy3).1
      refine ⟨_, rfl, ?_⟩
      refine jss_cons (js_append (i := 4) (ds := zs.map D.int) rfl (jv 6 rfl) (by rw [List.length_map, hz]; exact Nat.lt_of_lt_of_le (by omega : _ < 100000) (by decide)) ?_)
      refine jss_nil ⟨zs ++ [y], _, by rw [List.map_append]; rfl, by simp [hz]; omega, ?_⟩
      intro n hn
      rcases List.mem_append.mp hn with h | h
      · exact hz2 n h
      · simp at h; subst h; exact hy2 _ (List.mem_of_getElem? hy3)
    · rintro ds ⟨ys, rfl, hy, hy2⟩ ρ ⟨zs, o2', rfl, hz, hz2⟩
      rw [List.length_map] at hz
      exact jss_nil ⟨zs, _, _, rfl, by omega, hz2⟩
  · rintro _ ⟨xs, o1, o2, rfl, hl, hb⟩
    exact ⟨_, rfl, xs, o1, o2, rfl, by omega, hb⟩
  rintro _ ⟨xs, o1, o2, rfl, hl, hb⟩
  -- while len(numbers) < many
  refine jss_mid (fun ρ => ∃ (xs : List Int), ρ = [some (.fz (.scr sc)), some (.fz (.int m)), some (.fz (.lst (cells.map D.int))), some (.fz (.int e)), some (.ow (.lst (xs.map D.int))), o1, o2] ∧ m ≤ xs.length ∧ ∀ n ∈ xs, 0 ≤ n ∧ n < 1009)
    (js_while (fun ρ => ∃ (xs : List Int), ρ = [some (.fz (.scr sc)), some (.fz (.int m)), some (.fz (.lst (cells.map D.int))), some (.fz (.int e)), some (.ow (.lst (xs.map D.int))), o1, o2] ∧ xs.length ≤ 63 * 1001 + m ∧ ∀ n ∈ xs, 0 ≤ n ∧ n < 1009) (lenAt 4 m) ⟨xs, rfl, by omega, hb⟩ ?_ PassesOwn.never) ?_
  · rintro _ ⟨xs, rfl, hl, hb⟩
    refine ⟨_, jt_cm (jb_len T (ja_cons (jv 4 rfl) ja_nil) rfl) (jv 1 rfl) cd_ltI, fun ht => ?_, fun ht => ?_⟩
    · have ht' : xs.length < m := by simpa using ht
      refine jss_cons (js_append (i := 4) (ds := xs.map D.int) rfl j_int (by rw [List.length_map]; exact Nat.lt_of_lt_of_le (by omega : _ < 100000) (by decide)) ?_)
      refine jss_nil ⟨⟨xs ++ [0], by rw [List.map_append]; rfl, by simp; omega, ?_⟩, ?_⟩
      · intro n hn
        rcases List.mem_append.mp hn with h | h
        · exact hb n h
        · simp at h; subst h; omega
      · show lenAt 4 m [_, _, _, _, some (.ow (.lst (xs.map D.int ++ [D.int 0]))), _, _] < lenAt 4 m [_, _, _, _, some (.ow (.lst (xs.map D.int))), _, _]
        simp [lenAt]; omega
    · have ht' : m ≤ xs.length := by simpa using ht
      exact ⟨_, rfl, xs, rfl, ht', hb⟩
  rintro _ ⟨xs, rfl, hl, hb⟩
  -- return numbers[:many]
  refine jss_cons (js_ret (j_sl (jv 4 rfl) jo_none (jo_some (jv 1 rfl)) sld_L) ⟨cut xs none (some (m : Int)), ?_, (cut_to xs m hl).1, fun n hn => hb n ((cut_to xs m hl).2 n hn)⟩)
  rw [map_cut]
end
end Toy

namespace Toy
open PySem PyProof.Rows L2 Pf
section
variable {P : Program} {w : World} {K : PySem.W.Frag} {mg : Str → Option Value} {base : Heap}
structure Gb (mg : Str → Option Value) : Prop where
  nm : ∃ t, mg "NAME_SIGNS" = some (.str "abcdefghijklmnopqrstuvwxyz0123456789" t)
  ky : ∃ t, mg "KEY_SIGNS" = some (.str "abcdefghijklmnopqrstuvwxyz0123456789-" t)
  gm : ∃ t, mg "GREATEST_MOMENT" = some (.int 1000000000 t)
  gc : ∃ t, mg "GREATEST_COST" = some (.int 1000 t)
def prt : D → Bool
  | .str z => decide (z.length ≤ 2000)
  | .int _ => true
  | .non => true
  | _ => false
theorem part_cases {d : D} (h : prt d = true) : (∃ z : Str, d = .str z ∧ z.length ≤ 2000) ∨ (∃ i, d = .int i) ∨ d = .non := by
  cases d with
  | str z => exact .inl ⟨z, rfl, by simpa [prt] using h⟩
  | int i => exact .inr (.inl ⟨i, rfl⟩)
  | non => exact .inr (.inr rfl)
  | _ => cases h
def OkP (es : List D) : Prop := es.all prt = true ∧ es.length ≤ 1100 ∧ ((∃ w r, es = .str w :: r) ∨ es.length < 3)
abbrev sName : Stmt := top 5
theorem scName : FnScope ["text", "sign"] ["text"] (defScope sName) := ⟨rfl, rfl, rfl, by decide +kernel, rfl, by decide +kernel, by decide +kernel⟩
def gName : List D → (D → Prop) → Prop := fun ds P => ∃ d, ds = [d] ∧ prt d = true ∧ P = fun r => r = .bl (nmD d)
theorem ok_name {f : Addr} {fd : FuncData} (F : Fun K "is_name" "is_name" sName f fd) (T : Bt mg) (G : Gb mg) : FnOk P w K mg base CX0 1 f fd ["text"] (spP K 1 gName) := by
  refine fn_pure F scName (by rintro ds Pd ⟨_, rfl, _⟩; rfl) fun cdv A outer s H E ds Pd hr hG => ?_
  obtain ⟨d, rfl, hp, rfl⟩ := hG
  have nd := scName.nd
  rcases part_cases hp with ⟨z, rfl, hz⟩ | ⟨i, rfl⟩ | rfl
  · refine jss_cons (js_ret (J.to (j_and (jb_isi (b := true) T (ja_cons (jv 0 rfl) (ja_cons (j_ty (T := "str") T.str (by decide +kernel)) ja_nil)) rfl (by rfl)) (fun _ => j_and (J.to (j_ch j_int (jb_len T (ja_cons (jv 0 rfl) ja_nil) (lenS (le_size (by omega)))) j_int cd_leI cd_leI) (d' := .bl (decide (1 ≤ z.length) && decide (z.length ≤ 12))) ?_) (fun _ => j_one (J.to (jb_all T (bs := z.cps.toList.map nmSign) (ja_cons (J.to (j_lcM (own := [("sign", 1)]) (i := 1) z.cps.toList (fun c : Nat => D.str ⟨#[c]⟩) (fun c => D.bl (nmSign c)) (ji_str (jv 0 rfl)) (blkOk_by (N := ["text", "sign"]) (sc := defScope sName) (by decide +kernel)) (fun _ _ _ _ _ => pg_name nd rfl (Or.inl rfl)) (by rw [len_of]; exact lt_size (by omega)) (fun c hc s H C cl fp => J.to (j_cm (jv 1 rfl) (j_gS G.nm) cd_inSign) (congrArg D.bl (nm_mem c))) nd) (by rw [List.map_map]; rfl)) ja_nil)) (d' := .bl (z.cps.toList.all nmSign)) (by rw [List.all_map]; rfl))))) rfl) rfl)
    exact congrArg D.bl (by congr 1 <;> exact decide_eq_decide.mpr (by omega))
  · exact jss_cons (js_ret (j_andFa (jb_isi T (ja_cons (jv 0 rfl) (ja_cons (j_ty (T := "str") T.str (by decide +kernel)) ja_nil)) rfl (by rfl))) rfl)
  · exact jss_cons (js_ret (j_andFa (jb_isi T (ja_cons (jv 0 rfl) (ja_cons (j_ty (T := "str") T.str (by decide +kernel)) ja_nil)) rfl (by rfl))) rfl)
abbrev sKey : Stmt := top 6
theorem scKey : FnScope ["text", "sign"] ["text"] (defScope sKey) := ⟨rfl, rfl, rfl, by decide +kernel, rfl, by decide +kernel, by decide +kernel⟩
def gKey : List D → (D → Prop) → Prop := fun ds P => ∃ d, ds = [d] ∧ prt d = true ∧ P = fun r => r = .bl (kyD d)
theorem ok_key {f : Addr} {fd : FuncData} (F : Fun K "is_key" "is_key" sKey f fd) (T : Bt mg) (G : Gb mg) : FnOk P w K mg base CX0 1 f fd ["text"] (spP K 1 gKey) := by
  refine fn_pure F scKey (by rintro ds Pd ⟨_, rfl, _⟩; rfl) fun cdv A outer s H E ds Pd hr hG => ?_
  obtain ⟨d, rfl, hp, rfl⟩ := hG
  have nd := scKey.nd
  rcases part_cases hp with ⟨z, rfl, hz⟩ | ⟨i, rfl⟩ | rfl
  · refine jss_cons (js_ret (J.to (j_and (jb_isi (b := true) T (ja_cons (jv 0 rfl) (ja_cons (j_ty (T := "str") T.str (by decide +kernel)) ja_nil)) rfl (by rfl)) (fun _ => j_and (J.to (j_ch j_int (jb_len T (ja_cons (jv 0 rfl) ja_nil) (lenS (le_size (by omega)))) j_int cd_leI cd_leI) (d' := .bl (decide (1 ≤ z.length) && decide (z.length ≤ 20))) ?_) (fun _ => j_one (J.to (jb_all T (bs := z.cps.toList.map kySign) (ja_cons (J.to (j_lcM (own := [("sign", 1)]) (i := 1) z.cps.toList (fun c : Nat => D.str ⟨#[c]⟩) (fun c => D.bl (kySign c)) (ji_str (jv 0 rfl)) (blkOk_by (N := ["text", "sign"]) (sc := defScope sKey) (by decide +kernel)) (fun _ _ _ _ _ => pg_name nd rfl (Or.inl rfl)) (by rw [len_of]; exact lt_size (by omega)) (fun c hc s H C cl fp => J.to (j_cm (jv 1 rfl) (j_gS G.ky) cd_inSign) (congrArg D.bl (ky_mem c))) nd) (by rw [List.map_map]; rfl)) ja_nil)) (d' := .bl (z.cps.toList.all kySign)) (by rw [List.all_map]; rfl))))) rfl) rfl)
    exact congrArg D.bl (by congr 1 <;> exact decide_eq_decide.mpr (by omega))
  · exact jss_cons (js_ret (j_andFa (jb_isi T (ja_cons (jv 0 rfl) (ja_cons (j_ty (T := "str") T.str (by decide +kernel)) ja_nil)) rfl (by rfl))) rfl)
  · exact jss_cons (js_ret (j_andFa (jb_isi T (ja_cons (jv 0 rfl) (ja_cons (j_ty (T := "str") T.str (by decide +kernel)) ja_nil)) rfl (by rfl))) rfl)
abbrev sIn : Stmt := top 7
theorem scIn : FnScope ["number", "least", "greatest"] ["number", "least", "greatest"] (defScope sIn) := ⟨rfl, rfl, rfl, by decide +kernel, rfl, by decide +kernel, by decide +kernel⟩
def gIn : List D → (D → Prop) → Prop := fun ds P => ∃ d lo hi, ds = [d, .int lo, .int hi] ∧ prt d = true ∧ P = fun r => r = .bl (inD lo hi d)
theorem ok_in {f : Addr} {fd : FuncData} (F : Fun K "is_within" "is_within" sIn f fd) (T : Bt mg) : FnOk P w K mg base CX0 1 f fd ["number", "least", "greatest"] (spP K 3 gIn) := by
  refine fn_pure F scIn (by rintro ds Pd ⟨_, _, _, rfl, _⟩; rfl) fun cdv A outer s H E ds Pd hr hG => ?_
  obtain ⟨d, lo, hi, rfl, hp, rfl⟩ := hG
  rcases part_cases hp with ⟨z, rfl, hz⟩ | ⟨i, rfl⟩ | rfl
  · exact jss_cons (js_ret (j_andFa (jb_isi T (ja_cons (jv 0 rfl) (ja_cons (j_ty (T := "int") T.int (by decide +kernel)) ja_nil)) rfl (by rfl))) rfl)
  · exact jss_cons (js_ret (J.to (j_and (jb_isi (b := true) T (ja_cons (jv 0 rfl) (ja_cons (j_ty (T := "int") T.int (by decide +kernel)) ja_nil)) rfl (by rfl)) (fun _ => j_one (j_ch (jv 1 rfl) (jv 0 rfl) (jv 2 rfl) cd_leI cd_leI))) rfl) rfl)
  · exact jss_cons (js_ret (j_andFa (jb_isi T (ja_cons (jv 0 rfl) (ja_cons (j_ty (T := "int") T.int (by decide +kernel)) ja_nil)) rfl (by rfl))) rfl)
abbrev sMo : Stmt := top 8
theorem scMo : FnScope ["moment"] ["moment"] (defScope sMo) := ⟨rfl, rfl, rfl, by decide +kernel, rfl, by decide +kernel, by decide +kernel⟩
def gMo : List D → (D → Prop) → Prop := fun ds P => ∃ d, ds = [d] ∧ prt d = true ∧ P = fun r => r = .bl (inD 0 1000000000 d)
theorem ok_mo {f : Addr} {fd : FuncData} (F : Fun K "is_moment" "is_moment" sMo f fd) (G : Gb mg) (cI : PFn P w K mg base 1 "is_within" 3 gIn) : FnOk P w K mg base CX0 2 f fd ["moment"] (spP K 1 gMo) := by
  refine fn_pure F scMo (by rintro ds Pd ⟨_, rfl, _⟩; rfl) fun cdv A outer s H E ds Pd hr hG => ?_
  obtain ⟨d, rfl, hp, rfl⟩ := hG
  exact jss_cons (js_ret (j_call cI hr (ja_cons (jv 0 rfl) (ja_cons j_int (ja_cons (j_gI G.gm) ja_nil))) ⟨d, 0, 1000000000, rfl, hp, rfl⟩ (fun _ h => h)) rfl)
abbrev sRq : Stmt := top 9
theorem scRq : FnScope ["key", "group", "cost"] ["key", "group", "cost"] (defScope sRq) := ⟨rfl, rfl, rfl, by decide +kernel, rfl, by decide +kernel, by decide +kernel⟩
def gRq : List D → (D → Prop) → Prop := fun ds P => ∃ a b c, ds = [a, b, c] ∧ prt a = true ∧ prt b = true ∧ prt c = true ∧ P = fun r => r = .bl (kyD a && (nmD b && inD 1 1000 c))
theorem ok_rq {f : Addr} {fd : FuncData} (F : Fun K "is_request" "is_request" sRq f fd) (G : Gb mg) (cN : PFn P w K mg base 1 "is_name" 1 gName) (cK : PFn P w K mg base 1 "is_key" 1 gKey) (cI : PFn P w K mg base 1 "is_within" 3 gIn) : FnOk P w K mg base CX0 2 f fd ["key", "group", "cost"] (spP K 3 gRq) := by
  refine fn_pure F scRq (by rintro ds Pd ⟨_, _, _, rfl, _⟩; rfl) fun cdv A outer s H E ds Pd hr hG => ?_
  obtain ⟨a, b, c, rfl, ha, hb, hc, rfl⟩ := hG
  exact jss_cons (js_ret (j_and (j_call cK hr (ja_cons (jv 0 rfl) ja_nil) ⟨a, rfl, ha, rfl⟩ (fun _ h => h)) (fun _ => j_and (j_call cN hr (ja_cons (jv 1 rfl) ja_nil) ⟨b, rfl, hb, rfl⟩ (fun _ h => h)) (fun _ => j_one (j_call cI hr (ja_cons (jv 2 rfl) (ja_cons j_int (ja_cons (j_gI G.gc) ja_nil))) ⟨c, 1, 1000, rfl, hc, rfl⟩ (fun _ h => h))))) rfl)
abbrev sEnt : Stmt := top 10
theorem scEnt : FnScope ["entry"] ["entry"] (defScope sEnt) := ⟨rfl, rfl, rfl, by decide +kernel, rfl, by decide +kernel, by decide +kernel⟩
def gEnt : List D → (D → Prop) → Prop := fun ds P => ∃ es, ds = [.tup es] ∧ OkP es ∧ P = fun r => r = .bl (entD es)
theorem entD_no {es : List D} (h5 : es.length ≠ 5) (h3 : es.length ≠ 3) : entD es = false := by
  unfold entD
  split
  · exact absurd rfl h5
  · exact absurd rfl h3
  · rfl
theorem ok_ent {f : Addr} {fd : FuncData} (F : Fun K "is_entry" "is_entry" sEnt f fd) (T : Bt mg) (cK : PFn P w K mg base 1 "is_key" 1 gKey) (cM : PFn P w K mg base 2 "is_moment" 1 gMo) (cR : PFn P w K mg base 2 "is_request" 3 gRq) : FnOk P w K mg base CX0 3 f fd ["entry"] (spP K 1 gEnt) := by
  refine fn_pure F scEnt (by rintro ds Pd ⟨_, rfl, _⟩; rfl) fun cdv A outer s H E ds Pd hr hG => ?_
  obtain ⟨es, rfl, ⟨hp, hl, hfst⟩, rfl⟩ := hG
  by_cases h5 : es.length = 5
  · obtain ⟨z, r, rfl⟩ : ∃ w r, es = .str w :: r := by
      rcases hfst with h | h
      · exact h
      · omega
    match r, h5 with
    | [a, b, c, d], _ =>
      simp only [List.all_cons, Bool.and_eq_true] at hp
      refine jss_cons (js_if (jt_w (jw_and (jt_cm (jb_len T (ja_cons (jv 0 rfl) ja_nil) rfl) j_int cd_eqI) (fun _ => jw_and1 (jt_cm (j_ix (jv 0 rfl) j_int (ixd_T rfl)) j_str cd_eqS)))) (fun h => ?_) (fun h => jss_nil ?_))
      · have hz : z = "ask" := by simpa using h
        exact jss_cons (js_ret (J.to (j_and (j_call cR hr (ja_cons (j_ix (jv 0 rfl) j_int (ixd_T rfl)) (ja_cons (j_ix (jv 0 rfl) j_int (ixd_T rfl)) (ja_cons (j_ix (jv 0 rfl) j_int (ixd_T rfl)) ja_nil))) ⟨a, b, c, rfl, hp.2.1, hp.2.2.1, hp.2.2.2.1, rfl⟩ (fun _ h => h)) (fun _ => j_one (j_call cM hr (ja_cons (j_ix (jv 0 rfl) j_int (ixd_T rfl)) ja_nil) ⟨d, rfl, hp.2.2.2.2.1, rfl⟩ (fun _ h => h)))) (by simp [entD, hz])) rfl)
      · have hz : z ≠ "ask" := by simpa using h
        exact jss_cons (js_ret (J.to (j_andFa (J.to (j_cm (jb_len T (ja_cons (jv 0 rfl) ja_nil) rfl) j_int cd_eqI) (d' := .bl false) rfl)) (by simp [entD, hz])) rfl)
  · by_cases h3 : es.length = 3
    · obtain ⟨z, r, rfl⟩ : ∃ w r, es = .str w :: r := by
        rcases hfst with h | h
        · exact h
        · omega
      match r, h3 with
      | [a, b], _ =>
        simp only [List.all_cons, Bool.and_eq_true] at hp
        refine jss_cons (js_ifF (JT.to (jt_w (jw_and (t := false) (u := false) (JT.to (jt_cm (jb_len T (ja_cons (jv 0 rfl) ja_nil) rfl) j_int cd_eqI) rfl) (fun h => absurd h (by decide)))) rfl) (jss_nil ?_))
        refine jss_cons (js_ret (j_and (J.to (j_cm (jb_len T (ja_cons (jv 0 rfl) ja_nil) rfl) j_int cd_eqI) (d' := .bl true) rfl) (fun _ => j_and (j_cm (j_ix (jv 0 rfl) j_int (ixd_T rfl)) j_str cd_eqS) (fun _ => j_and (j_call cK hr (ja_cons (j_ix (jv 0 rfl) j_int (ixd_T rfl)) ja_nil) ⟨a, rfl, hp.2.1, rfl⟩ (fun _ h => h)) (fun _ => j_one (j_call cM hr (ja_cons (j_ix (jv 0 rfl) j_int (ixd_T rfl)) ja_nil) ⟨b, rfl, hp.2.2.1, rfl⟩ (fun _ h => h)))))) rfl)
    · have hn5 : decide ((es.length : Int) = 5) = false := decide_eq_false (by omega)
      have hn3 : decide ((es.length : Int) = 3) = false := decide_eq_false (by omega)
      refine jss_cons (js_ifF (JT.to (jt_w (jw_and (t := false) (u := false) (JT.to (jt_cm (jb_len T (ja_cons (jv 0 rfl) ja_nil) rfl) j_int cd_eqI) hn5) (fun h => absurd h (by decide)))) rfl) (jss_nil ?_))
      exact jss_cons (js_ret (J.to (j_andFa (J.to (j_cm (jb_len T (ja_cons (jv 0 rfl) ja_nil) rfl) j_int cd_eqI) (congrArg D.bl hn3))) (by rw [entD_no h5 h3])) rfl)
end
end Toy

namespace Toy
open PySem PyProof.Rows L2 Pf
section
variable {P : Program} {w : World} {K : PySem.W.Frag} {mg : Str → Option Value} {base : Heap}
theorem kyD_str {d : D} (h : kyD d = true) : ∃ z, d = .str z ∧ isKy z = true := by
  cases d with
  | str z => exact ⟨z, rfl, h⟩
  | _ => cases h
theorem nmD_str {d : D} (h : nmD d = true) : ∃ z, d = .str z ∧ isNm z = true := by
  cases d with
  | str z => exact ⟨z, rfl, h⟩
  | _ => cases h
theorem inD_int {lo hi : Int} {d : D} (h : inD lo hi d = true) : ∃ i, d = .int i ∧ lo ≤ i ∧ i ≤ hi := by
  cases d with
  | int i => exact ⟨i, rfl, by simpa [inD] using h⟩
  | _ => cases h
theorem ent_shape {es : List D} (h : entD es = true) : (∃ k g c m, es = [.str "ask", .str k, .str g, .int c, .int m] ∧ isKy k = true ∧ isNm g = true ∧ 1 ≤ c ∧ c ≤ 1000 ∧ 0 ≤ m ∧ m ≤ 1000000000) ∨ ∃ k m, es = [.str "release", .str k, .int m] ∧ isKy k = true ∧ 0 ≤ m ∧ m ≤ 1000000000 := by
  unfold entD at h
  split at h
  · simp only [Bool.and_eq_true, decide_eq_true_eq] at h
    obtain ⟨rfl, ⟨h1, h2, h3⟩, h4⟩ := h
    obtain ⟨k, rfl, hk⟩ := kyD_str h1
    obtain ⟨g, rfl, hg⟩ := nmD_str h2
    obtain ⟨c, rfl, hc⟩ := inD_int h3
    obtain ⟨m, rfl, hm⟩ := inD_int h4
    exact .inl ⟨k, g, c, m, rfl, hk, hg, hc.1, hc.2, hm.1, hm.2⟩
  · simp only [Bool.and_eq_true, decide_eq_true_eq] at h
    obtain ⟨rfl, h1, h4⟩ := h
    obtain ⟨k, rfl, hk⟩ := kyD_str h1
    obtain ⟨m, rfl, hm⟩ := inD_int h4
    exact .inr ⟨k, m, rfl, hk, hm.1, hm.2⟩
  · cases h
end
end Toy

namespace Toy
open PySem PyProof.Rows L2 Pf
section
variable {P : Program} {w : World} {K : PySem.W.Frag} {mg : Str → Option Value} {base : Heap}
theorem ky_len {z : Str} (h : isKy z = true) : z.length ≤ 20 := by
  unfold isKy at h
  simp only [Bool.and_eq_true, decide_eq_true_eq] at h
  exact h.1.2
theorem nm_len {z : Str} (h : isNm z = true) : z.length ≤ 12 := by
  unfold isNm at h
  simp only [Bool.and_eq_true, decide_eq_true_eq] at h
  exact h.1.2
end
end Toy

namespace Toy
open PySem PyProof.Rows L2 Pf
open PySem.NumText (AllDigits digitsVal)
section
variable {P : Program} {w : World} {K : PySem.W.Frag} {mg : Str → Option Value} {base : Heap}
def ptS : D → Str
  | .str z => z
  | .int i => ((toString i : String) : Str)
  | _ => ""
def wds (es : List D) : List Str := es.map ptS
def lnE (es : List D) : Str := Txt.join " " (wds es)
theorem kySign_dig {c : Nat} (h : isDg c = true) : kySign c = true := by
  unfold isDg at h
  unfold kySign nmSign
  simp only [Bool.and_eq_true, Bool.or_eq_true, decide_eq_true_eq] at h ⊢
  omega
theorem num_word {i : Int} (h0 : 0 ≤ i) (h1 : i ≤ 1000000000) : (ptS (.int i)).length ≤ 20 ∧ (ptS (.int i)).cps.toList.all kySign = true ∧ i.natAbs.log2 < 1920 ∧ pNum (ptS (.int i)).cps.toList 10 = some i.toNat := by
  obtain ⟨n, rfl⟩ : ∃ n : Nat, i = (n : Int) := ⟨i.toNat, by omega⟩
  have hn : n < 10 ^ 10 := by omega
  have hl := numS_le (n := n) (k := 10) (by decide) hn
  refine ⟨by rw [TL.len_tl]; exact Nat.le_trans hl (by decide), ?_, ?_, ?_⟩
  · refine List.all_eq_true.mpr fun c hc => kySign_dig ?_
    have := numS_dig n c hc
    unfold isDg
    rw [Bool.and_eq_true, decide_eq_true_iff, decide_eq_true_iff]
    exact this
  · rw [Int.natAbs_natCast]
    rcases Nat.eq_zero_or_pos n with h | h
    · rw [h]; decide
    · exact (Nat.log2_lt (by omega)).mpr (Nat.lt_of_lt_of_le (by omega : n < 2 ^ 34) (Nat.pow_le_pow_right (by decide) (by decide)))
  · rw [Int.toNat_natCast]
    exact pNum_num (by decide) hn
theorem num7 {i : Int} (h0 : 0 ≤ i) (h1 : i ≤ 1000) : pNum (ptS (.int i)).cps.toList 7 = some i.toNat := by
  obtain ⟨n, rfl⟩ : ∃ n : Nat, i = (n : Int) := ⟨i.toNat, by omega⟩
  rw [Int.toNat_natCast]
  exact pNum_num (by decide) (Nat.lt_of_le_of_lt (by omega : n ≤ 1000) (by decide))
theorem ky_word {z : Str} (h : isKy z = true) : z.length ≤ 20 ∧ z.cps.toList.all kySign = true := ⟨ky_len h, by unfold isKy at h; exact (Bool.and_eq_true_iff.mp h).2⟩
theorem nm_word {z : Str} (h : isNm z = true) : z.length ≤ 20 ∧ z.cps.toList.all kySign = true := ⟨by have := nm_len h; omega, by
  unfold isNm at h
  have q := (Bool.and_eq_true_iff.mp h).2
  rw [List.all_eq_true] at q ⊢
  intro c hc
  unfold kySign
  rw [q c hc]; rfl⟩
def OkW (d : D) : Prop := ((∃ z : Str, d = .str z) ∨ ∃ i : Int, d = .int i ∧ i.natAbs.log2 < 1920) ∧ (ptS d).length ≤ 20 ∧ (ptS d).cps.toList.all kySign = true
theorem okW_str {z : Str} (h : z.length ≤ 20 ∧ z.cps.toList.all kySign = true) : OkW (.str z) := ⟨.inl ⟨z, rfl⟩, h⟩
theorem okW_int {i : Int} (h0 : 0 ≤ i) (h1 : i ≤ 1000000000) : OkW (.int i) := by
  obtain ⟨a, b, c, _⟩ := num_word h0 h1
  exact ⟨.inr ⟨i, rfl, c⟩, a, b⟩
theorem ent_words {es : List D} (h : entD es = true) : (∀ d ∈ es, OkW d) ∧ 3 ≤ es.length ∧ es.length ≤ 5 := by
  have ask : OkW (.str "ask") ∧ OkW (.str "release") := ⟨okW_str (by decide +kernel), okW_str (by decide +kernel)⟩
  rcases ent_shape h with ⟨k, g, c, m, rfl, h1, h2, h3, h4, h5, h6⟩ | ⟨k, m, rfl, h1, h5, h6⟩
  · refine ⟨fun d hd => ?_, by simp, by simp⟩
    simp only [List.mem_cons, List.not_mem_nil, or_false] at hd
    rcases hd with rfl | rfl | rfl | rfl | rfl
    · exact ask.1
    · exact okW_str (ky_word h1)
    · exact okW_str (nm_word h2)
    · exact okW_int (by omega) (by omega)
    · exact okW_int h5 h6
  · refine ⟨fun d hd => ?_, by simp, by simp⟩
    simp only [List.mem_cons, List.not_mem_nil, or_false] at hd
    rcases hd with rfl | rfl | rfl
    · exact ask.2
    · exact okW_str (ky_word h1)
    · exact okW_int h5 h6
theorem ky_ne {z : Str} {n : Nat} (h : z.cps.toList.all kySign = true) (hn : kySign n = false) : n ∉ z.cps.toList := fun hm => by
  rw [List.all_eq_true.mp h n hm] at hn; cases hn
theorem ln_len {es : List D} (h : entD es = true) : (lnE es).length ≤ 105 := by
  obtain ⟨h1, h2, h3⟩ := ent_words h
  have q := join_len " " (wds es)
  have s := sum_le (xs := wds es) (m := 20) (by
    intro x hx
    obtain ⟨d, hd, rfl⟩ := List.mem_map.mp hx
    exact (h1 d hd).2.1)
  have l : (wds es).length = es.length := List.length_map ..
  have e : (" " : Str).length = 1 := by decide +kernel
  rw [l] at s q
  rw [e] at q
  unfold lnE
  omega
theorem ln_split {es : List D} (h : entD es = true) : Txt.split (lnE es) " " = wds es := by
  obtain ⟨h1, h2, h3⟩ := ent_words h
  refine TL.split_join (s := 32) (S := []) (by decide +kernel) (by decide +kernel) (fun e => ?_) fun p hp => ?_
  · have l0 : es.length = 0 := by rw [← show (wds es).length = es.length from List.length_map .., e]; rfl
    omega
  · obtain ⟨d, hd, rfl⟩ := List.mem_map.mp hp
    exact ky_ne (h1 d hd).2.2 (by decide)
theorem ln_signs {es : List D} (h : entD es = true) : ∀ c ∈ (lnE es).cps.toList, c = 32 ∨ kySign c = true := fun c hc => by
  rcases mem_join hc with q | ⟨x, hx, q⟩
  · rw [show (" " : Str).cps.toList = [32] from by decide +kernel, List.mem_singleton] at q
    exact .inl q
  · obtain ⟨d, hd, rfl⟩ := List.mem_map.mp hx
    exact .inr (List.all_eq_true.mp ((ent_words h).1 d hd).2.2 c q)
def parW (ws : List Str) : List D := if ws.length = 5 then [.str (ws.getD 0 ""), .str (ws.getD 1 ""), .str (ws.getD 2 ""), optN (pNum (ws.getD 3 "").cps.toList 7), optN (pNum (ws.getLastD "").cps.toList 10)] else ws.dropLast.map D.str ++ [optN (pNum (ws.getLastD "").cps.toList 10)]
def parE (z : Str) : List D := parW (Txt.split z " ")
theorem par_good {es : List D} (h : entD es = true) : parE (lnE es) = es := by
  unfold parE
  rw [ln_split h]
  have oi : ∀ {i : Int}, 0 ≤ i → optN (some i.toNat) = .int i := fun {i} h => by show D.int (i.toNat : Int) = _; rw [Int.toNat_of_nonneg h]
  rcases ent_shape h with ⟨k, g, c, m, rfl, h1, h2, h3, h4, h5, h6⟩ | ⟨k, m, rfl, h1, h5, h6⟩
  · show [D.str "ask", .str k, .str g, optN (pNum (ptS (.int c)).cps.toList 7), optN (pNum (ptS (.int m)).cps.toList 10)] = _
    rw [num7 (by omega) h4, (num_word h5 h6).2.2.2, oi (by omega), oi h5]
  · show [D.str "release", .str k, optN (pNum (ptS (.int m)).cps.toList 10)] = _
    rw [(num_word h5 h6).2.2.2, oi h5]
theorem optN_prt (o : Option Nat) : prt (optN o) = true := by cases o <;> rfl
theorem parW_ok {ws : List Str} (h : ∀ z ∈ ws, z.length ≤ 2000) (hl : ws.length ≤ 1050) (hne : ws ≠ []) : OkP (parW ws) := by
  have gl : ∀ k, (ws.getD k "").length ≤ 2000 := fun k => by
    rw [List.getD_eq_getElem?_getD]
    cases e : ws[k]? with
    | none => decide +kernel
    | some z => exact h z (List.mem_of_getElem? e)
  unfold parW
  split
  · have g : ∀ k, prt (.str (ws.getD k "")) = true := fun k => decide_eq_true (gl k)
    exact ⟨by simp only [List.all_cons, List.all_nil, g, optN_prt, Bool.and_self, Bool.and_true], by simp, .inl ⟨_, _, rfl⟩⟩
  · refine ⟨?_, by rw [List.length_append, List.length_map, List.length_dropLast]; simp; omega, ?_⟩
    · rw [List.all_append, List.all_map, Bool.and_eq_true]
      refine ⟨List.all_eq_true.mpr fun z hz => ?_, by simp [optN_prt]⟩
      show decide (z.length ≤ 2000) = true
      exact decide_eq_true (h z ((List.dropLast_sublist ws).subset hz))
    · rcases ws with _ | ⟨a, _ | ⟨b, r⟩⟩
      · exact absurd rfl hne
      · exact .inr (by simp)
      · exact .inl ⟨a, _, rfl⟩
theorem ln_join {es : List D} (h : entD es = true) : ((wds es).map (·.length)).sum + (wds es).length * (" " : Str).length ≤ 16777216 := by
  obtain ⟨h1, h2, h3⟩ := ent_words h
  have s := sum_le (xs := wds es) (m := 20) (by
    intro x hx
    obtain ⟨d, hd, rfl⟩ := List.mem_map.mp hx
    exact (h1 d hd).2.1)
  have l : (wds es).length = es.length := List.length_map ..
  have e : (" " : Str).length = 1 := by decide +kernel
  rw [l] at s ⊢
  rw [e]
  omega
theorem j_part {X : Cx} {ρ : Rho} {e : Expr} {p pos : Pos} {d : D} (T : Bt X.mg) (hd : OkW d) (he0 : J X e ρ d) (hg : Gl X "str" := by rfl) (he : starEach [e] X.env = (false, eval e X.env) :: starEach [] X.env := by rfl) (hpl : (backTo pos (starEach [] X.env)).any (·.1) = false := by rfl) : J X (.Call (.Name "str" p) [e] [] pos) ρ (.str (ptS d)) := by
  rcases hd.1 with ⟨z, rfl⟩ | ⟨i, rfl, hi⟩
  · exact jb_strS T (ja_cons he0 ja_nil he) hg he hpl
  · exact jb_str T (ja_cons he0 ja_nil he) hi hg he hpl
end
end Toy

namespace Toy
open PySem PyProof.Rows L2 Pf
open PySem.NumText (AllDigits digitsVal)
section
variable {P : Program} {w : World} {K : PySem.W.Frag} {mg : Str → Option Value} {base : Heap}
structure Gd (mg : Str → Option Value) : Prop where
  digs : ∃ t, mg "DIGITS" = some (.str "0123456789" t)
  n7 : ∃ t, mg "NUMBER_DIGITS" = some (.int 7 t)
  n10 : ∃ t, mg "MOMENT_DIGITS" = some (.int 10 t)
abbrev sNum : Stmt := top 16
theorem scNum : FnScope ["word", "digits", "sign"] ["word", "digits"] (defScope sNum) := ⟨rfl, rfl, rfl, by decide +kernel, rfl, by decide +kernel, by decide +kernel⟩
def gNum : List D → (D → Prop) → Prop := fun ds P => ∃ (z : Str) (k : Nat), ds = [.str z, .int k] ∧ z.length ≤ 2000 ∧ k ≤ 600 ∧ P = fun d => d = optN (pNum z.cps.toList k)
theorem ok_num {f : Addr} {fd : FuncData} (F : Fun K "parse_number" "parse_number" sNum f fd) (T : Bt mg) (G : Gd mg) : FnOk P w K mg base CX0 1 f fd ["word", "digits"] (spP K 2 gNum) := by
  refine fn_pure F scNum (by rintro ds Pd ⟨_, _, rfl, _⟩; rfl) fun cdv A outer s H E ds Pd hr hG => ?_
  obtain ⟨z, k, rfl, hl, hk, rfl⟩ := hG
  obtain ⟨cs, rfl⟩ : ∃ cs, z = tx cs := ⟨_, (tx_of z).symm⟩
  rw [tx_len] at hl
  rw [tx_cps]
  have nd := scNum.nd
  have e1 : (decide ((1 : Int) ≤ ((tx cs).length : Int)) && decide (((tx cs).length : Int) ≤ (k : Int))) = (decide (1 ≤ cs.length) && decide (cs.length ≤ k)) := by
    rw [tx_len]
    congr 1 <;> exact decide_eq_decide.mpr (by omega)
  have hz : (tx cs).length ≤ sizeLine := by rw [tx_len]; exact le_size (by omega)
  refine jss_cons (js_if (t := !okNum cs k) (JT.to (jt_w (jw_or (jt_not (jt_ch j_int (jb_len T (ja_cons (jv 0 rfl) ja_nil) (lenS hz)) (jv 1 rfl) cd_leI cd_leI)) (fun _ => jw_or1 (jt_not (jt_val (jb_all T (bs := cs.map isDg) (ja_cons (J.to (j_lcM (own := [("sign", 2)]) (i := 2) cs (fun c : Nat => D.str ⟨#[c]⟩) (fun c => D.bl (isDg c)) (ji_tx (jv 0 rfl)) (blkOk_by (N := ["word", "digits", "sign"]) (sc := defScope sNum) (by decide +kernel)) (fun _ _ _ _ _ => pg_name nd rfl (Or.inl rfl)) (lt_size (by omega)) (fun c hc s H C cl fp => J.to (j_cm (jv 2 rfl) (j_gS G.digs) cd_inSign) (congrArg D.bl (dg_mem c))) nd) (by rw [List.map_map]; rfl)) ja_nil))))))) ?_) (fun h => ?_) (fun h => jss_nil ?_))
  · rw [e1, List.all_map]
    show (!(decide (1 ≤ cs.length) && decide (cs.length ≤ k)) || !cs.all isDg) = !((decide (1 ≤ cs.length) && decide (cs.length ≤ k)) && cs.all isDg)
    cases (decide (1 ≤ cs.length) && decide (cs.length ≤ k)) <;> cases cs.all isDg <;> rfl
  · refine jss_cons (js_ret j_non ?_)
    show D.non = optN (pNum cs k)
    unfold pNum
    rw [if_neg (by rw [Bool.not_eq_true'] at h; rw [h]; decide)]
    rfl
  have hok : okNum cs k = true := by rw [Bool.not_eq_false'] at h; exact h
  have hparts := hok
  unfold okNum at hparts
  rw [Bool.and_eq_true, Bool.and_eq_true, decide_eq_true_iff, decide_eq_true_iff] at hparts
  obtain ⟨⟨hl1, hl2⟩, hd⟩ := hparts
  have hAll : AllDigits cs := by
    intro c hc
    have := List.all_eq_true.mp hd c hc
    unfold isDg at this
    rw [Bool.and_eq_true, decide_eq_true_iff, decide_eq_true_iff] at this
    exact this
  have hread : PySem.intText? (tx cs) = some ((digitsVal cs : Nat) : Int) := intText_digits (x := tx cs) hAll (by intro q; rw [tx_cps] at q; rw [q] at hl1; simp at hl1) (by rw [tx_len]; omega)
  refine jss_cons (js_if (t := zeroed cs) (JT.to (jt_w (jw_and (jt_cm (j_ixS (n := cs.getD 0 0) (jv 0 rfl) j_int hz (atI_N 0 0 rfl (by rw [tx_cps]; omega))) j_str cd_eqS) (fun _ => jw_and1 (jt_cm (jv 0 rfl) j_str cd_neS)))) ?_) (fun h => ?_) (fun h => jss_nil ?_))
  · rw [show ("0" : Str) = tx [48] from by decide +kernel]
    unfold zeroed
    congr 1
    · exact decide_eq_decide.mpr ⟨fun q => by have := tx_inj (a := [cs.getD 0 0]) (b := [48]) q; simpa using this, fun q => by rw [q]; rfl⟩
    · congr 1
      exact decide_eq_decide.mpr ⟨fun q => tx_inj q, fun q => by rw [q]⟩
  · refine jss_cons (js_ret j_non ?_)
    show D.non = optN (pNum cs k)
    unfold pNum
    rw [if_pos hok, if_pos h]
    rfl
  · refine jss_cons (js_ret (jb_intS T (ja_cons (jv 0 rfl) ja_nil) hread (by rw [tx_len]; omega)) ?_)
    show _ = optN (pNum cs k)
    unfold pNum
    rw [if_pos hok, if_neg (by rw [h]; decide)]
    rfl
abbrev sPe : Stmt := top 17
abbrev nPe : List Str := ["line", "words", "moment", "entry"]
theorem scPe : FnScope nPe ["line"] (defScope sPe) := ⟨rfl, rfl, rfl, by decide +kernel, rfl, by decide +kernel, by decide +kernel⟩
def entO (es : List D) : D := if entD es = true then .tup es else .non
def gPe : List D → (D → Prop) → Prop := fun ds P => ∃ z : Str, ds = [.str z] ∧ z.length ≤ 1000 ∧ P = fun d => d = entO (parE z)
theorem spc : ((" " : Str).length == 0) = false ∧ (("\n" : Str).length == 0) = false ∧ Txt.split "" " " ≠ [] ∧ Txt.split "" "\n" ≠ [] := by decide +kernel
theorem strs_at {hs : List Str} {i : Int} (h0 : 0 ≤ i) (h1 : i < hs.length) : atI (hs.map D.str) i = some (.str (hs.getD i.toNat "")) := by
  have hk : i.toNat < hs.length := by omega
  rw [atI_getD D.non h0 (by rw [List.length_map]; exact h1), List.getD_eq_getElem?_getD, List.getElem?_map, List.getD_eq_getElem?_getD, List.getElem?_eq_getElem hk]
  rfl
theorem strs_last {hs : List Str} (h : hs ≠ []) : atI (hs.map D.str) (-1) = some (.str (hs.getLastD "")) := by
  have hp := List.length_pos_iff.mpr h
  unfold atI ixN
  rw [if_neg (by decide), if_pos (by rw [List.length_map]; omega)]
  show (hs.map D.str)[(-1 + ((hs.map D.str).length : Int)).toNat]? = _
  rw [List.getElem?_map, List.length_map, show (-1 + (hs.length : Int)).toNat = hs.length - 1 by omega, ← List.getLast?_eq_getElem?, List.getLastD_eq_getLast?]
  cases q : hs.getLast? with
  | none => exact absurd (List.getLast?_eq_none_iff.mp q) h
  | some z => rfl
theorem last_mem {ws : List Str} (h : ws ≠ []) : ws.getLastD "" ∈ ws := by
  rw [List.getLastD_eq_getLast?]
  cases q : ws.getLast? with
  | none => exact absurd (List.getLast?_eq_none_iff.mp q) h
  | some z => exact List.mem_of_getLast? q
theorem ok_pe {f : Addr} {fd : FuncData} (F : Fun K "parse_entry" "parse_entry" sPe f fd) (T : Bt mg) (G : Gd mg) (cN : PFn P w K mg base 1 "parse_number" 2 gNum) (cE : PFn P w K mg base 3 "is_entry" 1 gEnt) : FnOk P w K mg base CX0 4 f fd ["line"] (spP K 1 gPe) := by
  refine fn_pure F scPe (by rintro ds Pd ⟨_, rfl, _⟩; rfl) fun cdv A outer s H E ds Pd hr hG => ?_
  obtain ⟨z, rfl, hz, rfl⟩ := hG
  have nd := scPe.nd
  refine jss_cons (js_set (i := 1) (j_split (jv 0 rfl) (ja_cons j_str ja_nil) spc.1 (le_size (by omega))) ?_ nd)
  have hne : Txt.split z " " ≠ [] := split_ne spc.2.2.1
  have hw : ∀ x ∈ Txt.split z " ", x.length ≤ 2000 := fun x hx => by have := split_in hx; omega
  have hn : (Txt.split z " ").length ≤ 1050 := by have := PyProof.Rows.split_le z " "; omega
  show JSs _ [] _ [some (.fz (.str z)), some (.fz (.lst ((Txt.split z " ").map D.str))), none, none] _
  unfold parE
  generalize Txt.split z " " = ws at hne hw hn
  have gl : ∀ k, (ws.getD k "").length ≤ 2000 := fun k => by
    rw [List.getD_eq_getElem?_getD]
    cases e : ws[k]? with
    | none => decide +kernel
    | some z => exact hw z (List.mem_of_getElem? e)
  have lenW : lenD (.lst (ws.map D.str)) = some ws.length := by show some _ = _; rw [List.length_map]
  refine jss_cons (js_set (i := 2) (j_call cN hr (ja_cons (j_ix (jv 1 rfl) (j_neg j_int) (ixd_L (strs_last hne))) (ja_cons (j_gI G.n10) ja_nil)) ⟨_, 10, rfl, hw _ (last_mem hne), by decide, rfl⟩ (fun _ h => h)) ?_ nd)
  refine jss_mid (fun ρ => ρ = [some (.fz (.str z)), some (.fz (.lst (ws.map D.str))), some (.fz (optN (pNum (ws.getLastD "").cps.toList 10))), some (.fz (.tup (parW ws)))]) (js_if (jt_cm (jb_len T (ja_cons (jv 1 rfl) ja_nil) lenW) j_int cd_eqI) (fun h => ?_) (fun h => ?_)) ?_
  · have h5 : ws.length = 5 := by have := of_decide_eq_true h; omega
    refine jss_cons (js_set (i := 3) (j_tup (ja_cons (j_ix (jv 1 rfl) j_int (ixd_L (strs_at (by decide) (by omega)))) (ja_cons (j_ix (jv 1 rfl) j_int (ixd_L (strs_at (by decide) (by omega)))) (ja_cons (j_ix (jv 1 rfl) j_int (ixd_L (strs_at (by decide) (by omega)))) (ja_cons (j_call cN hr (ja_cons (j_ix (jv 1 rfl) j_int (ixd_L (strs_at (by decide) (by omega)))) (ja_cons (j_gI G.n7) ja_nil)) ⟨_, 7, rfl, gl _, by decide, rfl⟩ (fun _ h => h)) (ja_cons (jv 2 rfl) ja_nil)))))) (jss_nil ⟨_, rfl, ?_⟩) nd)
    unfold parW
    rw [if_pos h5]
    rfl
  · have h5 : ¬ ws.length = 5 := by have := of_decide_eq_false h; omega
    refine jss_cons (js_set (i := 3) (jb_tupleL T (ja_cons (j_bin (J.to (j_sl (jv 1 rfl) jo_none (jo_some (j_neg j_int)) sld_L) (show _ = D.lst (ws.dropLast.map D.str) from ?_)) (j_lst (ja_cons (jv 2 rfl) ja_nil)) (od_addL (by rw [List.length_map, List.length_dropLast]; exact le_size (by simp; omega)))) ja_nil)) (jss_nil ⟨_, rfl, ?_⟩) nd)
    · rw [cut_map]
      exact congrArg (fun l : List Str => D.lst (l.map D.str)) (cut_init ws)
    · unfold parW
      rw [if_neg h5]
      rfl
  rintro _ rfl
  have hok := parW_ok hw hn hne
  refine jss_cons (js_ret (J.to (j_ifExp (t := entD (parW ws)) (d1 := .tup (parW ws)) (d2 := .non) (jt_val (j_call cE hr (ja_cons (jv 3 rfl) ja_nil) ⟨_, rfl, hok, rfl⟩ (fun _ h => h))) (fun _ => jv 3 rfl) (fun _ => j_non)) rfl) ?_)
  rfl
end
end Toy

namespace Toy
open PySem PyProof.Rows L2 Pf
def numT (n : Nat) : Str := ((toString (n : Int) : String) : Str)
def wordF (o : Option Nat) (z : Str) : Str := match o with
  | none => z
  | some n => numT n
theorem numT_len {n : Nat} (h : n < 10 ^ 14) : (numT n).length ≤ 20 := by
  have e : (numT n).length = (numS (n : Int)).length := by unfold numS numT; rw [Array.length_toList]; rfl
  rw [e]
  exact Nat.le_trans (numS_le (k := 14) (by decide) h) (by decide)
theorem numT_log {n : Nat} (h : n < 10 ^ 14) : ((n : Nat) : Int).natAbs.log2 < 1920 := by
  rcases Nat.eq_zero_or_pos n with h0 | h0
  · subst h0; decide
  · exact (Nat.log2_lt (by omega)).mpr (Nat.lt_of_lt_of_le (by omega : _ < 2 ^ 47) (Nat.pow_le_pow_right (by decide) (by decide)))
theorem wordF_len {o : Option Nat} {z : Str} (h : ∀ n, o = some n → n < 10 ^ 14) (hz : z.length ≤ 20) : (wordF o z).length ≤ 20 := by
  cases o with
  | none => exact hz
  | some n => exact numT_len (h n rfl)
/-- the module's constants -/
structure Gn (mg : Str → Option Value) : Prop where
  none' : ∃ t, mg "NONE" = some (.str "none" t)
  never : ∃ t, mg "NEVER" = some (.str "never" t)
  gct : ∃ t, mg "GREATEST_COUNT" = some (.int 999999 t)
  n6 : ∃ t, mg "COUNT_DIGITS" = some (.int 6 t)
  n4 : ∃ t, mg "COST_DIGITS" = some (.int 4 t)
  n12 : ∃ t, mg "EARLIEST_DIGITS" = some (.int 12 t)
  n8 : ∃ t, mg "MOST_NAMES" = some (.int 8 t)
section
variable {X : Cx} {ρ : Rho} {e : Expr} {ds : List D} {p pos : Pos}
theorem jb_listT (T : Bt X.mg) (ha : JA X [e] ρ [.tup ds]) (hg : Gl X "list" := by rfl) (he : starEach [e] X.env = (false, eval e X.env) :: starEach [] X.env := by rfl) (hpl : (backTo pos (starEach [] X.env)).any (·.1) = false := by rfl) : J X (.Call (.Name "list" p) [e] [] pos) ρ (.lst ds) := j_ct call_list_of T.list (by decide +kernel) ha rc_listT hg (by decide) (by decide) he hpl
end
theorem join_words {ws : List Str} {m k : Nat} (h : ∀ x ∈ ws, x.length ≤ m) (hk : ws.length ≤ k) (hm : k * m ≤ 1000000) (hk2 : k ≤ 1000000) (y : Str) (hy : y.length = 1) : (ws.map (·.length)).sum + ws.length * y.length ≤ 16777216 := by
  have h1 := sum_le h
  have h2 := Nat.mul_le_mul_right m hk
  rw [hy]
  omega
abbrev View : Type := Nat × Option Nat × List Str
def viewD (v : View) : D := .tup [.int (v.1 : Int), optN v.2.1, .tup (v.2.2.map D.str)]
def vwords (v : View) : List Str := numT v.1 :: wordF v.2.1 "none" :: v.2.2
structure OkV (v : View) : Prop where
  num : v.1 < 1000000
  due : ∀ n, v.2.1 = some n → n < 1000000
  nms : ∀ z ∈ v.2.2, z.length ≤ 12
  few : v.2.2.length ≤ 20
theorem OkV.words {v : View} (h : OkV v) : (∀ x ∈ vwords v, x.length ≤ 20) ∧ (vwords v).length ≤ 22 := by
  refine ⟨fun x hx => ?_, by have := h.few; unfold vwords; simp only [List.length_cons]; omega⟩
  unfold vwords at hx
  rcases List.mem_cons.mp hx with rfl | hx
  · exact numT_len (Nat.lt_trans h.num (by decide))
  · rcases List.mem_cons.mp hx with rfl | hx
    · exact wordF_len (fun n e => Nat.lt_trans (h.due n e) (by decide)) (by decide +kernel)
    · exact Nat.le_trans (h.nms x hx) (by decide)
section
variable {P : Program} {w : World} {K : PySem.W.Frag} {mg : Str → Option Value} {base : Heap}
abbrev sWf : Stmt := top 26
theorem scWf : FnScope ["number", "absent"] ["number", "absent"] (defScope sWf) := ⟨rfl, rfl, rfl, by decide +kernel, rfl, by decide +kernel, by decide +kernel⟩
def gWf : List D → (D → Prop) → Prop := fun ds P => ∃ (o : Option Nat) (z : Str), ds = [optN o, .str z] ∧ (∀ n, o = some n → n < 10 ^ 14) ∧ P = fun d => d = .str (wordF o z)
theorem ok_wf {f : Addr} {fd : FuncData} (F : Fun K "word_for" "word_for" sWf f fd) (T : Bt mg) : FnOk P w K mg base CX0 1 f fd ["number", "absent"] (spP K 2 gWf) := by
  refine fn_pure F scWf (by rintro ds Pd ⟨_, _, rfl, _⟩; rfl) fun cdv A outer s H E ds Pd hr hG => ?_
  obtain ⟨o, z, rfl, ho, rfl⟩ := hG
  cases o with
  | none => exact jss_cons (js_ret (j_ifT (JT.to (jt_cm (jv 0 rfl) j_non cd_isN) rfl) (jv 1 rfl)) rfl)
  | some n => exact jss_cons (js_ret (j_ifF (JT.to (jt_cm (jv 0 rfl) j_non cd_isN) rfl) (jb_str T (ja_cons (jv 0 rfl) ja_nil) (numT_log (ho n rfl)))) rfl)
abbrev sVw : Stmt := top 27
theorem scVw : FnScope ["view", "number", "due", "houses"] ["view"] (defScope sVw) := ⟨rfl, rfl, rfl, by decide +kernel, rfl, by decide +kernel, by decide +kernel⟩
def gVw : List D → (D → Prop) → Prop := fun ds P => ∃ v : View, ds = [viewD v] ∧ OkV v ∧ P = fun d => d = .lst ((vwords v).map D.str)
theorem ok_vw {f : Addr} {fd : FuncData} (F : Fun K "view_words" "view_words" sVw f fd) (T : Bt mg) (N : Gn mg) (cW : PFn P w K mg base 1 "word_for" 2 gWf) : FnOk P w K mg base CX0 2 f fd ["view"] (spP K 1 gVw) := by
  refine fn_pure F scVw (by rintro ds Pd ⟨_, rfl, _⟩; rfl) fun cdv A outer s H E ds Pd hr hG => ?_
  obtain ⟨v, rfl, hv, rfl⟩ := hG
  have nd := scVw.nd
  refine jss_cons (js_pat (pat := .tp [1, 2, 3]) (J.to (jv 0 rfl) (d' := .tup [.int (v.1 : Int), optN v.2.1, .tup (v.2.2.map D.str)]) rfl) rfl ?_ (pg_tup rfl (pgs_cons (pg_name nd rfl (Or.inl rfl)) (pgs_cons (pg_name nd rfl (Or.inl rfl)) (pgs_cons (pg_name nd rfl (Or.inl rfl)) pgs_nil)))))
  exact jss_cons (js_ret (j_bin (j_lst (ja_cons (jb_str T (ja_cons (jv 1 rfl) ja_nil) (numT_log (Nat.lt_trans hv.num (by decide)))) (ja_cons (j_call cW hr (ja_cons (jv 2 rfl) (ja_cons (j_gS N.none') ja_nil)) ⟨_, _, rfl, fun n e => Nat.lt_trans (hv.due n e) (by decide), rfl⟩ (fun _ h => h)) ja_nil))) (jb_listT T (ja_cons (jv 3 rfl) ja_nil)) (od_addL (by rw [List.length_map]; exact le_size (by have := hv.few; simp only [List.length_cons, List.length_nil]; omega)))) rfl)
abbrev sVb : Stmt := top 28
theorem scVb : FnScope ["view"] ["view"] (defScope sVb) := ⟨rfl, rfl, rfl, by decide +kernel, rfl, by decide +kernel, by decide +kernel⟩
def vbody (v : View) : Str := Txt.join " " ("view" :: vwords v)
def gVb : List D → (D → Prop) → Prop := fun ds P => ∃ v : View, ds = [viewD v] ∧ OkV v ∧ P = fun d => d = .str (vbody v)
theorem ok_vb {f : Addr} {fd : FuncData} (F : Fun K "view_body" "view_body" sVb f fd) (cV : PFn P w K mg base 2 "view_words" 1 gVw) : FnOk P w K mg base CX0 3 f fd ["view"] (spP K 1 gVb) := by
  refine fn_pure F scVb (by rintro ds Pd ⟨_, rfl, _⟩; rfl) fun cdv A outer s H E ds Pd hr hG => ?_
  obtain ⟨v, rfl, hv, rfl⟩ := hG
  obtain ⟨h1, h2⟩ := hv.words
  refine jss_cons (js_ret (j_join (ys := "view" :: vwords v) j_str (J.to (j_bin (j_lst (ja_cons j_str ja_nil)) (j_call cV hr (ja_cons (jv 0 rfl) ja_nil) ⟨v, rfl, hv, rfl⟩ (fun _ h => h)) (od_addL (by rw [List.length_map]; exact le_size (by simp only [List.length_cons, List.length_nil]; omega)))) rfl) (join_words (m := 20) (k := 23) (fun x hx => ?_) (by simp only [List.length_cons]; omega) (by decide) (by decide) _ (by decide +kernel)) rfl) rfl)
  rcases List.mem_cons.mp hx with rfl | hx
  · decide +kernel
  · exact h1 x hx
abbrev sCt : Stmt := top 31
theorem scCt : FnScope ["number"] ["number"] (defScope sCt) := ⟨rfl, rfl, rfl, by decide +kernel, rfl, by decide +kernel, by decide +kernel⟩
def gCt : List D → (D → Prop) → Prop := fun ds P => ∃ d, ds = [d] ∧ prt d = true ∧ P = fun r => r = .bl (inD 0 999999 d)
theorem ok_ct {f : Addr} {fd : FuncData} (F : Fun K "is_count" "is_count" sCt f fd) (N : Gn mg) (cI : PFn P w K mg base 1 "is_within" 3 gIn) : FnOk P w K mg base CX0 2 f fd ["number"] (spP K 1 gCt) := by
  refine fn_pure F scCt (by rintro ds Pd ⟨_, rfl, _⟩; rfl) fun cdv A outer s H E ds Pd hr hG => ?_
  obtain ⟨d, rfl, hp, rfl⟩ := hG
  exact jss_cons (js_ret (j_call cI hr (ja_cons (jv 0 rfl) (ja_cons j_int (ja_cons (j_gI N.gct) ja_nil))) ⟨d, 0, 999999, rfl, hp, rfl⟩ (fun _ h => h)) rfl)
abbrev nIv : List Str := ["view", "number", "due", "houses", "house"]
abbrev sIv : Stmt := top 32
theorem scIv : FnScope nIv ["view"] (defScope sIv) := ⟨rfl, rfl, rfl, by decide +kernel, rfl, by decide +kernel, by decide +kernel⟩
def viewB (a b : Option Nat) (hs : List Str) : Bool := (inD 0 999999 (optN a) && (isNon (optN b) || inD 0 999999 (optN b))) && (((decide (1 ≤ hs.length) && decide (hs.length ≤ 8)) && (hs.map isNm).all id) && decide ((ddL hs).length = hs.length))
def gIv : List D → (D → Prop) → Prop := fun ds P => ∃ (a b : Option Nat) (hs : List Str), ds = [.tup [optN a, optN b, .tup (hs.map D.str)]] ∧ (∀ z ∈ hs, z.length ≤ 2000) ∧ hs.length ≤ 2000 ∧ P = fun r => r = .bl (viewB a b hs)
theorem ok_iv {f : Addr} {fd : FuncData} (F : Fun K "is_view" "is_view" sIv f fd) (T : Bt mg) (N : Gn mg) (cC : PFn P w K mg base 2 "is_count" 1 gCt) (cN : PFn P w K mg base 1 "is_name" 1 gName) : FnOk P w K mg base CX0 3 f fd ["view"] (spP K 1 gIv) := by
  refine fn_pure F scIv (by rintro ds Pd ⟨_, _, _, rfl, _⟩; rfl) fun cdv A outer s H E ds Pd hr hG => ?_
  obtain ⟨a, b, hs, rfl, hz, hl, rfl⟩ := hG
  have nd := scIv.nd
  have lenH : lenD (.tup (hs.map D.str)) = some hs.length := by show some _ = _; rw [List.length_map]
  refine jss_cons (js_pat (pat := .tp [1, 2, 3]) (jv 0 rfl) rfl ?_ (pg_tup rfl (pgs_cons (pg_name nd rfl (Or.inl rfl)) (pgs_cons (pg_name nd rfl (Or.inl rfl)) (pgs_cons (pg_name nd rfl (Or.inl rfl)) pgs_nil)))))
  refine jss_cons (js_if (t := !(inD 0 999999 (optN a) && (isNon (optN b) || inD 0 999999 (optN b)))) (JT.to (jt_w (jw_or (jt_not (jt_val (j_call cC hr (ja_cons (jv 1 rfl) ja_nil) ⟨_, rfl, optN_prt a, rfl⟩ (fun _ h => h)))) (fun _ => jw_or1 (jt_not (jt_w (jw_or (jt_cm (jv 2 rfl) j_non cd_isN) (fun _ => jw_or1 (jt_val (j_call cC hr (ja_cons (jv 2 rfl) ja_nil) ⟨_, rfl, optN_prt b, rfl⟩ (fun _ h => h)))))))))) (by rw [Bool.not_and]; rfl)) (fun h => ?_) (fun h => jss_nil ?_))
  · rw [Bool.not_eq_true'] at h
    exact jss_cons (js_ret j_bl (show D.bl false = D.bl (viewB a b hs) by unfold viewB; rw [h]; rfl))
  rw [Bool.not_eq_false'] at h
  refine jss_cons (js_if (t := !((decide (1 ≤ hs.length) && decide (hs.length ≤ 8)) && (hs.map isNm).all id)) (JT.to (jt_w (jw_or (jt_not (jt_ch j_int (jb_len T (ja_cons (jv 3 rfl) ja_nil) lenH) (j_gI N.n8) cd_leI cd_leI)) (fun _ => jw_or1 (jt_not (jt_val (jb_all T (bs := hs.map isNm) (ja_cons (J.to (j_lcM (own := [("house", 4)]) (i := 4) hs D.str (fun z => D.bl (isNm z)) (ji_tup (jv 3 rfl)) (blkOk_by (N := nIv) (sc := defScope sIv) (by decide +kernel)) (fun _ _ _ _ _ => pg_name nd rfl (Or.inl rfl)) (lt_size (by omega)) (fun z hm s H C cl fp => j_call cN hr (ja_cons (jv 4 rfl) ja_nil) ⟨.str z, rfl, decide_eq_true (hz z hm), rfl⟩ (fun _ h => h)) nd) (by rw [List.map_map]; rfl)) ja_nil))))))) ?_) (fun h2 => ?_) (fun h2 => jss_nil ?_))
  · rw [show decide ((1 : Int) ≤ ((hs.length : Nat) : Int)) = decide (1 ≤ hs.length) from decide_eq_decide.mpr (by omega), show decide (((hs.length : Nat) : Int) ≤ 8) = decide (hs.length ≤ 8) from decide_eq_decide.mpr (by omega)]
    exact (Bool.not_and _ _).symm
  · rw [Bool.not_eq_true'] at h2
    exact jss_cons (js_ret j_bl (show D.bl false = D.bl (viewB a b hs) by unfold viewB; rw [h2, Bool.false_and, Bool.and_false]))
  rw [Bool.not_eq_false'] at h2
  refine jss_cons (js_ret (J.to (j_cm (jb_lenSetT T (jv 3 rfl) (Nat.lt_of_le_of_lt (Nat.succ_le_succ hl) (by decide))) (jb_len T (ja_cons (jv 3 rfl) ja_nil) lenH) cd_eqI) (d' := .bl (decide ((ddL hs).length = hs.length))) (congrArg D.bl (decide_eq_decide.mpr ⟨fun q => by omega, fun q => by omega⟩))) (show D.bl _ = D.bl (viewB a b hs) by unfold viewB; rw [h, h2]; rfl))
end
end Toy

namespace Toy
open PySem PyProof.Rows L2 Pf
def numW (z : Str) (k : Nat) : Option Nat := pNum z.cps.toList k
def vwD (a b : Option Nat) (hs : List Str) : D := .tup [optN a, optN b, .tup (hs.map D.str)]
def viewO (ws : List Str) : D :=
  if ws.length < 3 then .non else
  if ((numW (ws.getD 1 "") 6).isNone && !decide (ws.getD 1 "" = "none")) = true then .non else
  if viewB (numW (ws.getD 0 "") 6) (numW (ws.getD 1 "") 6) (ws.drop 2) = true then vwD (numW (ws.getD 0 "") 6) (numW (ws.getD 1 "") 6) (ws.drop 2) else .non
def headBad (a b m : Option Nat) (z : Str) : Bool := a.isNone || (b.isNone || !(inD 0 1000000000 (optN m) || decide (z = "none")))
def headO (ws : List Str) : D :=
  if ws.length < 3 then .non else
  if headBad (numW (ws.getD 0 "") 6) (numW (ws.getD 1 "") 6) (numW (ws.getD 2 "") 10) (ws.getD 2 "") = true then .non else
  if (isNon (viewO (ws.drop 3)) && decide (3 < ws.length)) = true then .non else .tup [optN (numW (ws.getD 0 "") 6), optN (numW (ws.getD 1 "") 6), optN (numW (ws.getD 2 "") 10), viewO (ws.drop 3)]
structure OkWs (ws : List Str) : Prop where
  len : ∀ z ∈ ws, z.length ≤ 1000
  ok : ∀ z ∈ ws, PySem.PyData.strOk z = true
  few : ws.length ≤ 1100
theorem OkWs.drop {ws : List Str} (h : OkWs ws) (k : Nat) : OkWs (ws.drop k) where
  len := fun z q => h.len z (List.mem_of_mem_drop q)
  ok := fun z q => h.ok z (List.mem_of_mem_drop q)
  few := by rw [List.length_drop]; have := h.few; omega
theorem OkWs.at {ws : List Str} (h : OkWs ws) (k : Nat) : (ws.getD k "").length ≤ 1000 := by
  rw [List.getD_eq_getElem?_getD]
  cases e : ws[k]? with
  | none => decide +kernel
  | some z => exact h.len z (List.mem_of_getElem? e)
theorem strs_drop {ws : List Str} (k : Nat) (h : k ≤ ws.length) : cut (ws.map D.str) (some (k : Int)) none = (ws.drop k).map D.str := by rw [cut_map, cut_drop _ _ h]
theorem isN_o (o : Option Nat) : isNon (optN o) = o.isNone := by cases o <;> rfl
section
variable {P : Program} {w : World} {K : PySem.W.Frag} {mg : Str → Option Value} {base : Heap}
abbrev sRv : Stmt := top 33
theorem scRv : FnScope ["words", "number", "due", "view"] ["words"] (defScope sRv) := ⟨rfl, rfl, rfl, by decide +kernel, rfl, by decide +kernel, by decide +kernel⟩
def gRv : List D → (D → Prop) → Prop := fun ds P => ∃ ws : List Str, ds = [.lst (ws.map D.str)] ∧ OkWs ws ∧ P = fun d => d = viewO ws
theorem ok_rv {f : Addr} {fd : FuncData} (F : Fun K "read_view" "read_view" sRv f fd) (T : Bt mg) (N : Gn mg) (cN : PFn P w K mg base 1 "parse_number" 2 gNum) (cV : PFn P w K mg base 3 "is_view" 1 gIv) : FnOk P w K mg base CX0 4 f fd ["words"] (spP K 1 gRv) := by
  refine fn_pure F scRv (by rintro ds Pd ⟨_, rfl, _⟩; rfl) fun cdv A outer s H E ds Pd hr hG => ?_
  obtain ⟨ws, rfl, hw, rfl⟩ := hG
  have nd := scRv.nd
  have lenW : lenD (.lst (ws.map D.str)) = some ws.length := by show some _ = _; rw [List.length_map]
  refine jss_cons (js_if (t := decide (ws.length < 3)) (JT.to (jt_cm (jb_len T (ja_cons (jv 0 rfl) ja_nil) lenW) j_int cd_ltI) (decide_eq_decide.mpr ⟨fun q => by omega, fun q => by omega⟩)) (fun h => ?_) (fun h => jss_nil ?_))
  · have h := of_decide_eq_true h
    exact jss_cons (js_ret j_non (show D.non = viewO ws by unfold viewO; rw [if_pos h]))
  have h := of_decide_eq_false h
  refine jss_cons (js_set (i := 1) (J.to (j_call cN hr (ja_cons (j_ix (jv 0 rfl) j_int (ixd_L (strs_at (by decide) (by omega)))) (ja_cons (j_gI N.n6) ja_nil)) ⟨_, 6, rfl, Nat.le_trans (hw.at _) (by decide), by decide, rfl⟩ (fun _ h => h)) (d' := optN (numW (ws.getD 0 "") 6)) rfl) ?_ nd)
  refine jss_cons (js_set (i := 2) (J.to (j_call cN hr (ja_cons (j_ix (jv 0 rfl) j_int (ixd_L (strs_at (by decide) (by omega)))) (ja_cons (j_gI N.n6) ja_nil)) ⟨_, 6, rfl, Nat.le_trans (hw.at _) (by decide), by decide, rfl⟩ (fun _ h => h)) (d' := optN (numW (ws.getD 1 "") 6)) rfl) ?_ nd)
  refine jss_cons (js_if (t := (numW (ws.getD 1 "") 6).isNone && !decide (ws.getD 1 "" = "none")) (JT.to (jt_w (jw_and (jt_cm (jv 2 rfl) j_non cd_isN) (fun _ => jw_and1 (jt_cm (j_ix (jv 0 rfl) j_int (ixd_L (strs_at (by decide) (by omega)))) (j_gS N.none') cd_neS)))) (by rw [show isNon (SV.fz (optN (numW (ws.getD 1 "") 6))).d = _ from isN_o _]; rfl)) (fun h2 => ?_) (fun h2 => jss_nil ?_))
  · exact jss_cons (js_ret j_non (show D.non = viewO ws by unfold viewO; rw [if_neg h, if_pos h2]))
  refine jss_cons (js_set (i := 3) (J.to (j_tup (ja_cons (jv 1 rfl) (ja_cons (jv 2 rfl) (ja_cons (jb_tupleL T (ja_cons (J.to (j_sl (jv 0 rfl) (jo_some j_int) jo_none sld_L) (congrArg D.lst (strs_drop 2 (by omega)))) ja_nil)) ja_nil)))) (d' := vwD (numW (ws.getD 0 "") 6) (numW (ws.getD 1 "") 6) (ws.drop 2)) rfl) ?_ nd)
  refine jss_cons (js_ret (J.to (j_ifExp (t := viewB (numW (ws.getD 0 "") 6) (numW (ws.getD 1 "") 6) (ws.drop 2)) (jt_val (j_call cV hr (ja_cons (jv 3 rfl) ja_nil) ⟨_, _, _, rfl, fun z q => Nat.le_trans ((hw.drop 2).len z q) (by decide), Nat.le_trans (hw.drop 2).few (by decide), rfl⟩ (fun _ h => h))) (fun _ => jv 3 rfl) (fun _ => j_non)) (d' := viewO ws) ?_) rfl)
  have e : viewO ws = if viewB (numW (ws.getD 0 "") 6) (numW (ws.getD 1 "") 6) (ws.drop 2) = true then vwD (numW (ws.getD 0 "") 6) (numW (ws.getD 1 "") 6) (ws.drop 2) else .non := by
    unfold viewO
    rw [if_neg h, if_neg (by rw [h2]; decide)]
  exact e.symm
abbrev sRh : Stmt := top 34
theorem scRh : FnScope ["words", "many", "entries", "moment", "view"] ["words"] (defScope sRh) := ⟨rfl, rfl, rfl, by decide +kernel, rfl, by decide +kernel, by decide +kernel⟩
def gRh : List D → (D → Prop) → Prop := fun ds P => ∃ ws : List Str, ds = [.lst (ws.map D.str)] ∧ OkWs ws ∧ P = fun d => d = headO ws
theorem ok_rh {f : Addr} {fd : FuncData} (F : Fun K "read_head" "read_head" sRh f fd) (T : Bt mg) (N : Gn mg) (G : Gd mg) (cN : PFn P w K mg base 1 "parse_number" 2 gNum) (cM : PFn P w K mg base 2 "is_moment" 1 gMo) (cV : PFn P w K mg base 4 "read_view" 1 gRv) : FnOk P w K mg base CX0 5 f fd ["words"] (spP K 1 gRh) := by
  refine fn_pure F scRh (by rintro ds Pd ⟨_, rfl, _⟩; rfl) fun cdv A outer s H E ds Pd hr hG => ?_
  obtain ⟨ws, rfl, hw, rfl⟩ := hG
  have nd := scRh.nd
  have lenW : lenD (.lst (ws.map D.str)) = some ws.length := by show some _ = _; rw [List.length_map]
  refine jss_cons (js_if (t := decide (ws.length < 3)) (JT.to (jt_cm (jb_len T (ja_cons (jv 0 rfl) ja_nil) lenW) j_int cd_ltI) (decide_eq_decide.mpr ⟨fun q => by omega, fun q => by omega⟩)) (fun h => ?_) (fun h => jss_nil ?_))
  · have h := of_decide_eq_true h
    exact jss_cons (js_ret j_non (show D.non = headO ws by unfold headO; rw [if_pos h]))
  have h := of_decide_eq_false h
  refine jss_cons (js_set (i := 1) (J.to (j_call cN hr (ja_cons (j_ix (jv 0 rfl) j_int (ixd_L (strs_at (by decide) (by omega)))) (ja_cons (j_gI N.n6) ja_nil)) ⟨_, 6, rfl, Nat.le_trans (hw.at _) (by decide), by decide, rfl⟩ (fun _ h => h)) (d' := optN (numW (ws.getD 0 "") 6)) rfl) ?_ nd)
  refine jss_cons (js_set (i := 2) (J.to (j_call cN hr (ja_cons (j_ix (jv 0 rfl) j_int (ixd_L (strs_at (by decide) (by omega)))) (ja_cons (j_gI N.n6) ja_nil)) ⟨_, 6, rfl, Nat.le_trans (hw.at _) (by decide), by decide, rfl⟩ (fun _ h => h)) (d' := optN (numW (ws.getD 1 "") 6)) rfl) ?_ nd)
  refine jss_cons (js_set (i := 3) (J.to (j_call cN hr (ja_cons (j_ix (jv 0 rfl) j_int (ixd_L (strs_at (by decide) (by omega)))) (ja_cons (j_gI G.n10) ja_nil)) ⟨_, 10, rfl, Nat.le_trans (hw.at _) (by decide), by decide, rfl⟩ (fun _ h => h)) (d' := optN (numW (ws.getD 2 "") 10)) rfl) ?_ nd)
  refine jss_cons (js_if (t := headBad (numW (ws.getD 0 "") 6) (numW (ws.getD 1 "") 6) (numW (ws.getD 2 "") 10) (ws.getD 2 "")) (JT.to (jt_w (jw_or (jt_cm (jv 1 rfl) j_non cd_isN) (fun _ => jw_or (jt_cm (jv 2 rfl) j_non cd_isN) (fun _ => jw_or1 (jt_not (jt_w (jw_or (jt_val (j_call cM hr (ja_cons (jv 3 rfl) ja_nil) ⟨_, rfl, optN_prt _, rfl⟩ (fun _ h => h))) (fun _ => jw_or1 (jt_cm (j_ix (jv 0 rfl) j_int (ixd_L (strs_at (by decide) (by omega)))) (j_gS N.none') cd_eqS))))))))) (by rw [show isNon (SV.fz (optN (numW (ws.getD 0 "") 6))).d = _ from isN_o _, show isNon (SV.fz (optN (numW (ws.getD 1 "") 6))).d = _ from isN_o _]; rfl)) (fun h2 => ?_) (fun h2 => jss_nil ?_))
  · exact jss_cons (js_ret j_non (show D.non = headO ws by unfold headO; rw [if_neg h, if_pos h2]))
  refine jss_cons (js_set (i := 4) (j_call cV hr (ja_cons (J.to (j_sl (jv 0 rfl) (jo_some j_int) jo_none sld_L) (congrArg D.lst (strs_drop 3 (by omega)))) ja_nil) ⟨_, rfl, hw.drop 3, rfl⟩ (fun _ h => h)) ?_ nd)
  refine jss_cons (js_if (t := isNon (viewO (ws.drop 3)) && decide (3 < ws.length)) (JT.to (jt_w (jw_and (jt_cm (jv 4 rfl) j_non cd_isN) (fun _ => jw_and1 (jt_cm (jb_len T (ja_cons (jv 0 rfl) ja_nil) lenW) j_int cd_gtI)))) (congrArg (fun b => isNon (viewO (ws.drop 3)) && b) (decide_eq_decide.mpr ⟨fun q => by omega, fun q => by omega⟩))) (fun h3 => ?_) (fun h3 => jss_nil ?_))
  · exact jss_cons (js_ret j_non (show D.non = headO ws by unfold headO; rw [if_neg h, if_neg (by rw [h2]; decide), if_pos h3]))
  exact jss_cons (js_ret (j_tup (ja_cons (jv 1 rfl) (ja_cons (jv 2 rfl) (ja_cons (jv 3 rfl) (ja_cons (jv 4 rfl) ja_nil))))) (show _ = headO ws by unfold headO; rw [if_neg h, if_neg (by rw [h2]; decide), if_neg (by rw [h3]; decide)]; rfl))
end
end Toy

namespace Toy
open PySem PyProof.Rows L2 Pf
section
variable {P : Program} {w : World} {K : PySem.W.Frag} {mg : Str → Option Value} {base : Heap}
def ascB (zs : List Str) : Bool := (zs.zip (zs.drop 1)).all fun p => decide (p.1.cps.toList < p.2.cps.toList)
theorem fst_map {α β : Type} (xs : List α) (f : α → D) (g : α → β) : (xs.map fun x => (f x, g x)).map (·.1) = xs.map f := by rw [List.map_map]; rfl
theorem cut_one {α : Type} (xs : List α) : cut xs (some 1) none = xs.drop 1 := by
  by_cases h : 1 ≤ xs.length
  · exact cut_drop xs 1 h
  · have : xs = [] := List.length_eq_zero_iff.mp (by omega)
    subst this; rfl
abbrev sAs : Stmt := top 11
theorem scAs : FnScope ["names", "first", "second"] ["names"] (defScope sAs) := ⟨rfl, rfl, rfl, by decide +kernel, rfl, by decide +kernel, by decide +kernel⟩
def gAsL : List D → (D → Prop) → Prop := fun ds P => ∃ zs : List Str, ds = [.lst (zs.map D.str)] ∧ zs.length ≤ 100 ∧ P = fun r => r = .bl (ascB zs)
theorem ok_asL {f : Addr} {fd : FuncData} (F : Fun K "is_ascending" "is_ascending" sAs f fd) (T : Bt mg) : FnOk P w K mg base CX0 1 f fd ["names"] (spP K 1 gAsL) := by
  refine fn_pure F scAs (by rintro ds Pd ⟨_, rfl, _⟩; rfl) fun cdv A outer s H E ds Pd hr hG => ?_
  obtain ⟨zs, rfl, hl, rfl⟩ := hG
  have nd := scAs.nd
  refine jss_cons (js_ret (jb_all T (bs := (zs.zip (zs.drop 1)).map fun p => decide (p.1.cps.toList < p.2.cps.toList)) (ja_cons (J.to (j_lc (own := [("first", 1), ("second", 2)]) (pat := .tp [1, 2]) (its := (zs.zip (zs.drop 1)).map fun p => (D.tup [.str p.1, .str p.2], some (D.bl (decide (p.1.cps.toList < p.2.cps.toList))))) ?_ (blkOk_by (N := ["names", "first", "second"]) (sc := defScope sAs) (by decide +kernel)) (fun _ _ _ _ _ => pg_tup rfl (pgs_cons (pg_name nd rfl (Or.inl rfl)) (pgs_cons (pg_name nd rfl (Or.inl rfl)) pgs_nil))) (by decide) (by rw [List.length_map, List.length_zip]; exact lt_size (by omega)) (fun q hq => ?_) nd) ?_) ja_nil)) ?_)
  · rw [fst_map]
    have e : (((zs.map D.str).zip ((zs.drop 1).map D.str)).map fun p => D.tup [p.1, p.2]) = (zs.zip (zs.drop 1)).map fun p => D.tup [.str p.1, .str p.2] := by
      rw [List.zip_map, List.map_map]; rfl
    rw [← e]
    exact ji_zipL T.zip (jv 0 rfl) (J.to (j_sl (jv 0 rfl) (jo_some j_int) jo_none sld_L) (by rw [cut_map, cut_one]))
  · obtain ⟨x, hx, rfl⟩ := List.mem_map.mp hq
    exact ⟨_, rfl, fun _ _ _ _ _ => ⟨jts_nil, j_cm (jv 1 rfl) (jv 2 rfl) cd_ltS⟩⟩
  · rw [List.filterMap_map, List.map_map]
    exact congrArg D.lst (List.filterMap_eq_map.symm ▸ rfl)
  · show D.bl _ = D.bl (ascB zs)
    unfold ascB
    rw [List.all_map]; rfl

def splC (z : Str) : List Str := Txt.split z ","
def dBad (e : Option Nat) (z : Str) (m : Nat) : Bool := !decide (z = "never") && (match e with
  | none => true
  | some n => decide (n ≤ m))
def namesBad (zs : List Str) : Bool := decide (8 < zs.length) || (!(zs.map isNm).all id || !ascB zs)
def decO (ws : List Str) (m : Nat) : Option (List D) :=
  if ws = [("let" : Str)] ∨ ws = [("back" : Str)] then some [.tup [], .int (m : Nat), .bl (decide (ws = [("back" : Str)]))] else
  if ¬ ws.length = 3 ∨ ¬ ws.getD 0 "" = "refused" then none else
  if dBad (numW (ws.getD 1 "") 12) (ws.getD 1 "") m = true then none else
  if namesBad (splC (ws.getD 2 "")) = true then none else some [.tup ((splC (ws.getD 2 "")).map D.str), optN (numW (ws.getD 1 "") 12), .bl false]
def optT (o : Option (List D)) : D := match o with
  | none => .non
  | some ds => .tup ds
theorem fit_strs : ∀ {n : Nat} {zs : List Str}, (∀ z ∈ zs, PySem.PyData.strOk z = true) → fitAllD n (zs.map D.str) = true
  | n, [], _ => by cases n <;> rfl
  | n, z :: zs, h => by
    have h1 := h z List.mem_cons_self
    have ih := fit_strs (n := n) (zs := zs) fun z q => h z (List.mem_cons_of_mem _ q)
    rw [List.map_cons]
    show (fitD n (.str z) && fitAllD n (zs.map D.str)) = true
    rw [ih, Bool.and_true]
    cases n <;> exact h1
theorem eqv_strs : ∀ xs ys : List Str, eqvAllD (xs.map D.str) (ys.map D.str) = decide (xs = ys)
  | [], [] => rfl
  | [], y :: ys => by rw [decide_eq_false (by simp)]; rfl
  | x :: xs, [] => by rw [decide_eq_false (by simp)]; rfl
  | x :: xs, y :: ys => by
    rw [List.map_cons, List.map_cons]
    show ((x == y) && eqvAllD (xs.map D.str) (ys.map D.str)) = _
    rw [eqv_strs xs ys, Bool.eq_iff_iff, Bool.and_eq_true, decide_eq_true_iff, decide_eq_true_iff, beq_iff_eq, List.cons.injEq]
theorem cd_words {X : Cx} {ws : List Str} {z : Str} (hu : X.A.units + 64 < cLine) (h : OkWs ws) (hz : PySem.PyData.strOk z = true) : CmD X .Eq (.lst (ws.map D.str)) (.lst [.str z]) (decide (ws = [z])) := by
  have := cd_eqF (X := X) (d := .lst (ws.map D.str)) (e := .lst ([z].map D.str)) 2 hu (fit_strs h.ok) (fit_strs (by intro y q; rw [List.mem_singleton.mp q]; exact hz))
  rw [show eqvD (.lst (ws.map D.str)) (.lst ([z].map D.str)) = eqvAllD (ws.map D.str) ([z].map D.str) from rfl, eqv_strs] at this
  exact this
abbrev nRd : List Str := ["words", "moment", "earliest", "names", "name"]
abbrev sRd : Stmt := top 35
theorem scRd : FnScope nRd ["words", "moment"] (defScope sRd) := ⟨rfl, rfl, rfl, by decide +kernel, rfl, by decide +kernel, by decide +kernel⟩
def gRd : List D → (D → Prop) → Prop := fun ds P => ∃ (ws : List Str) (m : Nat), ds = [.lst (ws.map D.str), .int (m : Nat)] ∧ OkWs ws ∧ P = fun d => d = optT (decO ws m)
theorem ok_rd {f : Addr} {fd : FuncData} (F : Fun K "read_decision" "read_decision" sRd f fd) (T : Bt mg) (N : Gn mg) (cN : PFn P w K mg base 1 "parse_number" 2 gNum) (cI : PFn P w K mg base 1 "is_name" 1 gName) (cA : PFn P w K mg base 1 "is_ascending" 1 gAsL) : FnOk P w K mg base CX0 2 f fd ["words", "moment"] (spP K 2 gRd) := by
  refine fn_pure F scRd (by rintro ds Pd ⟨_, _, rfl, _⟩; rfl) fun cdv A outer s H E ds Pd hr hG => ?_
  obtain ⟨ws, m, rfl, hw, rfl⟩ := hG
  have nd := scRd.nd
  have hu : _ + 64 < cLine := hr.units
  have lenW : lenD (.lst (ws.map D.str)) = some ws.length := by show some _ = _; rw [List.length_map]
  have jL : ∀ {z : Str}, True := fun {_} => trivial
  refine jss_cons (js_if (t := decide (ws = [("let" : Str)]) || decide (ws = [("back" : Str)])) (jt_w (jw_or (jt_cm (jv 0 rfl) (j_lst (ja_cons j_str ja_nil)) (cd_words (z := "let") hr.units hw (by decide +kernel))) (fun _ => jw_or1 (jt_cm (jv 0 rfl) (j_lst (ja_cons j_str ja_nil)) (cd_words (z := "back") hr.units hw (by decide +kernel)))))) (fun h => ?_) (fun h => jss_nil ?_))
  · have h' : ws = [("let" : Str)] ∨ ws = [("back" : Str)] := by rw [Bool.or_eq_true, decide_eq_true_iff, decide_eq_true_iff] at h; exact h
    exact jss_cons (js_ret (j_tup (ja_cons (j_tup ja_nil) (ja_cons (jv 1 rfl) (ja_cons (j_cm (jv 0 rfl) (j_lst (ja_cons j_str ja_nil)) (cd_words (z := "back") hr.units hw (by decide +kernel))) ja_nil)))) (show _ = optT (decO ws m) by unfold decO; rw [if_pos h']; rfl))
  have h' : ¬ (ws = [("let" : Str)] ∨ ws = [("back" : Str)]) := by rw [Bool.or_eq_false_iff, decide_eq_false_iff_not, decide_eq_false_iff_not] at h; rintro (q | q); exact h.1 q; exact h.2 q
  refine jss_cons (js_if (t := !decide (ws.length = 3) || !decide (ws.getD 0 "" = "refused")) (JT.to (jt_w (jw_or (jt_cm (jb_len T (ja_cons (jv 0 rfl) ja_nil) lenW) j_int cd_neI) (fun q => jw_or1 (jt_cm (j_ix (jv 0 rfl) j_int (ixd_L (strs_at (by decide) ?_))) j_str cd_neS)))) ?_) (fun h2 => ?_) (fun h2 => jss_nil ?_))
  · rw [Bool.not_eq_false', decide_eq_true_iff] at q
    omega
  · refine congrArg (fun b => !b || !decide (ws.getD 0 "" = "refused")) (decide_eq_decide.mpr ⟨fun q => by omega, fun q => by omega⟩)
  · have h2' : ¬ ws.length = 3 ∨ ¬ ws.getD 0 "" = "refused" := by rw [Bool.or_eq_true, Bool.not_eq_true', Bool.not_eq_true', decide_eq_false_iff_not, decide_eq_false_iff_not] at h2; exact h2
    exact jss_cons (js_ret j_non (show D.non = optT (decO ws m) by unfold decO; rw [if_neg h', if_pos h2']; rfl))
  have h2' : ¬ (¬ ws.length = 3 ∨ ¬ ws.getD 0 "" = "refused") := by
    rw [Bool.or_eq_false_iff, Bool.not_eq_false', Bool.not_eq_false', decide_eq_true_iff, decide_eq_true_iff] at h2
    rintro (q | q)
    · exact q h2.1
    · exact q h2.2
  have h3 : ws.length = 3 := by
    rw [Bool.or_eq_false_iff, Bool.not_eq_false', decide_eq_true_iff] at h2
    exact h2.1
  refine jss_cons (js_set (i := 2) (J.to (j_call cN hr (ja_cons (j_ix (jv 0 rfl) j_int (ixd_L (strs_at (by decide) (by omega)))) (ja_cons (j_gI N.n12) ja_nil)) ⟨_, 12, rfl, Nat.le_trans (hw.at _) (by decide), by decide, rfl⟩ (fun _ h => h)) (d' := optN (numW (ws.getD 1 "") 12)) rfl) ?_ nd)
  generalize he : numW (ws.getD 1 "") 12 = e
  refine jss_cons (js_if (t := dBad e (ws.getD 1 "") m) (jt_w (jw_and (jt_cm (j_ix (jv 0 rfl) j_int (ixd_L (strs_at (by decide) (by omega)))) (j_gS N.never) cd_neS) (fun _ => jw_and1 ?_))) (fun h4 => ?_) (fun h4 => jss_nil ?_))
  · cases e with
    | none => exact jt_w (jw_orT (JT.to (jt_cm (jv 2 rfl) j_non cd_isN) rfl))
    | some n => exact JT.to (jt_w (jw_or (t := false) (JT.to (jt_cm (jv 2 rfl) j_non cd_isN) rfl) (fun _ => jw_or1 (jt_cm (jv 2 rfl) (jv 1 rfl) cd_leI)))) (decide_eq_decide.mpr ⟨fun q => by omega, fun q => by omega⟩)
  · exact jss_cons (js_ret j_non (show D.non = optT (decO ws m) by unfold decO; rw [if_neg h', if_neg h2', he, if_pos h4]; rfl))
  have hz := hw.at 2
  have hsl : (splC (ws.getD 2 "")).length ≤ 1002 := by have := PyProof.Rows.split_le (ws.getD 2 "") ","; unfold splC; omega
  have hsi : ∀ z ∈ splC (ws.getD 2 ""), z.length ≤ 1000 := fun z q => Nat.le_trans (split_in q) hz
  refine jss_cons (js_set (i := 3) (J.to (j_split (j_ix (jv 0 rfl) j_int (ixd_L (strs_at (by decide) (by omega)))) (ja_cons j_str ja_nil) (by decide +kernel) (le_size (by have := hw.at (2 : Int).toNat; omega))) (d' := .lst ((splC (ws.getD 2 "")).map D.str)) rfl) ?_ nd)
  have ed : decO ws m = if namesBad (splC (ws.getD 2 "")) = true then none else some [.tup ((splC (ws.getD 2 "")).map D.str), optN e, .bl false] := by
    unfold decO
    rw [if_neg h', if_neg h2', he, if_neg (by rw [h4]; decide)]
  rw [ed]
  generalize splC (ws.getD 2 "") = zs at hsl hsi
  have lenZ : lenD (.lst (zs.map D.str)) = some zs.length := by show some _ = _; rw [List.length_map]
  refine jss_cons (js_if (t := namesBad zs) (JT.to (jt_w (jw_or (jt_cm (jb_len T (ja_cons (jv 3 rfl) ja_nil) lenZ) (j_gI N.n8) cd_gtI) (fun q => jw_or (jt_not (jt_val (jb_all T (bs := zs.map isNm) (ja_cons (J.to (j_lcM (own := [("name", 4)]) (i := 4) zs D.str (fun z => D.bl (isNm z)) (ji_list (jv 3 rfl)) (blkOk_by (N := nRd) (sc := defScope sRd) (by decide +kernel)) (fun _ _ _ _ _ => pg_name nd rfl (Or.inl rfl)) (lt_size (by omega)) (fun z hm s H C cl fp => j_call cI hr (ja_cons (jv 4 rfl) ja_nil) ⟨.str z, rfl, decide_eq_true (Nat.le_trans (hsi z hm) (by decide)), rfl⟩ (fun _ h => h)) nd) (by rw [List.map_map]; rfl)) ja_nil)))) (fun _ => jw_or1 (jt_not (jt_val (j_call cA hr (ja_cons (jv 3 rfl) ja_nil) ⟨zs, rfl, ?_, rfl⟩ (fun _ h => h)))))))) ?_) (fun h5 => ?_) (fun h5 => jss_nil ?_))
  · have := of_decide_eq_false q
    omega
  · unfold namesBad
    refine congrArg (fun b => b || (!(zs.map isNm).all id || !ascB zs)) (decide_eq_decide.mpr ⟨fun q => by omega, fun q => by omega⟩)
  · exact jss_cons (js_ret j_non (show D.non = optT _ by rw [if_pos h5]; rfl))
  exact jss_cons (js_ret (j_tup (ja_cons (jb_tupleL T (ja_cons (jv 3 rfl) ja_nil)) (ja_cons (jv 2 rfl) (ja_cons j_bl ja_nil)))) (show _ = optT _ by rw [if_neg (by rw [h5]; decide)]; rfl))
end
end Toy

namespace Toy
open PySem PyProof.Rows L2 Pf
def rowOk (k g c t : Str) : Bool := (isKy k && (isNm g && inD 1 1000 (optN (numW c 4)))) && inD 0 1000000000 (optN (numW t 10))
def rowO : List Str → Option (List D)
  | k :: g :: c :: t :: d :: r => if rowOk k g c t = true then (match decO (d :: r) ((numW t 10).getD 0) with
    | none => none
    | some ds => some ([.str k, .str g, optN (numW c 4), optN (numW t 10)] ++ ds)) else none
  | _ => none
theorem rowO_short : ∀ {ws : List Str}, ws.length < 5 → rowO ws = none
  | [], _ => rfl
  | [_], _ => rfl
  | [_, _], _ => rfl
  | [_, _, _], _ => rfl
  | [_, _, _, _], _ => rfl
  | _ :: _ :: _ :: _ :: _ :: r, h => by simp only [List.length_cons] at h; omega
theorem five_of : ∀ {ws : List Str}, ¬ ws.length < 5 → ∃ k g c t d r, ws = k :: g :: c :: t :: d :: r
  | [], h => absurd (by decide) h
  | [_], h => absurd (by simp) h
  | [_, _], h => absurd (by simp) h
  | [_, _, _], h => absurd (by simp) h
  | [_, _, _, _], h => absurd (by simp) h
  | k :: g :: c :: t :: d :: r, _ => ⟨k, g, c, t, d, r, rfl⟩
theorem decO_len {ws : List Str} {m : Nat} {ds : List D} (h : decO ws m = some ds) : ds.length = 3 := by
  unfold decO at h
  split at h
  · cases h; rfl
  · split at h
    · cases h
    · split at h
      · cases h
      · split at h
        · cases h
        · cases h; rfl
theorem strOk_iff (z : Str) : PySem.PyData.strOk z = true ↔ ∀ c ∈ z.cps.toList, c < 0x110000 := by
  unfold PySem.PyData.strOk
  rw [← Array.all_toList, List.all_eq_true]
  exact ⟨fun h c hc => of_decide_eq_true (h c hc), fun h c hc => decide_eq_true (h c hc)⟩
theorem mem_join_of {c : Nat} {y p : Str} : ∀ {xs : List Str}, p ∈ xs → c ∈ p.cps.toList → c ∈ (Txt.join y xs).cps.toList
  | [], h, _ => by cases h
  | [a], h, hc => by
    rw [List.mem_singleton] at h; subst h
    rw [TL.join_eq]; exact hc
  | a :: b :: r, h, hc => by
    have e : Txt.join y (a :: b :: r) = a ++ y ++ Txt.join y (b :: r) := by rw [TL.join_eq, TL.join_eq]; rfl
    have ap : ∀ u v : Str, (u ++ v).cps.toList = u.cps.toList ++ v.cps.toList := fun u v => TL.tl_append u v
    rw [e, ap, ap]
    rcases List.mem_cons.mp h with rfl | h
    · exact List.mem_append_left _ (List.mem_append_left _ hc)
    · exact List.mem_append_right _ (mem_join_of h hc)
theorem part_sign {x y p : Str} {c : Nat} (hp : p ∈ Txt.split x y) (hc : c ∈ p.cps.toList) : c ∈ x.cps.toList := by
  have q := mem_join_of (y := y) hp hc
  rw [TL.join_eq, PySem.StrLaws.join_split] at q
  exact q
theorem ws_of {z : Str} (hz : z.length ≤ 900) (ho : PySem.PyData.strOk z = true) : OkWs (Txt.split z " ") where
  len := fun w h => Nat.le_trans (split_in h) (by omega)
  ok := fun w h => (strOk_iff w).mpr fun c hc => (strOk_iff z).mp ho c (part_sign h hc)
  few := by have := PyProof.Rows.split_le z " "; omega
def toldO (w : Str) (r : List Str) (z : Str) : D := if w = "view" then viewO r else if w = "keep" then headO r else if w = "key" then optT (rowO r) else entO (parE z)
def kindO (w : Str) : Str := if w = "view" then w else if w = "keep" then w else if w = "key" then w else "entry"
def bodyO (z : Str) : D := match Txt.split z " " with
  | [] => .non
  | w :: r => if isNon (toldO w r z) = true then .non else .tup [.str (kindO w), toldO w r z]
section
variable {P : Program} {w : World} {K : PySem.W.Frag} {mg : Str → Option Value} {base : Heap}
abbrev sRr : Stmt := top 36
theorem scRr : FnScope ["words", "key", "group", "cost", "moment", "decision"] ["words"] (defScope sRr) := ⟨rfl, rfl, rfl, by decide +kernel, rfl, by decide +kernel, by decide +kernel⟩
def gRr : List D → (D → Prop) → Prop := fun ds P => ∃ ws : List Str, ds = [.lst (ws.map D.str)] ∧ OkWs ws ∧ P = fun d => d = optT (rowO ws)
theorem ok_rr {f : Addr} {fd : FuncData} (F : Fun K "read_row" "read_row" sRr f fd) (T : Bt mg) (N : Gn mg) (G : Gd mg) (cN : PFn P w K mg base 1 "parse_number" 2 gNum) (cQ : PFn P w K mg base 2 "is_request" 3 gRq) (cM : PFn P w K mg base 2 "is_moment" 1 gMo) (cD : PFn P w K mg base 2 "read_decision" 2 gRd) : FnOk P w K mg base CX0 3 f fd ["words"] (spP K 1 gRr) := by
  refine fn_pure F scRr (by rintro ds Pd ⟨_, rfl, _⟩; rfl) fun cdv A outer s H E ds Pd hr hG => ?_
  obtain ⟨ws, rfl, hw, rfl⟩ := hG
  have nd := scRr.nd
  have lenW : lenD (.lst (ws.map D.str)) = some ws.length := by show some _ = _; rw [List.length_map]
  refine jss_cons (js_if (t := decide (ws.length < 5)) (JT.to (jt_cm (jb_len T (ja_cons (jv 0 rfl) ja_nil) lenW) j_int cd_ltI) (decide_eq_decide.mpr ⟨fun q => by omega, fun q => by omega⟩)) (fun h => ?_) (fun h => jss_nil ?_))
  · have h := of_decide_eq_true h
    exact jss_cons (js_ret j_non (show D.non = optT (rowO ws) by rw [rowO_short h]; rfl))
  have h := of_decide_eq_false h
  obtain ⟨k, g, c, t, d, r, rfl⟩ := five_of h
  have hl : 5 ≤ (k :: g :: c :: t :: d :: r).length := by omega
  have hk : prt (.str k) = true := decide_eq_true (Nat.le_trans (hw.len k (by simp)) (by decide))
  have hg : prt (.str g) = true := decide_eq_true (Nat.le_trans (hw.len g (by simp)) (by decide))
  refine jss_cons (js_patL (is := [1, 2]) (ds := [.str k, .str g]) (J.to (j_sl (jv 0 rfl) jo_none (jo_some j_int) sld_L) (congrArg D.lst ?_)) rfl ?_ (pg_lst rfl (pgs_cons (pg_name nd rfl (Or.inl rfl)) (pgs_cons (pg_name nd rfl (Or.inl rfl)) pgs_nil))))
  · rw [show (2 : Int) = ((2 : Nat) : Int) from rfl, cut_map, cut_take _ 2 (by omega)]
    rfl
  refine jss_cons (js_set (i := 3) (J.to (j_call cN hr (ja_cons (j_ix (jv 0 rfl) j_int (ixd_L (strs_at (by decide) (by omega)))) (ja_cons (j_gI N.n4) ja_nil)) ⟨_, 4, rfl, Nat.le_trans (hw.at _) (by decide), by decide, rfl⟩ (fun _ h => h)) (d' := optN (numW c 4)) rfl) ?_ nd)
  refine jss_cons (js_set (i := 4) (J.to (j_call cN hr (ja_cons (j_ix (jv 0 rfl) j_int (ixd_L (strs_at (by decide) (by omega)))) (ja_cons (j_gI G.n10) ja_nil)) ⟨_, 10, rfl, Nat.le_trans (hw.at _) (by decide), by decide, rfl⟩ (fun _ h => h)) (d' := optN (numW t 10)) rfl) ?_ nd)
  refine jss_cons (js_if (t := !rowOk k g c t) (JT.to (jt_w (jw_or (jt_not (jt_val (j_call cQ hr (ja_cons (jv 1 rfl) (ja_cons (jv 2 rfl) (ja_cons (jv 3 rfl) ja_nil))) ⟨.str k, .str g, _, rfl, hk, hg, optN_prt _, rfl⟩ (fun _ h => h)))) (fun _ => jw_or1 (jt_not (jt_val (j_call cM hr (ja_cons (jv 4 rfl) ja_nil) ⟨_, rfl, optN_prt _, rfl⟩ (fun _ h => h))))))) (Bool.not_and _ _).symm) (fun h2 => ?_) (fun h2 => jss_nil ?_))
  · rw [Bool.not_eq_true'] at h2
    exact jss_cons (js_ret j_non (show D.non = optT (rowO (k :: g :: c :: t :: d :: r)) by rw [rowO, if_neg (by rw [h2]; decide)]; rfl))
  rw [Bool.not_eq_false'] at h2
  have hm : inD 0 1000000000 (optN (numW t 10)) = true := by unfold rowOk at h2; rw [Bool.and_eq_true] at h2; exact h2.2
  have er : rowO (k :: g :: c :: t :: d :: r) = (match decO (d :: r) ((numW t 10).getD 0) with
    | none => none
    | some ds => some ([.str k, .str g, optN (numW c 4), optN (numW t 10)] ++ ds)) := by rw [rowO, if_pos h2]
  rw [er]
  obtain ⟨n, hn⟩ : ∃ n, numW t 10 = some n := by
    cases q : numW t 10 with
    | none => rw [q] at hm; cases hm
    | some n => exact ⟨n, rfl⟩
  rw [hn]
  refine jss_cons (js_set (i := 5) (j_call cD hr (ja_cons (J.to (j_sl (jv 0 rfl) (jo_some j_int) jo_none sld_L) (congrArg D.lst (strs_drop 4 (by omega)))) (ja_cons (J.to (jv 4 rfl) (d' := .int (n : Nat)) rfl) ja_nil)) ⟨d :: r, n, rfl, hw.drop 4, rfl⟩ (fun _ h => h)) ?_ nd)
  show JSs _ [] _ _ (fin fun x => x = optT (match decO (d :: r) n with
    | none => none
    | some ds => some ([.str k, .str g, optN (numW c 4), optN (some n)] ++ ds)))
  cases q : decO (d :: r) n with
  | none => exact jss_cons (js_ret (j_ifT (JT.to (jt_cm (jv 5 rfl) j_non cd_isN) rfl) j_non) rfl)
  | some ds =>
    have h3 := decO_len q
    exact jss_cons (js_ret (j_ifF (JT.to (jt_cm (jv 5 rfl) j_non cd_isN) rfl) (j_bin (j_tup (ja_cons (jv 1 rfl) (ja_cons (jv 2 rfl) (ja_cons (jv 3 rfl) (ja_cons (jv 4 rfl) ja_nil))))) (J.to (jv 5 rfl) (d' := .tup ds) rfl) (od_addT (by rw [h3]; exact le_size (by simp only [List.length_cons, List.length_nil]; omega))))) rfl)
abbrev sRb : Stmt := top 37
theorem scRb : FnScope ["body", "words", "word", "told"] ["body"] (defScope sRb) := ⟨rfl, rfl, rfl, by decide +kernel, rfl, by decide +kernel, by decide +kernel⟩
def gRb : List D → (D → Prop) → Prop := fun ds P => ∃ z : Str, ds = [.str z] ∧ z.length ≤ 900 ∧ PySem.PyData.strOk z = true ∧ P = fun d => d = bodyO z
theorem ok_rb {f : Addr} {fd : FuncData} (F : Fun K "read_body" "read_body" sRb f fd) (cV : PFn P w K mg base 4 "read_view" 1 gRv) (cH : PFn P w K mg base 5 "read_head" 1 gRh) (cR : PFn P w K mg base 3 "read_row" 1 gRr) (cE : PFn P w K mg base 4 "parse_entry" 1 gPe) : FnOk P w K mg base CX0 6 f fd ["body"] (spP K 1 gRb) := by
  refine fn_pure F scRb (by rintro ds Pd ⟨_, rfl, _⟩; rfl) fun cdv A outer s H E ds Pd hr hG => ?_
  obtain ⟨z, rfl, hz, ho, rfl⟩ := hG
  have nd := scRb.nd
  refine jss_cons (js_set (i := 1) (j_split (jv 0 rfl) (ja_cons j_str ja_nil) spc.1 (le_size (by omega))) ?_ nd)
  have hw := ws_of hz ho
  have hne : Txt.split z " " ≠ [] := split_ne spc.2.2.1
  unfold bodyO
  show JSs _ [] _ [some (.fz (.str z)), some (.fz (.lst ((Txt.split z " ").map D.str))), none, none] _
  generalize Txt.split z " " = ws at hne hw
  cases ws with
  | nil => exact absurd rfl hne
  | cons x r =>
    have e1 : cut ((x :: r).map D.str) (some (1 : Int)) none = r.map D.str := strs_drop (ws := x :: r) 1 (by simp)
    have hd : OkWs r := hw.drop 1
    refine jss_cons (js_set (i := 2) (J.to (j_ix (jv 1 rfl) j_int (ixd_L (strs_at (by decide) (by simp)))) (d' := .str x) rfl) ?_ nd)
    refine jss_mid (fun ρ => ρ = [some (.fz (.str z)), some (.fz (.lst ((x :: r).map D.str))), some (.fz (.str (kindO x))), some (.fz (toldO x r z))]) (js_if (t := decide (x = "view")) (jt_cm (jv 2 rfl) j_str cd_eqS) (fun h => ?_) (fun h => jss_cons (js_if (t := decide (x = "keep")) (jt_cm (jv 2 rfl) j_str cd_eqS) (fun h2 => ?_) (fun h2 => jss_cons (js_if (t := decide (x = "key")) (jt_cm (jv 2 rfl) j_str cd_eqS) (fun h3 => ?_) (fun h3 => ?_)))))) ?_
    · have h := of_decide_eq_true h
      refine jss_cons (js_set (i := 3) (j_call cV hr (ja_cons (J.to (j_sl (jv 1 rfl) (jo_some j_int) jo_none sld_L) (congrArg D.lst e1)) ja_nil) ⟨r, rfl, hd, rfl⟩ (fun _ h => h)) ?_ nd)
      exact jss_nil ⟨_, rfl, by unfold toldO kindO; rw [if_pos h, if_pos h]; rfl⟩
    · have h := of_decide_eq_false h
      have h2 := of_decide_eq_true h2
      refine jss_cons (js_set (i := 3) (j_call cH hr (ja_cons (J.to (j_sl (jv 1 rfl) (jo_some j_int) jo_none sld_L) (congrArg D.lst e1)) ja_nil) ⟨r, rfl, hd, rfl⟩ (fun _ h => h)) ?_ nd)
      exact jss_nil (jss_nil ⟨_, rfl, by unfold toldO kindO; rw [if_neg h, if_pos h2, if_neg h, if_pos h2]; rfl⟩)
    · have h := of_decide_eq_false h
      have h2 := of_decide_eq_false h2
      have h3 := of_decide_eq_true h3
      refine jss_cons (js_set (i := 3) (j_call cR hr (ja_cons (J.to (j_sl (jv 1 rfl) (jo_some j_int) jo_none sld_L) (congrArg D.lst e1)) ja_nil) ⟨r, rfl, hd, rfl⟩ (fun _ h => h)) ?_ nd)
      exact jss_nil (jss_nil (jss_nil ⟨_, rfl, by unfold toldO kindO; rw [if_neg h, if_neg h2, if_pos h3, if_neg h, if_neg h2, if_pos h3]; rfl⟩))
    · have h := of_decide_eq_false h
      have h2 := of_decide_eq_false h2
      have h3 := of_decide_eq_false h3
      refine jss_cons (js_par (i := 2) (j := 3) (ja_cons j_str (ja_cons (j_call cE hr (ja_cons (jv 0 rfl) ja_nil) ⟨z, rfl, by omega, rfl⟩ (fun _ h => h)) ja_nil)) ?_ nd (by rfl))
      exact jss_nil (jss_nil (jss_nil ⟨_, rfl, by unfold toldO kindO; rw [if_neg h, if_neg h2, if_neg h3, if_neg h, if_neg h2, if_neg h3]; rfl⟩))
    rintro _ rfl
    exact jss_cons (js_ret (j_ifExp (t := isNon (toldO x r z)) (JT.to (jt_cm (jv 3 rfl) j_non cd_isN) rfl) (fun _ => j_non) (fun _ => j_tup (ja_cons (jv 2 rfl) (ja_cons (jv 3 rfl) ja_nil)))) rfl)
end
end Toy

namespace Toy
open PySem PyProof.Rows L2 Pf
structure Row where
  key : Str
  grp : Str
  cost : Nat
  mom : Nat
  lack : List Str
  ear : Option Nat
  rel : Bool
def rowD (r : Row) : D := .tup [.str r.key, .str r.grp, .int (r.cost : Int), .int (r.mom : Int), .tup (r.lack.map D.str), optN r.ear, .bl r.rel]
def tailR (r : Row) : List Str := if r.lack.isEmpty = true then [if r.rel = true then ("back" : Str) else "let"] else [("refused" : Str), wordF r.ear "never", Txt.join "," r.lack]
def rwords (r : Row) : List Str := [("key" : Str), r.key, r.grp, numT r.cost, numT r.mom] ++ tailR r
def rbody (r : Row) : Str := Txt.join " " (rwords r)
structure OkRow (r : Row) : Prop where
  key : isKy r.key = true
  grp : isNm r.grp = true
  cost : 1 ≤ r.cost ∧ r.cost ≤ 1000
  mom : r.mom ≤ 1000000000
  nms : ∀ z ∈ r.lack, isNm z = true
  few : r.lack.length ≤ 8
  ear : ∀ n, r.ear = some n → n < 1000000000000
theorem OkRow.lackL {r : Row} (h : OkRow r) : (r.lack.map (·.length)).sum + r.lack.length * ("," : Str).length ≤ 104 := by
  have h1 := sum_le (xs := r.lack) (m := 12) fun z q => nm_len (h.nms z q)
  have h2 := h.few
  rw [show ("," : Str).length = 1 from by decide +kernel]
  omega
theorem join_le {y : Str} {xs : List Str} {m : Nat} (h : (xs.map (·.length)).sum + xs.length * y.length ≤ m) : (Txt.join y xs).length ≤ m := Nat.le_trans (join_len y xs) h
theorem OkRow.words {r : Row} (h : OkRow r) : (∀ x ∈ rwords r, x.length ≤ 104) ∧ (rwords r).length ≤ 8 := by
  have hl := join_le h.lackL
  have h1 := ky_len h.key
  have h2 := nm_len h.grp
  have h3 := numT_len (n := r.cost) (by have := h.cost.2; omega)
  have h4 := numT_len (n := r.mom) (by have := h.mom; omega)
  have h5 := wordF_len (o := r.ear) (z := "never") (fun n e => Nat.lt_trans (h.ear n e) (by decide)) (by decide +kernel)
  unfold rwords tailR
  split
  · refine ⟨fun x hx => ?_, by simp⟩
    simp only [List.mem_append, List.mem_cons, List.not_mem_nil, or_false] at hx
    rcases hx with (hx | hx | hx | hx | hx) | hx <;> rw [hx]
    · decide +kernel
    · omega
    · omega
    · omega
    · omega
    · split <;> decide +kernel
  · refine ⟨fun x hx => ?_, by simp⟩
    simp only [List.mem_append, List.mem_cons, List.not_mem_nil, or_false] at hx
    rcases hx with (hx | hx | hx | hx | hx) | hx | hx | hx <;> rw [hx]
    · decide +kernel
    · omega
    · omega
    · omega
    · omega
    · decide +kernel
    · omega
    · exact hl
def hwords (a b : Nat) (m : Option Nat) (v : Option View) : List Str := [("keep" : Str), numT a, numT b, wordF m "none"] ++ (match v with
  | none => []
  | some v => vwords v)
def hbody (a b : Nat) (m : Option Nat) (v : Option View) : Str := Txt.join " " (hwords a b m v)
def viewN (v : Option View) : D := match v with
  | none => .non
  | some v => viewD v
structure OkH (a b : Nat) (m : Option Nat) (v : Option View) : Prop where
  a : a < 1000000
  b : b < 1000000
  m : ∀ n, m = some n → n ≤ 1000000000
  v : ∀ x, v = some x → OkV x
theorem OkH.words {a b : Nat} {m : Option Nat} {v : Option View} (h : OkH a b m v) : (∀ x ∈ hwords a b m v, x.length ≤ 20) ∧ (hwords a b m v).length ≤ 26 := by
  have h3 := numT_len (n := a) (by have := h.a; omega)
  have h4 := numT_len (n := b) (by have := h.b; omega)
  have h5 := wordF_len (o := m) (z := "none") (fun n e => by have := h.m n e; omega) (by decide +kernel)
  have hk : ∀ x ∈ ([("keep" : Str), numT a, numT b, wordF m "none"] : List Str), x.length ≤ 20 := by
    intro x hx
    simp only [List.mem_cons, List.not_mem_nil, or_false] at hx
    rcases hx with hx | hx | hx | hx <;> rw [hx]
    · decide +kernel
    · exact h3
    · exact h4
    · exact h5
  unfold hwords
  cases v with
  | none => exact ⟨fun x hx => by rw [List.append_nil] at hx; exact hk x hx, by simp⟩
  | some v =>
    obtain ⟨k1, k2⟩ := (h.v v rfl).words
    refine ⟨fun x hx => ?_, by simp; omega⟩
    rcases List.mem_append.mp hx with hx | hx
    · exact hk x hx
    · exact k1 x hx
section
variable {P : Program} {w : World} {K : PySem.W.Frag} {mg : Str → Option Value} {base : Heap}
abbrev nRo : List Str := ["row", "key", "group", "cost", "moment", "lacking", "earliest", "is_released", "words"]
abbrev sRo : Stmt := top 29
theorem scRo : FnScope nRo ["row"] (defScope sRo) := ⟨rfl, rfl, rfl, by decide +kernel, rfl, by decide +kernel, by decide +kernel⟩
def gRo : List D → (D → Prop) → Prop := fun ds P => ∃ r : Row, ds = [rowD r] ∧ OkRow r ∧ P = fun d => d = .str (rbody r)
theorem ok_ro {f : Addr} {fd : FuncData} (F : Fun K "row_body" "row_body" sRo f fd) (T : Bt mg) (N : Gn mg) (cW : PFn P w K mg base 1 "word_for" 2 gWf) : FnOk P w K mg base CX0 2 f fd ["row"] (spP K 1 gRo) := by
  refine fn_pure F scRo (by rintro ds Pd ⟨_, rfl, _⟩; rfl) fun cdv A outer s H E ds Pd hr hG => ?_
  obtain ⟨r, rfl, hk, rfl⟩ := hG
  have nd := scRo.nd
  obtain ⟨w1, w2⟩ := hk.words
  have lc := numT_log (n := r.cost) (by have := hk.cost.2; omega)
  have lm := numT_log (n := r.mom) (by have := hk.mom; omega)
  refine jss_cons (js_pat (pat := .tp [1, 2, 3, 4, 5, 6, 7]) (J.to (jv 0 rfl) (d' := .tup [.str r.key, .str r.grp, .int (r.cost : Int), .int (r.mom : Int), .tup (r.lack.map D.str), optN r.ear, .bl r.rel]) rfl) rfl ?_ (pg_tup rfl (pgs_cons (pg_name nd rfl (Or.inl rfl)) (pgs_cons (pg_name nd rfl (Or.inl rfl)) (pgs_cons (pg_name nd rfl (Or.inl rfl)) (pgs_cons (pg_name nd rfl (Or.inl rfl)) (pgs_cons (pg_name nd rfl (Or.inl rfl)) (pgs_cons (pg_name nd rfl (Or.inl rfl)) (pgs_cons (pg_name nd rfl (Or.inl rfl)) pgs_nil)))))))))
  refine jss_cons (js_setN (i := 8) (jn_lst (ja_cons j_str (ja_cons (jv 1 rfl) (ja_cons (jv 2 rfl) (ja_cons (jb_str T (ja_cons (jv 3 rfl) ja_nil) lc) (ja_cons (jb_str T (ja_cons (jv 4 rfl) ja_nil) lm) ja_nil)))))) ?_ nd)
  refine jss_mid (fun ρ => ∃ o0 o1 o2 o3 o4 o5 o6 o7 : Option SV, ρ = [o0, o1, o2, o3, o4, o5, o6, o7, some (.ow (.lst ((rwords r).map D.str)))]) (js_if (t := !r.lack.isEmpty) (jt_truth (jv 5 rfl) (by show some (!(r.lack.map D.str).isEmpty) = _; cases r.lack <;> rfl)) (fun h => ?_) (fun h => ?_)) ?_
  · rw [Bool.not_eq_true'] at h
    refine jss_cons (js_extendL (i := 8) (ds := [.str "key", .str r.key, .str r.grp, .str (numT r.cost), .str (numT r.mom)]) rfl (j_lst (ja_cons j_str (ja_cons (j_call cW hr (ja_cons (jv 6 rfl) (ja_cons (j_gS N.never) ja_nil)) ⟨_, _, rfl, fun n e => Nat.lt_trans (hk.ear n e) (by decide), rfl⟩ (fun _ h => h)) (ja_cons (j_joinT (ys := r.lack) j_str (jv 5 rfl) (Nat.le_trans hk.lackL (by decide)) rfl) ja_nil)))) (by simp only [List.length_cons, List.length_nil]; decide) ?_)
    exact jss_nil ⟨_, rfl, _, _, _, _, _, _, _, _, by unfold rwords tailR; rw [if_neg (by rw [h]; decide)]; rfl⟩
  · rw [Bool.not_eq_false'] at h
    refine jss_cons (js_append (i := 8) (ds := [.str "key", .str r.key, .str r.grp, .str (numT r.cost), .str (numT r.mom)]) rfl (J.to (j_ifExp (jt_val (jv 7 rfl)) (fun _ => j_str) (fun _ => j_str)) (d' := .str (if r.rel = true then "back" else "let")) (by cases r.rel <;> rfl)) (by simp only [List.length_cons, List.length_nil]; decide) ?_)
    exact jss_nil ⟨_, rfl, _, _, _, _, _, _, _, _, by unfold rwords tailR; rw [if_pos h]; rfl⟩
  rintro _ ⟨o0, o1, o2, o3, o4, o5, o6, o7, rfl⟩
  exact jss_cons (js_ret (j_join (ys := rwords r) j_str (jv 8 rfl) (join_words w1 w2 (by decide) (by decide) _ (by decide +kernel)) rfl) rfl)
abbrev nHb : List Str := ["many", "entries", "moment", "view", "words"]
abbrev sHb : Stmt := top 30
theorem scHb : FnScope nHb ["many", "entries", "moment", "view"] (defScope sHb) := ⟨rfl, rfl, rfl, by decide +kernel, rfl, by decide +kernel, by decide +kernel⟩
def gHb : List D → (D → Prop) → Prop := fun ds P => ∃ (a b : Nat) (m : Option Nat) (v : Option View), ds = [.int (a : Nat), .int (b : Nat), optN m, viewN v] ∧ OkH a b m v ∧ P = fun d => d = .str (hbody a b m v)
theorem ok_hb {f : Addr} {fd : FuncData} (F : Fun K "head_body" "head_body" sHb f fd) (T : Bt mg) (N : Gn mg) (cW : PFn P w K mg base 1 "word_for" 2 gWf) (cV : PFn P w K mg base 2 "view_words" 1 gVw) : FnOk P w K mg base CX0 3 f fd ["many", "entries", "moment", "view"] (spP K 4 gHb) := by
  refine fn_pure F scHb (by rintro ds Pd ⟨_, _, _, _, rfl, _⟩; rfl) fun cdv A outer s H E ds Pd hr hG => ?_
  obtain ⟨a, b, m, v, rfl, hk, rfl⟩ := hG
  have nd := scHb.nd
  obtain ⟨w1, w2⟩ := hk.words
  have lc := numT_log (n := a) (by have := hk.a; omega)
  have lm := numT_log (n := b) (by have := hk.b; omega)
  refine jss_cons (js_set (i := 4) (j_lst (ja_cons j_str (ja_cons (jb_str T (ja_cons (jv 0 rfl) ja_nil) lc) (ja_cons (jb_str T (ja_cons (jv 1 rfl) ja_nil) lm) (ja_cons (j_call cW hr (ja_cons (jv 2 rfl) (ja_cons (j_gS N.none') ja_nil)) ⟨_, _, rfl, fun n e => by have := hk.m n e; omega, rfl⟩ (fun _ h => h)) ja_nil))))) ?_ nd)
  refine jss_cons (js_ret (j_join (ys := hwords a b m v) j_str (?_ : J _ _ _ (.lst ((hwords a b m v).map D.str))) (join_words w1 w2 (by decide) (by decide) _ (by decide +kernel)) rfl) rfl)
  cases v with
  | none => exact j_ifT (JT.to (jt_cm (jv 3 rfl) j_non cd_isN) rfl) (jv 4 rfl)
  | some v =>
    obtain ⟨k1, k2⟩ := (hk.v v rfl).words
    exact j_ifF (JT.to (jt_cm (jv 3 rfl) j_non cd_isN) rfl) (j_bin (jv 4 rfl) (j_call cV hr (ja_cons (J.to (jv 3 rfl) (d' := viewD v) rfl) ja_nil) ⟨v, rfl, hk.v v rfl, rfl⟩ (fun _ h => h)) (od_addL (by rw [List.length_map]; exact le_size (by simp only [List.length_cons, List.length_nil]; omega))))
end
end Toy

namespace Toy
open PySem PyProof.Rows L2 Pf
def lettersZ : Str := "abcdefghijklmnopqrstuvwxyz0123456789"
def letN (n : Int) : Nat := lettersZ.cps.toList.getD (n % 36).toNat 97
theorem letters_len : lettersZ.cps.toList.length = 36 := by decide +kernel
theorem letters_sz : lettersZ.length ≤ sizeLine := le_size (by show lettersZ.cps.size ≤ _; rw [← Array.length_toList, letters_len]; decide)
theorem let_sign (n : Int) : nmSign (letN n) = true := by
  have h : ∀ k : Nat, k < 36 → nmSign (lettersZ.cps.toList.getD k 97) = true := by decide +kernel
  exact h (n % 36).toNat (by omega)
theorem let_inj {n m : Int} (h : letN n = letN m) : n % 36 = m % 36 := by
  have k : ∀ i : Nat, i < 36 → ∀ j : Nat, j < 36 → lettersZ.cps.toList.getD i 97 = lettersZ.cps.toList.getD j 97 → i = j := by decide +kernel
  have := k (n % 36).toNat (by omega) (m % 36).toNat (by omega) h
  omega
structure GNms (zs : List Str) : Prop where
  nm : ∀ z ∈ zs, isNm z = true
  nd : zs.Nodup
theorem nm_tx {cs : List Nat} (h1 : 1 ≤ cs.length) (h2 : cs.length ≤ 12) (h : ∀ c ∈ cs, nmSign c = true) : isNm (tx cs) = true := by
  unfold isNm
  rw [tx_len, decide_eq_true h1, decide_eq_true h2]
  exact List.all_eq_true.mpr h
theorem sum_ones : ∀ L : List Nat, ((L.map fun c => tx [c]).map (·.length)).sum = L.length
  | [] => rfl
  | c :: L => by rw [List.map_cons, List.map_cons, List.sum_cons, sum_ones L, List.length_cons, tx_len]; simp; omega
theorem join_ones (x : PySem.Str) (hx : x.cps = #[]) : ∀ L : List Nat, Txt.join x (L.map fun c => tx [c]) = tx L := by
  have key : ∀ (L : List Nat) (acc : Array Nat), (L.map fun c => tx [c]).foldl (fun acc p => acc ++ x.cps ++ p.cps) acc = acc ++ L.toArray := by
    intro L
    induction L with
    | nil => intro acc; simp
    | cons c L ih =>
      intro acc
      rw [List.map_cons, List.foldl_cons, ih, hx]
      simp [tx]
  intro L
  unfold Txt.join Builtin.Str.glued
  cases L with
  | nil => rfl
  | cons c L =>
    show (⟨List.foldl _ (tx [c]).cps (L.map fun c => tx [c])⟩ : PySem.Str) = _
    rw [key]
    unfold tx
    simp
/-- the names so far: each begins with a letter of its own -/
structure Heads (n0 : Int) (cs : List (List Nat)) : Prop where
  is : ∀ i c, cs[i]? = some c → ∃ tl : List Nat, c = letN (4 * (i : Nat) + n0) :: tl ∧ tl.length ≤ 10 ∧ ∀ d ∈ tl, nmSign d = true
theorem Heads.add {n0 : Int} {cs : List (List Nat)} {tl : List Nat} (h : Heads n0 cs) (h1 : tl.length ≤ 10) (h2 : ∀ d ∈ tl, nmSign d = true) : Heads n0 (cs ++ [letN (4 * (cs.length : Nat) + n0) :: tl]) where
  is := fun i c hc => by
    rcases Nat.lt_or_ge i cs.length with q | q
    · rw [List.getElem?_append_left q] at hc
      exact h.is i c hc
    · rw [List.getElem?_append_right q] at hc
      obtain ⟨h3, h4⟩ := List.getElem?_eq_some_iff.mp hc
      have e : i = cs.length := by simp at h3; omega
      subst e
      simp at h4
      exact ⟨tl, h4.symm, h1, h2⟩
theorem Heads.good {n0 : Int} {cs : List (List Nat)} (h : Heads n0 cs) (hl : cs.length ≤ 8) : GNms (cs.map tx) where
  nm := fun z hz => by
    obtain ⟨c, hc, rfl⟩ := List.mem_map.mp hz
    obtain ⟨i, hi⟩ := List.getElem?_of_mem hc
    obtain ⟨tl, rfl, h1, h2⟩ := h.is i c hi
    refine nm_tx (by simp) (by simp; omega) fun d hd => ?_
    rcases List.mem_cons.mp hd with rfl | hd
    · exact let_sign _
    · exact h2 d hd
  nd := by
    have hp : cs.Pairwise fun a b => tx a ≠ tx b := List.pairwise_iff_getElem.mpr fun i j hi hj hij e => by
      obtain ⟨t1, e1, _⟩ := h.is i _ (List.getElem?_eq_getElem hi)
      obtain ⟨t2, e2, _⟩ := h.is j _ (List.getElem?_eq_getElem hj)
      have e3 := tx_inj e
      rw [e1, e2] at e3
      injection e3 with e3 _
      have := let_inj e3
      omega
    exact List.pairwise_map.mpr hp
section
variable {P : Program} {w : World} {K : PySem.W.Frag} {mg : Str → Option Value} {base : Heap}
abbrev nNm : List Str := ["numbers", "at", "many", "letters", "names", "k", "size", "tail", "j"]
abbrev sNm : Stmt := top 45
theorem scNm : FnScope nNm ["numbers", "at", "many"] (defScope sNm) := ⟨rfl, rfl, rfl, by decide +kernel, rfl, by decide +kernel, by decide +kernel⟩
def gNm : List D → (D → Prop) → Prop := fun ds P => ∃ (ns : List Int) (k m : Nat), ds = [.lst (ns.map D.int), .int (k : Nat), .int (m : Nat)] ∧ ns.length = 60 ∧ k + m ≤ 60 ∧ k < 60 ∧ m ≤ 8 ∧ P = fun d => ∃ zs : List Str, d = .tup (zs.map D.str) ∧ zs.length = m ∧ GNms zs
def tailN (v : Int) (m : Nat) : List Nat := (List.range m).map fun j => letN (v * ((0 + (j : Nat) : Int) + 2) + (0 + (j : Nat) : Int))
theorem ok_nm {f : Addr} {fd : FuncData} (F : Fun K "_law_names" "_law_names" sNm f fd) (T : Bt mg) : FnOk P w K mg base CX0 1 f fd ["numbers", "at", "many"] (spP K 3 gNm) := by
  refine fn_pure F scNm (by rintro ds Pd ⟨_, _, _, rfl, _⟩; rfl) fun cdv A outer s H E ds Pd hr hG => ?_
  obtain ⟨ns, k0, m, rfl, hl, hk, hk1, hm, rfl⟩ := hG
  have nd := scNm.nd
  refine jss_cons (js_set (i := 3) (J.to j_str (congrArg D.str (by decide +kernel : _ = lettersZ))) ?_ nd)
  refine jss_cons (js_setN (i := 4) (jn_lst ja_nil) ?_ nd)
  refine jss_mid (fun ρ => ∃ (cs : List (List Nat)) (o0 o1 o2 o3 o5 o6 o7 : Option SV), ρ = [o0, o1, o2, o3, some (.ow (.lst (cs.map fun c => D.str (tx c)))), o5, o6, o7, none] ∧ cs.length = m ∧ Heads (ns.getD k0 0) cs)
    (js_range m (i := 5) (fun k ρ => ∃ (cs : List (List Nat)) (o5 o6 o7 : Option SV), ρ = [some (.fz (.lst (ns.map D.int))), some (.fz (.int (k0 : Nat))), some (.fz (.int (m : Nat))), some (.fz (.str lettersZ)), some (.ow (.lst (cs.map fun c => D.str (tx c)))), o5, o6, o7, none] ∧ cs.length = k ∧ Heads (ns.getD k0 0) cs) T (jv 2 rfl) (by omega) nd ⟨[], none, none, none, rfl, rfl, ⟨fun i c h => by cases h⟩⟩ ?_ ?_) ?_
  · rintro k _ hk2 ⟨cs, o5, o6, o7, rfl, hcl, hh⟩
    obtain ⟨sz, hsz, hsz2⟩ : ∃ sz : Nat, (ns.getD (k0 + k) 0 % 11 : Int) = (sz : Int) ∧ sz ≤ 10 := ⟨(ns.getD (k0 + k) 0 % 11 : Int).toNat, by omega, by omega⟩
    refine jss_cons (js_set (i := 6) (J.to (j_bin (jb_int T (ja_cons (j_ix (jv 0 rfl) (j_bin (jv 1 rfl) (jv 5 rfl) od_addI) (ixd_L (atI_mapN D.int 0 (k0 + k) (by omega) (by omega)))) ja_nil)) j_int (od_modI (by decide))) (congrArg D.int hsz)) ?_ nd)
    refine jss_cons (js_set (i := 7) (j_join (ys := (tailN (ns.getD (k0 + k) 0) sz).map fun c => tx [c]) j_str (J.to (j_lcM (own := [("j", 8)]) (i := 8) (List.range sz) (fun j => D.int (0 + (j : Nat))) (fun j => D.str (tx [letN (ns.getD (k0 + k) 0 * ((0 + (j : Nat) : Int) + 2) + (0 + (j : Nat) : Int))])) (ji_rangeN sz T (jv 6 rfl) (by omega) (by omega) (by omega)) (blkOk_by (N := nNm) (sc := defScope sNm) (by decide +kernel)) (fun _ _ _ _ _ => pg_name nd rfl (Or.inl rfl)) (by rw [List.length_range]; exact lt_size (by omega))
      (fun j hj s H C cl fp => j_ixS (n := letN (ns.getD (k0 + k) 0 * ((0 + (j : Nat) : Int) + 2) + (0 + (j : Nat) : Int))) (jv 3 rfl) (j_bin (jb_int T (ja_cons (j_bin (j_bin (j_ix (jv 0 rfl) (j_bin (jv 1 rfl) (jv 5 rfl) od_addI) (ixd_L (atI_mapN D.int 0 (k0 + k) (by omega) (by omega)))) (j_bin (jv 8 rfl) j_int od_addI) (od_mulI (cmulR (by have := List.mem_range.mp hj; omega) (by have := List.mem_range.mp hj; omega)))) (jv 8 rfl) od_addI) ja_nil)) j_int (od_modI (by decide))) letters_sz (atI_getD 97 (by omega) (by rw [letters_len]; omega))) nd) (by unfold tailN; rw [List.map_map, List.map_map]; rfl)) (by rw [sum_ones, List.length_map]; show (tailN _ sz).length + (tailN _ sz).length * 0 ≤ _; unfold tailN; rw [List.length_map, List.length_range]; omega) (join_ones _ (by decide +kernel) _)) ?_ nd)
    have htl : (tailN (ns.getD (k0 + k) 0) sz).length ≤ 10 := by unfold tailN; rw [List.length_map, List.length_range]; omega
    have hts : ∀ d ∈ tailN (ns.getD (k0 + k) 0) sz, nmSign d = true := fun d hd => by obtain ⟨j, _, rfl⟩ := List.mem_map.mp hd; exact let_sign _
    generalize tailN (ns.getD (k0 + k) 0) sz = tl at htl hts
    refine jss_cons (js_append (i := 4) (ds := cs.map fun c => D.str (tx c)) rfl (J.to (j_bin (j_ixS (n := letN (4 * (k : Nat) + ns.getD k0 0)) (jv 3 rfl) (j_bin (jb_int T (ja_cons (j_bin (j_bin j_int (jv 5 rfl) (od_mulI (cmulL (by decide) (by decide)))) (j_ix (jv 0 rfl) (jv 1 rfl) (ixd_L (atI_mapN D.int 0 k0 rfl (by omega)))) od_addI) ja_nil)) j_int (od_modI (by decide))) letters_sz (atI_getD 97 (by omega) (by rw [letters_len]; omega))) (jv 7 rfl) (od_addS ?_)) (d' := .str (tx (letN (4 * (k : Nat) + ns.getD k0 0) :: tl))) ?_) (by rw [List.length_map, hcl]; exact lt_size (by omega)) ?_)
    · show (tx [_]).length + (tx tl).length ≤ _
      rw [tx_len, tx_len]
      exact le_size (by simp only [List.length_cons, List.length_nil]; omega)
    · show D.str (tx [_] ++ tx tl) = _
      rw [tx_app]
      rfl
    · refine jss_nil ⟨cs ++ [letN (4 * (k : Nat) + ns.getD k0 0) :: tl], _, _, _, by rw [List.map_append]; rfl, by simp [hcl], ?_⟩
      rw [← hcl]
      exact hh.add htl hts
  · rintro _ ⟨cs, o5, o6, o7, rfl, hcl, hh⟩
    exact ⟨_, rfl, cs, _, _, _, _, _, _, _, rfl, hcl, hh⟩
  rintro _ ⟨cs, o0, o1, o2, o3, o5, o6, o7, rfl, hcl, hh⟩
  exact jss_cons (js_ret (jb_tupleL T (ja_cons (jv 4 rfl) ja_nil)) ⟨cs.map tx, by rw [List.map_map]; rfl, by rw [List.length_map]; exact hcl, hh.good (by omega)⟩)
end
end Toy

namespace Toy
open PySem PyProof.Rows L2 Pf
structure GdV (v : View) : Prop where
  ok : OkV v
  nms : GNms v.2.2
  pos : 1 ≤ v.2.2.length
  few : v.2.2.length ≤ 8
structure GdR (r : Row) : Prop where
  ok : OkRow r
  none' : r.lack = [] → r.ear = some r.mom
  some' : r.lack ≠ [] → r.rel = false ∧ r.lack.Pairwise ltT ∧ ∀ n, r.ear = some n → r.mom < n
theorem mul20 : MulOk "a" 20 ∧ Txt.mul "a" 20 = ("aaaaaaaaaaaaaaaaaaaa" : Str) := ⟨⟨by decide, fun _ _ => by decide +kernel, fun _ _ => by decide +kernel⟩, by decide +kernel⟩
section
variable {P : Program} {w : World} {K : PySem.W.Frag} {mg : Str → Option Value} {base : Heap}
abbrev sVi : Stmt := top 46
theorem scVi : FnScope ["numbers", "at", "due", "number"] ["numbers", "at"] (defScope sVi) := ⟨rfl, rfl, rfl, by decide +kernel, rfl, by decide +kernel, by decide +kernel⟩
def gVi : List D → (D → Prop) → Prop := fun ds P => ∃ ns : List Int, ds = [.lst (ns.map D.int), .int 0] ∧ ns.length = 60 ∧ P = fun d => ∃ v : View, d = viewD v ∧ GdV v
theorem ok_vi {f : Addr} {fd : FuncData} (F : Fun K "_law_view" "_law_view" sVi f fd) (T : Bt mg) (cN : PFn P w K mg base 1 "_law_names" 3 gNm) : FnOk P w K mg base CX0 2 f fd ["numbers", "at"] (spP K 2 gVi) := by
  refine fn_pure F scVi (by rintro ds Pd ⟨_, rfl, _⟩; rfl) fun cdv A outer s H E ds Pd hr hG => ?_
  obtain ⟨ns, rfl, hl, rfl⟩ := hG
  have nd := scVi.nd
  obtain ⟨d1, hd1, hd2⟩ : ∃ d1 : Nat, (ns.getD 1 0 * 991 % 1000000 : Int) = (d1 : Int) ∧ d1 < 1000000 := ⟨(ns.getD 1 0 * 991 % 1000000 : Int).toNat, by omega, by omega⟩
  obtain ⟨n1, hn1, hn2⟩ : ∃ n1 : Nat, (ns.getD 0 0 * 997 % 1000000 : Int) = (n1 : Int) ∧ n1 < 1000000 := ⟨(ns.getD 0 0 * 997 % 1000000 : Int).toNat, by omega, by omega⟩
  obtain ⟨m1, hm1, hm2⟩ : ∃ m1 : Nat, (1 + ns.getD 2 0 % 8 : Int) = (m1 : Int) ∧ 1 ≤ m1 ∧ m1 ≤ 8 := ⟨(1 + ns.getD 2 0 % 8 : Int).toNat, by omega, by omega, by omega⟩
  refine jss_cons (js_set (i := 2) (J.to (j_bin (jb_int T (ja_cons (j_bin (j_ix (jv 0 rfl) (j_bin (jv 1 rfl) j_int od_addI) (ixd_L (atI_mapN D.int 0 1 (by decide) (by omega)))) j_int (od_mulI (cmulR (by decide) (by decide)))) ja_nil)) j_int (od_modI (by decide))) (congrArg D.int hd1)) ?_ nd)
  refine jss_mid (fun ρ => ∃ o : Option Nat, ρ = [some (.fz (.lst (ns.map D.int))), some (.fz (.int 0)), some (.fz (optN o)), none] ∧ ∀ n, o = some n → n < 1000000) (js_if (jt_cm (j_bin (jb_int T (ja_cons (j_ix (jv 0 rfl) (j_bin (jv 1 rfl) j_int od_addI) (ixd_L (atI_mapN D.int 0 1 (by decide) (by omega)))) ja_nil)) j_int (od_modI (by decide))) j_int cd_eqI) (fun _ => ?_) (fun _ => ?_)) ?_
  · exact jss_cons (js_set (i := 2) j_non (jss_nil ⟨_, rfl, none, rfl, fun n e => by cases e⟩) nd)
  · exact jss_nil ⟨_, rfl, some d1, rfl, fun n e => by cases e; exact hd2⟩
  rintro _ ⟨o, rfl, ho⟩
  refine jss_cons (js_set (i := 3) (J.to (j_bin (jb_int T (ja_cons (j_bin (j_ix (jv 0 rfl) (jv 1 rfl) (ixd_L (atI_mapN D.int 0 0 rfl (by omega)))) j_int (od_mulI (cmulR (by decide) (by decide)))) ja_nil)) j_int (od_modI (by decide))) (congrArg D.int hn1)) ?_ nd)
  refine jss_cons (js_retP (jp_tup (jap_cons (jv 3 rfl) (jap_cons (jv 2 rfl) (jap_p (jp_call cN hr (ja_cons (jv 0 rfl) (ja_cons (J.to (j_bin (jv 1 rfl) j_int od_addI) (d' := .int ((3 : Nat) : Int)) rfl) (ja_cons (J.to (j_bin j_int (j_bin (jb_int T (ja_cons (j_ix (jv 0 rfl) (j_bin (jv 1 rfl) j_int od_addI) (ixd_L (atI_mapN D.int 0 2 (by decide) (by omega)))) ja_nil)) j_int (od_modI (by decide))) od_addI) (congrArg D.int hm1)) ja_nil))) ⟨ns, 3, m1, rfl, hl, by omega, by omega, by omega, rfl⟩) ja_nil))) ?_) ?_)
  · rintro ds ⟨r, ⟨r2, ⟨d, _, rfl⟩, rfl⟩, rfl⟩
    exact le_size (by simp only [List.length_cons, List.length_nil]; omega)
  · rintro d ⟨ds, ⟨r, ⟨r2, ⟨d3, ⟨zs, rfl, hz1, hz2⟩, rfl⟩, rfl⟩, rfl⟩, rfl⟩
    exact ⟨(n1, o, zs), rfl, ⟨hn2, ho, fun z q => nm_len (hz2.nm z q), by show zs.length ≤ 20; omega⟩, hz2, by show 1 ≤ zs.length; omega, by show zs.length ≤ 8; omega⟩
abbrev nKr : List Str := ["numbers", "at", "key", "group", "cost", "moment", "which", "names", "earliest"]
abbrev sKr : Stmt := top 47
theorem scKr : FnScope nKr ["numbers", "at"] (defScope sKr) := ⟨rfl, rfl, rfl, by decide +kernel, rfl, by decide +kernel, by decide +kernel⟩
def gKr : List D → (D → Prop) → Prop := fun ds P => ∃ ns : List Int, ds = [.lst (ns.map D.int), .int 12] ∧ ns.length = 60 ∧ (∀ n ∈ ns, 0 ≤ n ∧ n < 1009) ∧ P = fun d => ∃ r : Row, d = rowD r ∧ GdR r
theorem ok_kr {f : Addr} {fd : FuncData} (F : Fun K "_law_keeper_row" "_law_keeper_row" sKr f fd) (T : Bt mg) (cN : PFn P w K mg base 1 "_law_names" 3 gNm) : FnOk P w K mg base CX0 2 f fd ["numbers", "at"] (spP K 2 gKr) := by
  refine fn_pure F scKr (by rintro ds Pd ⟨_, rfl, _⟩; rfl) fun cdv A outer s H E ds Pd hr hG => ?_
  obtain ⟨ns, rfl, hl, hb, rfl⟩ := hG
  have nd := scKr.nd
  have hx : ∀ i : Nat, i < 60 → 0 ≤ ns.getD i 0 ∧ ns.getD i 0 < 1009 := fun i hi => hb _ (by rw [List.getD_eq_getElem?_getD, List.getElem?_eq_getElem (by omega)]; exact List.getElem_mem _)
  obtain ⟨dk, hdk, hmk⟩ := atI_mem (L := [D.str "job-1", D.str "-", D.str "aaaaaaaaaaaaaaaaaaaa", D.str "0"]) (i := ns.getD 12 0 % 4) (by omega) (by simp only [List.length_cons, List.length_nil]; omega)
  obtain ⟨ky, rfl, hky⟩ : ∃ ky : Str, dk = .str ky ∧ isKy ky = true := by
    simp only [List.mem_cons, List.not_mem_nil, or_false] at hmk
    rcases hmk with h | h | h | h
    · exact ⟨_, h, by decide +kernel⟩
    · exact ⟨_, h, by decide +kernel⟩
    · exact ⟨_, h, by decide +kernel⟩
    · exact ⟨_, h, by decide +kernel⟩
  refine jss_cons (js_set (i := 2) (j_ix (j_tup (ja_cons j_str (ja_cons j_str (ja_cons (j_bin j_str j_int (od_mulS mul20.1 mul20.2)) (ja_cons j_str ja_nil))))) (j_bin (jb_int T (ja_cons (j_ix (jv 0 rfl) (jv 1 rfl) (ixd_L (atI_mapN D.int 0 12 rfl (by omega)))) ja_nil)) j_int (od_modI (by decide))) (ixd_T hdk)) ?_ nd)
  refine jss_cons (js_setP (i := 3) (jp_ixT (P2 := fun d => ∃ g : Str, d = .str g ∧ isNm g = true) (jp_call cN hr (ja_cons (jv 0 rfl) (ja_cons (J.to (j_bin (jv 1 rfl) j_int od_addI) (d' := .int ((13 : Nat) : Int)) rfl) (ja_cons (J.to j_int (d' := .int ((1 : Nat) : Int)) rfl) ja_nil))) ⟨ns, 13, 1, rfl, hl, by omega, by omega, by omega, rfl⟩) j_int (fun d hd => ?_)) ?_ nd)
  · obtain ⟨zs, rfl, h1, h2⟩ := hd
    match zs, h1 with
    | [g], _ => exact ⟨_, .str g, rfl, rfl, g, rfl, h2.nm g List.mem_cons_self⟩
  rintro _ ⟨gr, rfl, hgr⟩
  obtain ⟨dc, hdc, hmc⟩ := atI_mem (L := [D.int 1, D.int 1000, D.int (1 + ns.getD 14 0 / 2)]) (i := ns.getD 14 0 % 3) (by omega) (by simp only [List.length_cons, List.length_nil]; omega)
  have h14 := hx 14 (by omega)
  have h15 := hx 15 (by omega)
  have h17 := hx 17 (by omega)
  obtain ⟨co, rfl, hco⟩ : ∃ co : Nat, dc = .int (co : Int) ∧ 1 ≤ co ∧ co ≤ 1000 := by
    simp only [List.mem_cons, List.not_mem_nil, or_false] at hmc
    rcases hmc with h | h | h
    · exact ⟨1, h, by omega, by omega⟩
    · exact ⟨1000, h, by omega, by omega⟩
    · exact ⟨(1 + ns.getD 14 0 / 2).toNat, by rw [h]; exact congrArg D.int (by omega), by omega, by omega⟩
  refine jss_cons (js_set (i := 4) (j_ix (j_tup (ja_cons j_int (ja_cons j_int (ja_cons (j_bin j_int (j_bin (j_ix (jv 0 rfl) (j_bin (jv 1 rfl) j_int od_addI) (ixd_L (atI_mapN D.int 0 14 (by decide) (by omega)))) j_int (od_fdivI ⟨by decide, by decide⟩)) od_addI) ja_nil)))) (j_bin (jb_int T (ja_cons (j_ix (jv 0 rfl) (j_bin (jv 1 rfl) j_int od_addI) (ixd_L (atI_mapN D.int 0 14 (by decide) (by omega)))) ja_nil)) j_int (od_modI (by decide))) (ixd_T hdc)) ?_ nd)
  obtain ⟨dm, hdm, hmm⟩ := atI_mem (L := [D.int 0, D.int (10 ^ 9), D.int (ns.getD 15 0 * 991)]) (i := ns.getD 15 0 % 3) (by omega) (by simp only [List.length_cons, List.length_nil]; omega)
  obtain ⟨mo, rfl, hmo⟩ : ∃ mo : Nat, dm = .int (mo : Int) ∧ mo ≤ 1000000000 := by
    simp only [List.mem_cons, List.not_mem_nil, or_false] at hmm
    rcases hmm with h | h | h
    · exact ⟨0, h, by omega⟩
    · exact ⟨1000000000, h, by omega⟩
    · exact ⟨(ns.getD 15 0 * 991).toNat, by rw [h]; exact congrArg D.int (by omega), by omega⟩
  refine jss_cons (js_set (i := 5) (j_ix (j_tup (ja_cons j_int (ja_cons (j_bin j_int j_int (od_powI ⟨by decide, by decide, by decide⟩)) (ja_cons (j_bin (j_ix (jv 0 rfl) (j_bin (jv 1 rfl) j_int od_addI) (ixd_L (atI_mapN D.int 0 15 (by decide) (by omega)))) j_int (od_mulI (cmulR (by decide) (by decide)))) ja_nil)))) (j_bin (jb_int T (ja_cons (j_ix (jv 0 rfl) (j_bin (jv 1 rfl) j_int od_addI) (ixd_L (atI_mapN D.int 0 15 (by decide) (by omega)))) ja_nil)) j_int (od_modI (by decide))) (ixd_T hdm)) ?_ nd)
  obtain ⟨wh, hwh⟩ : ∃ wh : Int, wh = ns.getD 16 0 % 3 := ⟨_, rfl⟩
  refine jss_cons (js_set (i := 6) (J.to (j_bin (jb_int T (ja_cons (j_ix (jv 0 rfl) (j_bin (jv 1 rfl) j_int od_addI) (ixd_L (atI_mapN D.int 0 16 (by decide) (by omega)))) ja_nil)) j_int (od_modI (by decide))) (congrArg D.int hwh.symm)) ?_ nd)
  have hmin : (if (co : Int) < 1000 then (co : Int) else 1000) = (co : Int) := by split <;> omega
  refine jss_cons (js_if (jt_cm (jv 6 rfl) j_int cd_ltI) (fun _ => ?_) (fun _ => jss_nil ?_))
  · refine jss_cons (js_ret (j_tup (ja_cons (jv 2 rfl) (ja_cons (jv 3 rfl) (ja_cons (J.to (jb_min2 T (ja_cons j_int (ja_cons (jv 4 rfl) ja_nil))) (congrArg D.int hmin)) (ja_cons (jv 5 rfl) (ja_cons (j_tup ja_nil) (ja_cons (jv 5 rfl) (ja_cons (j_cm (jv 6 rfl) j_int cd_eqI) ja_nil)))))))) ?_)
    exact ⟨⟨ky, gr, co, mo, [], some mo, decide (wh = 1)⟩, rfl, ⟨hky, hgr, hco, hmo, by simp, by simp, fun n e => by cases e; omega⟩, fun _ => rfl, fun h => absurd rfl h⟩
  obtain ⟨m1, hm1, hm2⟩ : ∃ m1 : Nat, (1 + ns.getD 17 0 % 8 : Int) = (m1 : Int) ∧ 1 ≤ m1 ∧ m1 ≤ 8 := ⟨(1 + ns.getD 17 0 % 8 : Int).toNat, by omega, by omega, by omega⟩
  refine jss_cons (js_setP (i := 7) (jp_tupleL T (jp_N (jnp_sortedTuP (Pq := fun zs => zs.length = m1 ∧ GNms zs) T (jp_call cN hr (ja_cons (jv 0 rfl) (ja_cons (J.to (j_bin (jv 1 rfl) j_int od_addI) (d' := .int ((18 : Nat) : Int)) rfl) (ja_cons (J.to (j_bin j_int (j_bin (jb_int T (ja_cons (j_ix (jv 0 rfl) (j_bin (jv 1 rfl) j_int od_addI) (ixd_L (atI_mapN D.int 0 17 (by decide) (by omega)))) ja_nil)) j_int (od_modI (by decide))) od_addI) (congrArg D.int hm1)) ja_nil))) ⟨ns, 18, m1, rfl, hl, by omega, by omega, by omega, rfl⟩))) (by rintro d ⟨l, _, rfl⟩; exact ⟨l, rfl⟩)) ?_ nd)
  rintro d hd
  obtain ⟨W, rfl, hWl, hWn, hWa⟩ : ∃ W : List Str, d = .tup (W.map D.str) ∧ W.length = m1 ∧ (∀ z ∈ W, isNm z = true) ∧ W.Pairwise ltT := by
    obtain ⟨l, hl1, rfl⟩ := hd
    obtain ⟨l', ⟨xs, ys, ⟨h1, h2⟩, rfl, h3, h4⟩, h5⟩ := hl1
    cases h5
    exact ⟨ys, rfl, by rw [h3.length_eq]; exact h1, fun z q => h2.nm z (h3.mem_iff.mp q), h4 h2.nd⟩
  obtain ⟨ea, hea, hea2⟩ : ∃ ea : Nat, ((mo : Int) + 1 + ns.getD 17 0 * 10 ^ 6) = (ea : Int) ∧ (mo < ea ∧ ea < 1000000000000) := ⟨((mo : Int) + 1 + ns.getD 17 0 * 10 ^ 6).toNat, by omega, by omega, by omega⟩
  refine jss_cons (js_set (i := 8) (J.to (j_bin (j_bin (jv 5 rfl) j_int od_addI) (j_bin (j_ix (jv 0 rfl) (j_bin (jv 1 rfl) j_int od_addI) (ixd_L (atI_mapN D.int 0 17 (by decide) (by omega)))) (j_bin j_int j_int (od_powI ⟨by decide, by decide, by decide⟩)) (od_mulI (cmulR (by decide) (by decide)))) od_addI) (congrArg D.int hea)) ?_ nd)
  refine jss_mid (fun ρ => ∃ o : Option Nat, ρ = [some (.fz (.lst (ns.map D.int))), some (.fz (.int 12)), some (.fz (.str ky)), some (.fz (.str gr)), some (.fz (.int (co : Nat))), some (.fz (.int (mo : Nat))), some (.fz (.int wh)), some (.fz (.tup (W.map D.str))), some (.fz (optN o))] ∧ ∀ n, o = some n → mo < n ∧ n < 1000000000000) (js_if (jt_cm (j_bin (jb_int T (ja_cons (j_ix (jv 0 rfl) (j_bin (jv 1 rfl) j_int od_addI) (ixd_L (atI_mapN D.int 0 16 (by decide) (by omega)))) ja_nil)) j_int (od_modI (by decide))) j_int cd_eqI) (fun _ => ?_) (fun _ => ?_)) ?_
  · exact jss_cons (js_set (i := 8) j_non (jss_nil ⟨_, rfl, none, rfl, fun n e => by cases e⟩) nd)
  · exact jss_nil ⟨_, rfl, some ea, rfl, fun n e => by cases e; exact hea2⟩
  rintro _ ⟨o, rfl, ho⟩
  refine jss_cons (js_ret (j_tup (ja_cons (jv 2 rfl) (ja_cons (jv 3 rfl) (ja_cons (J.to (jb_min2 T (ja_cons j_int (ja_cons (jv 4 rfl) ja_nil))) (congrArg D.int hmin)) (ja_cons (jv 5 rfl) (ja_cons (jv 7 rfl) (ja_cons (jv 8 rfl) (ja_cons j_bl ja_nil)))))))) ?_)
  refine ⟨⟨ky, gr, co, mo, W, o, false⟩, rfl, ⟨hky, hgr, hco, hmo, hWn, by show W.length ≤ 8; omega, fun n e => (ho n e).2⟩, fun h => ?_, fun _ => ⟨rfl, hWa, fun n e => (ho n e).1⟩⟩
  have h : W = [] := h
  rw [h] at hWl
  simp at hWl
  omega
end
end Toy

namespace Toy
open PySem PyProof.Rows L2 Pf
def wr0 : List Str := [("" : Str), "view", "view 1 none", "view 1 a", "view  1 none a", "view 1 none a ", "view 01 none a", "view 1 00 a"]
def wr1 : List Str := [("view 1000000 none a" : Str), "view 1 1000000 a", "view 1 none a b a", "view 1 none A", "view 1 - a"]
def wr2 : List Str := [("view 1 none a b c d e f g h i" : Str), "View 1 none a", "keep", "keep 1 2", "keep 1 2 never"]
def wr3 : List Str := [("keep 1 2 1000000001" : Str), "keep 01 2 3", "keep 1 2 3 4", "keep 1 2 3 4 none", "keep 1 2 3 4 none a a"]
def wr4 : List Str := [("keep 1000000 2 3" : Str), "keep 0 0 none none", "key a g 1 2", "key a g 1 2 Let", "key a g 0 2 let"]
def wr5 : List Str := [("key a g 1001 2 let" : Str), "key a g 1 1000000001 let", "key a_ g 1 2 let", "key a g- 1 2 let"]
def wr6 : List Str := [("key a g 1 2 let 3 d" : Str), "key a g 1 2 refused", "key a g 1 2 refused 3", "key a g 1 2 refused 2 d"]
def wr7 : List Str := [("key a g 1 2 refused 3 d,c" : Str), "key a g 1 2 refused 3 c,c", "key a g 1 2 refused 3 ,c"]
def wr8 : List Str := [("key a g 1 2 refused 03 c" : Str), "key a g 1 2 refused none c", "key a g 1 2 refused 3 a,b,c,d,e,f,g,h,i"]
def wr9 : List Str := [("key a g 1 2 refused 1000000000000 c" : Str), "ask a g 1", "ask a g 0 4", "ask a g 1 4 5", "release a"]
def wr10 : List Str := [("key a g 01 2 let" : Str), "key a g 1 02 let", "keep 1 02 3", "keep 1 2 03", "keep 1 2 3 04 none a"]
def wr11 : List Str := [("keep 1 2 3 4 05 a" : Str), "view 1 none a,b", "key a g 1 2 refused 3 c d", "ask a g 01 4", "ask a g 1 04"]
def wr12 : List Str := [("release a 01" : Str), "release A 1", "ask a G 1 4", "let a 1", " ask a g 1 4", "ask a g 1 1000000001", "keep 0 0 none "]
def wrongs : List Str := ((((((((((((wr0 ++ wr1) ++ wr2) ++ wr3) ++ wr4) ++ wr5) ++ wr6) ++ wr7) ++ wr8) ++ wr9) ++ wr10) ++ wr11) ++ wr12)
theorem wrong_all : ∀ z ∈ wrongs, (z.length ≤ 900 ∧ PySem.PyData.strOk z = true) ∧ isNon (bodyO z) = true := by
  have h : (wrongs.all fun z => (decide (z.length ≤ 900) && PySem.PyData.strOk z) && isNon (bodyO z)) = true := by decide +kernel
  intro z hz
  have := List.all_eq_true.mp h z hz
  rw [Bool.and_eq_true, Bool.and_eq_true, decide_eq_true_iff] at this
  exact this
section
variable {X : Cx} {ρ : Rho} {d : D} {pos p : Pos} {x : Str} {k j : Nat} {G : List D → (D → Prop) → Prop} {P : D → Prop}
theorem j_call0 (c : PFn X.prog X.w X.K X.mg X.base k x 0 G) (hr : Room j X.A) (hG : G [] P) (hP : ∀ d', P d' → d' = d) (hk : k ≤ j := by decide) (hg : Gl X x := by rfl) (hdb : (x == ("__debug__" : Str)) = false := by decide) : J X (.Call (.Name x p) [] [] pos) ρ d := ⟨fun W σ H ex hV Q g => by
  obtain ⟨f, fd, ps, F, hm, hkp, hb⟩ := c.ex
  exact .of (pe_call0 (F.mono hk) hr hg hm hkp hb .nil pass0 hdb) ⟨rfl, W, [], P, ex, .nil, hG, fun d' hd => by rw [hP d' hd]; exact g⟩⟩
end
section
variable {P : Program} {w : World} {K : PySem.W.Frag} {mg : Str → Option Value} {base : Heap}
abbrev sWr : Stmt := top 48
theorem scWr : FnScope ["found"] [] (defScope sWr) := ⟨rfl, rfl, rfl, by decide +kernel, rfl, by decide +kernel, by decide +kernel⟩
def gWr : List D → (D → Prop) → Prop := fun ds P => ds = [] ∧ P = fun d => d = .lst (wrongs.map D.str)
theorem ok_wr {f : Addr} {fd : FuncData} (F : Fun K "_law_wrong_bodies" "_law_wrong_bodies" sWr f fd) : FnOk P w K mg base CX0 1 f fd [] (spP K 0 gWr) := by
  refine fn_pure F scWr (by rintro ds Pd ⟨rfl, _⟩; rfl) fun cdv A outer s H E ds Pd hr hG => ?_
  obtain ⟨rfl, rfl⟩ := hG
  have nd := scWr.nd
  refine jss_cons (js_set (i := 0) (j_lst (ja_cons j_str (ja_cons j_str (ja_cons j_str (ja_cons j_str (ja_cons j_str (ja_cons j_str (ja_cons j_str (ja_cons j_str ja_nil))))))))) ?_ nd)
  refine jss_cons (js_set (i := 0) (j_bin (jv 0 rfl) (j_lst (ja_cons j_str (ja_cons j_str (ja_cons j_str (ja_cons j_str (ja_cons j_str ja_nil)))))) (od_addL (by decide +kernel))) ?_ nd)
  refine jss_cons (js_set (i := 0) (j_bin (jv 0 rfl) (j_lst (ja_cons j_str (ja_cons j_str (ja_cons j_str (ja_cons j_str (ja_cons j_str ja_nil)))))) (od_addL (by decide +kernel))) ?_ nd)
  refine jss_cons (js_set (i := 0) (j_bin (jv 0 rfl) (j_lst (ja_cons j_str (ja_cons j_str (ja_cons j_str (ja_cons j_str (ja_cons j_str ja_nil)))))) (od_addL (by decide +kernel))) ?_ nd)
  refine jss_cons (js_set (i := 0) (j_bin (jv 0 rfl) (j_lst (ja_cons j_str (ja_cons j_str (ja_cons j_str (ja_cons j_str (ja_cons j_str ja_nil)))))) (od_addL (by decide +kernel))) ?_ nd)
  refine jss_cons (js_set (i := 0) (j_bin (jv 0 rfl) (j_lst (ja_cons j_str (ja_cons j_str (ja_cons j_str (ja_cons j_str ja_nil))))) (od_addL (by decide +kernel))) ?_ nd)
  refine jss_cons (js_set (i := 0) (j_bin (jv 0 rfl) (j_lst (ja_cons j_str (ja_cons j_str (ja_cons j_str (ja_cons j_str ja_nil))))) (od_addL (by decide +kernel))) ?_ nd)
  refine jss_cons (js_set (i := 0) (j_bin (jv 0 rfl) (j_lst (ja_cons j_str (ja_cons j_str (ja_cons j_str ja_nil)))) (od_addL (by decide +kernel))) ?_ nd)
  refine jss_cons (js_set (i := 0) (j_bin (jv 0 rfl) (j_lst (ja_cons j_str (ja_cons j_str (ja_cons j_str ja_nil)))) (od_addL (by decide +kernel))) ?_ nd)
  refine jss_cons (js_set (i := 0) (j_bin (jv 0 rfl) (j_lst (ja_cons j_str (ja_cons j_str (ja_cons j_str (ja_cons j_str (ja_cons j_str ja_nil)))))) (od_addL (by decide +kernel))) ?_ nd)
  refine jss_cons (js_set (i := 0) (j_bin (jv 0 rfl) (j_lst (ja_cons j_str (ja_cons j_str (ja_cons j_str (ja_cons j_str (ja_cons j_str ja_nil)))))) (od_addL (by decide +kernel))) ?_ nd)
  refine jss_cons (js_set (i := 0) (j_bin (jv 0 rfl) (j_lst (ja_cons j_str (ja_cons j_str (ja_cons j_str (ja_cons j_str (ja_cons j_str ja_nil)))))) (od_addL (by decide +kernel))) ?_ nd)
  exact jss_cons (js_ret (j_bin (jv 0 rfl) (j_lst (ja_cons j_str (ja_cons j_str (ja_cons j_str (ja_cons j_str (ja_cons j_str (ja_cons j_str (ja_cons j_str ja_nil)))))))) (od_addL (by decide +kernel))) rfl)
end
end Toy

namespace Toy
open PySem PyProof.Rows L2 Pf
section
variable {P : Program} {w : World} {K : PySem.W.Frag} {mg : Str → Option Value} {base : Heap}
abbrev sLw : Stmt := top 43
theorem scLw : FnScope ["view"] ["view"] (defScope sLw) := ⟨rfl, rfl, rfl, by decide +kernel, rfl, by decide +kernel, by decide +kernel⟩
theorem j_word {X : Cx} {ρ : Rho} {a b e : Expr} {z : Str} {o : Option Nat} {p q r pos p1 : Pos} {m : Nat} (T : Bt X.mg) (h : J X a ρ (optN o)) (h' : J X b ρ (optN o)) (hz : J X e ρ (.str z)) (ho : ∀ n, o = some n → n < 10 ^ 14) (hg : Gl X "str" := by rfl) (he : starEach [b] X.env = (false, eval b X.env) :: starEach [] X.env := by rfl) (hpl : (backTo r (starEach [] X.env)).any (·.1) = false := by rfl) (hm : behindInMarks CmpOp.Is (.Constant .none m p) = false := by rfl) :
    J X (.IfExp (.Compare a [.Is] [.Constant .none m p] q) e (.Call (.Name "str" p1) [b] [] r) pos) ρ (.str (wordF o z)) := by
  cases o with
  | none => exact j_ifT (JT.to (jt_cm h j_non cd_isN) rfl) hz
  | some n => exact j_ifF (JT.to (jt_cm h j_non cd_isN) rfl) (jb_str T (ja_cons h' ja_nil he) (numT_log (ho n rfl)) hg he hpl)
theorem ok_lw {f : Addr} {fd : FuncData} (F : Fun K "_law_view_words" "_law_view_words" sLw f fd) (T : Bt mg) : FnOk P w K mg base CX0 1 f fd ["view"] (spP K 1 gVw) := by
  refine fn_pure F scLw (by rintro ds Pd ⟨_, rfl, _⟩; rfl) fun cdv A outer s H E ds Pd hr hG => ?_
  obtain ⟨v, rfl, hv, rfl⟩ := hG
  have nd := scLw.nd
  have j0 : ∀ {X : Cx}, True := fun {_} => trivial
  exact jss_cons (js_ret (j_bin (j_lst (ja_cons (jb_str T (ja_cons (j_ix (jv 0 rfl) j_int (ixd_T (ds := [.int (v.1 : Int), optN v.2.1, .tup (v.2.2.map D.str)]) (i := 0) (d := .int (v.1 : Int)) rfl)) ja_nil) (numT_log (Nat.lt_trans hv.num (by decide)))) (ja_cons (j_word T (j_ix (jv 0 rfl) j_int (ixd_T (ds := [.int (v.1 : Int), optN v.2.1, .tup (v.2.2.map D.str)]) (i := 1) (d := optN v.2.1) rfl)) (j_ix (jv 0 rfl) j_int (ixd_T (ds := [.int (v.1 : Int), optN v.2.1, .tup (v.2.2.map D.str)]) (i := 1) (d := optN v.2.1) rfl)) j_str (fun n e => Nat.lt_trans (hv.due n e) (by decide))) ja_nil))) (jb_listT T (ja_cons (j_ix (jv 0 rfl) j_int (ixd_T (ds := [.int (v.1 : Int), optN v.2.1, .tup (v.2.2.map D.str)]) (i := 2) (d := .tup (v.2.2.map D.str)) rfl)) ja_nil)) (od_addL (by rw [List.length_map]; exact le_size (by have := hv.few; simp only [List.length_cons, List.length_nil]; omega)))) rfl)
abbrev sLv : Stmt := top 44
theorem scLv : FnScope ["view"] ["view"] (defScope sLv) := ⟨rfl, rfl, rfl, by decide +kernel, rfl, by decide +kernel, by decide +kernel⟩
theorem ok_lv {f : Addr} {fd : FuncData} (F : Fun K "_law_view_body" "_law_view_body" sLv f fd) (cV : PFn P w K mg base 1 "_law_view_words" 1 gVw) : FnOk P w K mg base CX0 2 f fd ["view"] (spP K 1 gVb) := by
  refine fn_pure F scLv (by rintro ds Pd ⟨_, rfl, _⟩; rfl) fun cdv A outer s H E ds Pd hr hG => ?_
  obtain ⟨v, rfl, hv, rfl⟩ := hG
  obtain ⟨h1, h2⟩ := hv.words
  refine jss_cons (js_ret (j_join (ys := "view" :: vwords v) j_str (J.to (j_bin (j_lst (ja_cons j_str ja_nil)) (j_call cV hr (ja_cons (jv 0 rfl) ja_nil) ⟨v, rfl, hv, rfl⟩ (fun _ h => h)) (od_addL (by rw [List.length_map]; exact le_size (by simp only [List.length_cons, List.length_nil]; omega)))) rfl) (join_words (m := 20) (k := 23) (fun x hx => ?_) (by simp only [List.length_cons]; omega) (by decide) (by decide) _ (by decide +kernel)) rfl) rfl)
  rcases List.mem_cons.mp hx with rfl | hx
  · decide +kernel
  · exact h1 x hx
abbrev sLr : Stmt := top 41
theorem scLr : FnScope ["row", "words"] ["row"] (defScope sLr) := ⟨rfl, rfl, rfl, by decide +kernel, rfl, by decide +kernel, by decide +kernel⟩
theorem ok_lr {f : Addr} {fd : FuncData} (F : Fun K "_law_row_body" "_law_row_body" sLr f fd) (T : Bt mg) : FnOk P w K mg base CX0 1 f fd ["row"] (spP K 1 gRo) := by
  refine fn_pure F scLr (by rintro ds Pd ⟨_, rfl, _⟩; rfl) fun cdv A outer s H E ds Pd hr hG => ?_
  obtain ⟨r, rfl, hk, rfl⟩ := hG
  have nd := scLr.nd
  obtain ⟨w1, w2⟩ := hk.words
  have lc := numT_log (n := r.cost) (by have := hk.cost.2; omega)
  have lm := numT_log (n := r.mom) (by have := hk.mom; omega)
  generalize hR : [D.str r.key, D.str r.grp, D.int (r.cost : Int), D.int (r.mom : Int), D.tup (r.lack.map D.str), optN r.ear, D.bl r.rel] = R
  have hRD : rowD r = .tup R := by rw [← hR]; rfl
  have a0 : atI R 0 = some (.str r.key) := by rw [← hR]; rfl
  have a1 : atI R 1 = some (.str r.grp) := by rw [← hR]; rfl
  have a2 : atI R 2 = some (.int (r.cost : Int)) := by rw [← hR]; rfl
  have a3 : atI R 3 = some (.int (r.mom : Int)) := by rw [← hR]; rfl
  have a4 : atI R 4 = some (.tup (r.lack.map D.str)) := by rw [← hR]; rfl
  have a5 : atI R 5 = some (optN r.ear) := by rw [← hR]; rfl
  have a6 : atI R 6 = some (.bl r.rel) := by rw [← hR]; rfl
  rw [hRD]
  refine jss_cons (js_setN (i := 1) (jn_lst (ja_cons j_str (ja_cons (j_ix (jv 0 rfl) j_int (ixd_T a0)) (ja_cons (j_ix (jv 0 rfl) j_int (ixd_T a1)) (ja_cons (jb_str T (ja_cons (j_ix (jv 0 rfl) j_int (ixd_T a2)) ja_nil) lc) (ja_cons (jb_str T (ja_cons (j_ix (jv 0 rfl) j_int (ixd_T a3)) ja_nil) lm) ja_nil)))))) ?_ nd)
  refine jss_mid (fun ρ => ∃ sv : SV, ρ = [some (.fz (.tup R)), some sv] ∧ sv.d = .lst ((rwords r).map D.str)) (js_if (t := !r.lack.isEmpty) (JT.to (jt_cm (jb_len T (ja_cons (j_ix (jv 0 rfl) j_int (ixd_T a4)) ja_nil) (show lenD (.tup (r.lack.map D.str)) = some r.lack.length by show some _ = _; rw [List.length_map])) j_int cd_gtI) (by cases r.lack with | nil => rfl | cons z zs => exact decide_eq_true (by simp only [List.length_cons]; omega))) (fun h => ?_) (fun h => ?_)) ?_
  · rw [Bool.not_eq_true'] at h
    refine jss_freeze 1 rfl ?_
    refine jss_cons (js_set (i := 1) (j_bin (J.to (jv 1 rfl) (d' := .lst [.str "key", .str r.key, .str r.grp, .str (numT r.cost), .str (numT r.mom)]) rfl) (j_lst (ja_cons j_str (ja_cons (j_word T (j_ix (jv 0 rfl) j_int (ixd_T a5)) (j_ix (jv 0 rfl) j_int (ixd_T a5)) j_str (fun n e => Nat.lt_trans (hk.ear n e) (by decide))) (ja_cons (j_joinT (ys := r.lack) j_str (j_ix (jv 0 rfl) j_int (ixd_T a4)) (Nat.le_trans hk.lackL (by decide)) rfl) ja_nil)))) (od_addL (by simp only [List.length_cons, List.length_nil]; decide))) ?_ nd)
    exact jss_nil ⟨_, rfl, _, rfl, by unfold rwords tailR; rw [if_neg (by rw [h]; decide)]; rfl⟩
  · rw [Bool.not_eq_false'] at h
    refine jss_cons (js_append (i := 1) (ds := [.str "key", .str r.key, .str r.grp, .str (numT r.cost), .str (numT r.mom)]) rfl (J.to (j_ix (j_tup (ja_cons j_str (ja_cons j_str ja_nil))) (jb_intB T (ja_cons (j_ix (jv 0 rfl) j_int (ixd_T a6)) ja_nil)) (ixd_T (ds := [.str "let", .str "back"]) (d := .str (if r.rel = true then "back" else "let")) (by cases r.rel <;> rfl))) rfl) (by simp only [List.length_cons, List.length_nil]; decide) ?_)
    exact jss_nil ⟨_, rfl, _, rfl, by unfold rwords tailR; rw [if_pos h]; rfl⟩
  rintro _ ⟨sv, rfl, hsv⟩
  exact jss_cons (js_ret (j_join (ys := rwords r) j_str (J.to (jv 1 rfl) hsv) (join_words w1 w2 (by decide) (by decide) _ (by decide +kernel)) rfl) rfl)
abbrev sLh : Stmt := top 42
theorem scLh : FnScope ["rows", "entries", "moment", "view", "words"] ["rows", "entries", "moment", "view"] (defScope sLh) := ⟨rfl, rfl, rfl, by decide +kernel, rfl, by decide +kernel, by decide +kernel⟩
def gLh : List D → (D → Prop) → Prop := fun ds P => ∃ (b : Nat) (m : Option Nat) (v : Option View), ds = [.lst [], .int (b : Nat), optN m, viewN v] ∧ OkH 0 b m v ∧ P = fun d => d = .str (hbody 0 b m v)
theorem ok_lh {f : Addr} {fd : FuncData} (F : Fun K "_law_head_body" "_law_head_body" sLh f fd) (T : Bt mg) (cV : PFn P w K mg base 1 "_law_view_words" 1 gVw) : FnOk P w K mg base CX0 2 f fd ["rows", "entries", "moment", "view"] (spP K 4 gLh) := by
  refine fn_pure F scLh (by rintro ds Pd ⟨_, _, _, rfl, _⟩; rfl) fun cdv A outer s H E ds Pd hr hG => ?_
  obtain ⟨b, m, v, rfl, hk, rfl⟩ := hG
  have nd := scLh.nd
  obtain ⟨w1, w2⟩ := hk.words
  have lm := numT_log (n := b) (by have := hk.b; omega)
  refine jss_cons (js_set (i := 4) (j_lst (ja_cons j_str (ja_cons (J.to (jb_str T (ja_cons (jb_len T (ja_cons (jv 0 rfl) ja_nil) rfl) ja_nil) (by decide)) (d' := .str (numT 0)) rfl) (ja_cons (jb_str T (ja_cons (jv 1 rfl) ja_nil) lm) (ja_cons (j_word T (jv 2 rfl) (jv 2 rfl) j_str (fun n e => by have := hk.m n e; omega)) ja_nil))))) ?_ nd)
  refine jss_mid (fun ρ => ∃ o0 o1 o2 o3 : Option SV, ρ = [o0, o1, o2, o3, some (.fz (.lst ((hwords 0 b m v).map D.str)))]) (js_if (t := !isNon (viewN v)) (jt_cm (jv 3 rfl) j_non cd_notN) (fun h => ?_) (fun h => ?_)) ?_
  · cases v with
    | none => cases h
    | some v =>
      obtain ⟨k1, k2⟩ := (hk.v v rfl).words
      refine jss_cons (js_set (i := 4) (j_bin (J.to (jv 4 rfl) (d' := .lst [.str "keep", .str (numT 0), .str (numT b), .str (wordF m "none")]) rfl) (j_call cV hr (ja_cons (J.to (jv 3 rfl) (d' := viewD v) rfl) ja_nil) ⟨v, rfl, hk.v v rfl, rfl⟩ (fun _ h => h)) (od_addL (by rw [List.length_map]; exact le_size (by simp only [List.length_cons, List.length_nil]; omega)))) ?_ nd)
      exact jss_nil ⟨_, rfl, _, _, _, _, rfl⟩
  · cases v with
    | none => exact jss_nil ⟨_, rfl, _, _, _, _, rfl⟩
    | some v => cases h
  rintro _ ⟨o0, o1, o2, o3, rfl⟩
  exact jss_cons (js_ret (j_join (ys := hwords 0 b m v) j_str (jv 4 rfl) (join_words w1 w2 (by decide) (by decide) _ (by decide +kernel)) rfl) rfl)
end
end Toy

namespace Toy
open PySem PyProof.Rows L2 Pf
open PySem.NumText (AllDigits digitsVal)
def wdOk (z : Str) : Bool := z.cps.toList.all fun c => !decide (c = 32) && decide (c < 128)
theorem wd_iff {z : Str} : wdOk z = true ↔ ∀ c ∈ z.cps.toList, c ≠ 32 ∧ c < 128 := by
  unfold wdOk
  rw [List.all_eq_true]
  exact ⟨fun h c hc => by have := h c hc; rw [Bool.and_eq_true, Bool.not_eq_true', decide_eq_false_iff_not, decide_eq_true_iff] at this; exact this, fun h c hc => by rw [Bool.and_eq_true, Bool.not_eq_true', decide_eq_false_iff_not, decide_eq_true_iff]; exact h c hc⟩
theorem ky_range {c : Nat} (h : kySign c = true) : (97 ≤ c ∧ c ≤ 122) ∨ (48 ≤ c ∧ c ≤ 57) ∨ c = 45 := by
  unfold kySign nmSign at h
  simp only [Bool.or_eq_true, Bool.and_eq_true, decide_eq_true_iff] at h
  rcases h with (h | h) | h
  · exact .inl h
  · exact .inr (.inl h)
  · exact .inr (.inr h)
theorem nm_range {c : Nat} (h : nmSign c = true) : (97 ≤ c ∧ c ≤ 122) ∨ (48 ≤ c ∧ c ≤ 57) := by
  unfold nmSign at h
  simp only [Bool.or_eq_true, Bool.and_eq_true, decide_eq_true_iff] at h
  exact h
theorem nm_all {z : Str} (h : isNm z = true) : ∀ c ∈ z.cps.toList, nmSign c = true := by
  unfold isNm at h
  rw [Bool.and_eq_true] at h
  exact fun c hc => List.all_eq_true.mp h.2 c hc
theorem ky_all {z : Str} (h : isKy z = true) : ∀ c ∈ z.cps.toList, kySign c = true := by
  unfold isKy at h
  rw [Bool.and_eq_true] at h
  exact fun c hc => List.all_eq_true.mp h.2 c hc
theorem wd_nm {z : Str} (h : isNm z = true) : wdOk z = true := wd_iff.mpr fun c hc => by have := nm_range (nm_all h c hc); omega
theorem wd_ky {z : Str} (h : isKy z = true) : wdOk z = true := wd_iff.mpr fun c hc => by have := ky_range (ky_all h c hc); omega
theorem wd_num (n : Nat) : wdOk (numT n) = true := wd_iff.mpr fun c hc => by have := numS_dig n c hc; omega
theorem wd_word {o : Option Nat} {z : Str} (h : wdOk z = true) : wdOk (wordF o z) = true := by
  cases o with
  | none => exact h
  | some n => exact wd_num n
theorem wd_join {y : Str} {xs : List Str} (hy : wdOk y = true) (h : ∀ x ∈ xs, wdOk x = true) : wdOk (Txt.join y xs) = true := wd_iff.mpr fun c hc => by
  rcases mem_join hc with q | ⟨x, hx, q⟩
  · exact wd_iff.mp hy c q
  · exact wd_iff.mp (h x hx) c q
theorem body_split {ws : List Str} (hne : ws ≠ []) (h : ∀ x ∈ ws, wdOk x = true) : Txt.split (Txt.join " " ws) " " = ws :=
  TL.split_join (s := 32) (S := []) (by decide +kernel) (by decide +kernel) hne fun p hp hm => (wd_iff.mp (h p hp) 32 hm).1 rfl
theorem body_ok {ws : List Str} (h : ∀ x ∈ ws, wdOk x = true) : PySem.PyData.strOk (Txt.join " " ws) = true := (strOk_iff _).mpr fun c hc => by
  rcases mem_join hc with q | ⟨x, hx, q⟩
  · have e : (" " : Str).cps.toList = [32] := by decide +kernel
    rw [e, List.mem_singleton] at q
    omega
  · have := (wd_iff.mp (h x hx) c q).2
    omega
theorem body_len {ws : List Str} {m k : Nat} (h : ∀ x ∈ ws, x.length ≤ m) (hk : ws.length ≤ k) (hm : k * m + k ≤ 900) : (Txt.join " " ws).length ≤ 900 := by
  have h1 := sum_le h
  have h2 := Nat.mul_le_mul_right m hk
  have h3 := join_len " " ws
  rw [show (" " : Str).length = 1 from by decide +kernel] at h3
  omega
theorem numW_num {n k : Nat} (hk : 1 ≤ k) (h : n < 10 ^ k) : numW (numT n) k = some n := pNum_num hk h
theorem numW_word {o : Option Nat} {z : Str} {k : Nat} (hk : 1 ≤ k) (h : ∀ n, o = some n → n < 10 ^ k) (hz : numW z k = none) : numW (wordF o z) k = o := by
  cases o with
  | none => exact hz
  | some n => exact numW_num hk (h n rfl)
theorem vwords_wd {v : View} (h : GdV v) : ∀ x ∈ vwords v, wdOk x = true := by
  intro x hx
  unfold vwords at hx
  rcases List.mem_cons.mp hx with rfl | hx
  · exact wd_num _
  · rcases List.mem_cons.mp hx with rfl | hx
    · exact wd_word (by decide +kernel)
    · exact wd_nm (h.nms.nm x hx)
theorem viewO_back {v : View} (h : GdV v) : viewO (vwords v) = viewD v := by
  have hp := h.pos
  have hf := h.few
  have e0 : numW ((vwords v).getD 0 "") 6 = some v.1 := numW_num (by decide) h.ok.num
  have e1 : numW ((vwords v).getD 1 "") 6 = v.2.1 := numW_word (by decide) h.ok.due (by decide +kernel)
  have e2 : (vwords v).drop 2 = v.2.2 := rfl
  have hb : viewB (some v.1) v.2.1 v.2.2 = true := by
    unfold viewB
    have k1 : inD 0 999999 (optN (some v.1)) = true := by
      show (decide ((0 : Int) ≤ (v.1 : Int)) && decide ((v.1 : Int) ≤ 999999)) = true
      have := h.ok.num
      rw [decide_eq_true (by omega), decide_eq_true (by omega)]
      rfl
    have k2 : (isNon (optN v.2.1) || inD 0 999999 (optN v.2.1)) = true := by
      cases q : v.2.1 with
      | none => rfl
      | some n =>
        have := h.ok.due n q
        show (false || (decide ((0 : Int) ≤ (n : Int)) && decide ((n : Int) ≤ 999999))) = true
        rw [decide_eq_true (by omega), decide_eq_true (by omega)]
        rfl
    have k3 : (v.2.2.map isNm).all id = true := by
      rw [List.all_map, List.all_eq_true]
      exact fun z hz => h.nms.nm z hz
    rw [k1, k2, decide_eq_true hp, decide_eq_true hf, k3, decide_eq_true (ddL_all.mpr h.nms.nd)]
    rfl
  unfold viewO
  rw [if_neg (by unfold vwords; simp only [List.length_cons]; omega), e0, e1, e2, if_neg, if_pos hb]
  · rfl
  · intro z
    rw [Bool.and_eq_true, Bool.not_eq_true', decide_eq_false_iff_not] at z
    apply z.2
    show wordF v.2.1 "none" = "none"
    cases q : v.2.1 with
    | none => rfl
    | some n => rw [q] at z; cases z.1
def vall (v : View) : List Str := "view" :: vwords v
theorem vall_wd {v : View} (h : GdV v) : ∀ x ∈ vall v, wdOk x = true := by
  intro x hx
  rcases List.mem_cons.mp hx with rfl | hx
  · decide +kernel
  · exact vwords_wd h x hx
theorem body_view {v : View} (h : GdV v) : bodyO (vbody v) = .tup [.str "view", viewD v] := by
  unfold bodyO vbody
  rw [body_split (ws := "view" :: vwords v) (by simp) (vall_wd h)]
  dsimp only
  have e : toldO "view" (vwords v) (Txt.join " " ("view" :: vwords v)) = viewD v := by
    unfold toldO
    rw [if_pos rfl]
    exact viewO_back h
  rw [e]
  rfl
theorem tail_wd {r : Row} (h : OkRow r) : ∀ x ∈ tailR r, wdOk x = true := by
  intro x hx
  unfold tailR at hx
  split at hx
  · rw [List.mem_singleton.mp hx]
    split <;> decide +kernel
  · simp only [List.mem_cons, List.not_mem_nil, or_false] at hx
    rcases hx with hx | hx | hx <;> rw [hx]
    · decide +kernel
    · exact wd_word (by decide +kernel)
    · exact wd_join (by decide +kernel) fun z q => wd_nm (h.nms z q)
theorem rwords_wd {r : Row} (h : OkRow r) : ∀ x ∈ rwords r, wdOk x = true := by
  intro x hx
  unfold rwords at hx
  rcases List.mem_append.mp hx with hx | hx
  · simp only [List.mem_cons, List.not_mem_nil, or_false] at hx
    rcases hx with hx | hx | hx | hx | hx <;> rw [hx]
    · decide +kernel
    · exact wd_ky h.key
    · exact wd_nm h.grp
    · exact wd_num _
    · exact wd_num _
  · exact tail_wd h x hx
theorem asc_pair : ∀ {zs : List Str}, zs.Pairwise ltT → ascB zs = true
  | [], _ => rfl
  | [_], _ => rfl
  | a :: b :: r, h => by
    have h2 := asc_pair (zs := b :: r) (List.pairwise_cons.mp h).2
    unfold ascB at h2 ⊢
    show (decide (a.cps.toList < b.cps.toList) && _) = true
    have k : a.cps.toList < b.cps.toList := (List.pairwise_cons.mp h).1 b List.mem_cons_self
    rw [decide_eq_true k, Bool.true_and]
    exact h2
theorem splC_back {zs : List Str} (hne : zs ≠ []) (h : ∀ z ∈ zs, isNm z = true) : splC (Txt.join "," zs) = zs :=
  TL.split_join (s := 44) (S := []) (by decide +kernel) (by decide +kernel) hne fun p hp hm => by have := nm_range (nm_all (h p hp) 44 hm); omega
theorem names_good {zs : List Str} (h : ∀ z ∈ zs, isNm z = true) (hl : zs.length ≤ 8) (ha : zs.Pairwise ltT) : namesBad zs = false := by
  unfold namesBad
  rw [decide_eq_false (by omega), asc_pair ha, show (zs.map isNm).all id = true from by rw [List.all_map, List.all_eq_true]; exact fun z hz => h z hz]
  rfl
theorem decO_back {r : Row} (h : GdR r) : decO (tailR r) r.mom = some [.tup (r.lack.map D.str), optN r.ear, .bl r.rel] := by
  unfold tailR
  by_cases q : r.lack = []
  · rw [if_pos (by rw [q]; rfl), h.none' q, q]
    cases e : r.rel
    · rfl
    · rfl
  · have hq : ¬ r.lack.isEmpty = true := fun z => q (List.isEmpty_iff.mp z)
    obtain ⟨k1, k2, k3⟩ := h.some' q
    have ee : numW (wordF r.ear "never") 12 = r.ear := numW_word (by decide) h.ok.ear (by decide +kernel)
    rw [if_neg hq]
    unfold decO
    rw [if_neg (by rintro (z | z) <;> simp at z), if_neg (by rintro (z | z); exact z rfl; exact z rfl)]
    show (if dBad (numW (wordF r.ear "never") 12) (wordF r.ear "never") r.mom = true then none else if namesBad (splC (Txt.join "," r.lack)) = true then none else some [.tup ((splC (Txt.join "," r.lack)).map D.str), optN (numW (wordF r.ear "never") 12), .bl false]) = _
    rw [ee, splC_back q h.ok.nms, if_neg, if_neg (by rw [names_good h.ok.nms h.ok.few k2]; decide), k1]
    intro z
    unfold dBad at z
    cases e : r.ear with
    | none => rw [e] at z; cases z
    | some n =>
      rw [e, Bool.and_eq_true] at z
      have := of_decide_eq_true z.2
      have := k3 n e
      omega
theorem tail_ne (r : Row) : ∃ d t, tailR r = d :: t := by
  unfold tailR
  split
  · exact ⟨_, _, rfl⟩
  · exact ⟨_, _, rfl⟩
theorem in_int {lo hi : Int} {n : Nat} (h1 : lo ≤ n) (h2 : (n : Int) ≤ hi) : inD lo hi (.int (n : Int)) = true := by
  show (decide (lo ≤ (n : Int)) && decide ((n : Int) ≤ hi)) = true
  rw [decide_eq_true h1, decide_eq_true h2]
  rfl
theorem rowOk_back {r : Row} (h : OkRow r) : rowOk r.key r.grp (numT r.cost) (numT r.mom) = true := by
  unfold rowOk
  have hc := h.cost
  have hm := h.mom
  rw [numW_num (n := r.cost) (k := 4) (by decide) (by omega), numW_num (n := r.mom) (k := 10) (by decide) (by omega), h.key, h.grp]
  show ((true && (true && inD 1 1000 (.int (r.cost : Int)))) && inD 0 1000000000 (.int (r.mom : Int))) = true
  rw [in_int (by omega) (by omega), in_int (by omega) (by omega)]
  rfl
theorem rowO_back {r : Row} (h : GdR r) : rowO ([r.key, r.grp, numT r.cost, numT r.mom] ++ tailR r) = some [.str r.key, .str r.grp, .int (r.cost : Int), .int (r.mom : Int), .tup (r.lack.map D.str), optN r.ear, .bl r.rel] := by
  obtain ⟨d, t, e⟩ := tail_ne r
  have hb := decO_back h
  rw [e] at hb ⊢
  have hc := h.ok.cost
  have hm := h.ok.mom
  show rowO (r.key :: r.grp :: numT r.cost :: numT r.mom :: d :: t) = _
  rw [rowO, if_pos (rowOk_back h.ok), numW_num (n := r.mom) (k := 10) (by decide) (by omega), numW_num (n := r.cost) (k := 4) (by decide) (by omega)]
  rw [show (some r.mom).getD 0 = r.mom from rfl, hb]
  rfl
theorem body_row {r : Row} (h : GdR r) : bodyO (rbody r) = .tup [.str "key", rowD r] := by
  have hw := rwords_wd h.ok
  unfold bodyO rbody
  rw [body_split (ws := rwords r) (by unfold rwords; simp) hw]
  show (if isNon (toldO "key" ([r.key, r.grp, numT r.cost, numT r.mom] ++ tailR r) (Txt.join " " (rwords r))) = true then D.non else .tup [.str (kindO "key"), toldO "key" ([r.key, r.grp, numT r.cost, numT r.mom] ++ tailR r) (Txt.join " " (rwords r))]) = _
  have e : toldO "key" ([r.key, r.grp, numT r.cost, numT r.mom] ++ tailR r) (Txt.join " " (rwords r)) = rowD r := by
    unfold toldO
    rw [if_neg (by decide +kernel), if_neg (by decide +kernel), if_pos rfl, rowO_back h]
    rfl
  rw [e, show kindO "key" = "key" from by decide +kernel]
  rfl
end Toy

namespace Toy
open PySem PyProof.Rows L2 Pf
def vtail (v : Option View) : List Str := match v with
  | none => []
  | some v => vwords v
theorem hwords_eq (a b : Nat) (m : Option Nat) (v : Option View) : hwords a b m v = ("keep" : Str) :: numT a :: numT b :: wordF m "none" :: vtail v := by cases v <;> rfl
structure GdH (a b : Nat) (m : Option Nat) (v : Option View) : Prop where
  ok : OkH a b m v
  vw : ∀ x, v = some x → GdV x
theorem headO_back {a b : Nat} {m : Option Nat} {v : Option View} (h : GdH a b m v) : headO (numT a :: numT b :: wordF m "none" :: vtail v) = .tup [.int (a : Int), .int (b : Int), optN m, viewN v] := by
  have ha := h.ok.a
  have hb := h.ok.b
  have e0 : numW ((numT a :: numT b :: wordF m "none" :: vtail v).getD 0 "") 6 = some a := numW_num (by decide) (by omega)
  have e1 : numW ((numT a :: numT b :: wordF m "none" :: vtail v).getD 1 "") 6 = some b := numW_num (by decide) (by omega)
  have e2 : numW ((numT a :: numT b :: wordF m "none" :: vtail v).getD 2 "") 10 = m := numW_word (by decide) (fun n e => by have := h.ok.m n e; omega) (by decide +kernel)
  have e3 : viewO ((numT a :: numT b :: wordF m "none" :: vtail v).drop 3) = viewN v := by
    cases v with
    | none => rfl
    | some v => exact viewO_back (h.vw v rfl)
  unfold headO
  rw [if_neg (by simp only [List.length_cons]; omega), e0, e1, e2, e3, if_neg, if_neg]
  · rfl
  · intro z
    rw [Bool.and_eq_true, decide_eq_true_iff] at z
    cases v with
    | none => exact absurd z.2 (by show ¬ 3 < 3; omega)
    | some v => cases z.1
  · intro z
    unfold headBad at z
    have k : (inD 0 1000000000 (optN m) || decide ((numT a :: numT b :: wordF m "none" :: vtail v).getD 2 "" = "none")) = true := by
      cases m with
      | none => exact Bool.or_eq_true_iff.mpr (.inr (decide_eq_true rfl))
      | some n =>
        have := h.ok.m n rfl
        exact Bool.or_eq_true_iff.mpr (.inl (in_int (by omega) (by omega)))
    rw [k] at z
    cases z
theorem hwords_wd {a b : Nat} {m : Option Nat} {v : Option View} (h : GdH a b m v) : ∀ x ∈ hwords a b m v, wdOk x = true := by
  intro x hx
  rw [hwords_eq] at hx
  simp only [List.mem_cons] at hx
  rcases hx with hx | hx | hx | hx | hx
  · rw [hx]; decide +kernel
  · rw [hx]; exact wd_num _
  · rw [hx]; exact wd_num _
  · rw [hx]; exact wd_word (by decide +kernel)
  · cases v with
    | none => cases hx
    | some v => exact vwords_wd (h.vw v rfl) x hx
theorem body_head {a b : Nat} {m : Option Nat} {v : Option View} (h : GdH a b m v) : bodyO (hbody a b m v) = .tup [.str "keep", .tup [.int (a : Int), .int (b : Int), optN m, viewN v]] := by
  unfold bodyO hbody
  rw [body_split (by rw [hwords_eq]; simp) (hwords_wd h), hwords_eq]
  dsimp only
  have e : toldO "keep" (numT a :: numT b :: wordF m "none" :: vtail v) (Txt.join " " (("keep" : Str) :: numT a :: numT b :: wordF m "none" :: vtail v)) = .tup [.int (a : Int), .int (b : Int), optN m, viewN v] := by
    unfold toldO
    rw [if_neg (by decide +kernel), if_pos rfl, headO_back h]
  rw [e, show kindO "keep" = "keep" from by decide +kernel]
  rfl
theorem head_split {b : Nat} {m : Option Nat} {v : Option View} (h : GdH 0 b m v) : Txt.split (hbody 0 b m v) " " = hwords 0 b m v := body_split (by rw [hwords_eq]; simp) (hwords_wd h)
theorem body_entry {es : List D} (h : entD es = true) : bodyO (lnE es) = .tup [.str "entry", .tup es] := by
  unfold bodyO
  rw [ln_split h]
  have hp := par_good h
  have key : ∀ (w : Str) (r : List Str), wds es = w :: r → ¬ w = "view" → ¬ w = "keep" → ¬ w = "key" → (match wds es with
    | [] => D.non
    | w :: r => if isNon (toldO w r (lnE es)) = true then .non else .tup [.str (kindO w), toldO w r (lnE es)]) = .tup [.str "entry", .tup es] := by
    intro w r e h1 h2 h3
    rw [e]
    dsimp only
    have e1 : toldO w r (lnE es) = .tup es := by
      unfold toldO entO
      rw [if_neg h1, if_neg h2, if_neg h3, hp, if_pos h]
    rw [e1, show kindO w = "entry" from by unfold kindO; rw [if_neg h1, if_neg h2, if_neg h3]]
    rfl
  rcases ent_shape h with ⟨k, g, c, m, rfl, _⟩ | ⟨k, m, rfl, _⟩
  · exact key "ask" _ rfl (by decide +kernel) (by decide +kernel) (by decide +kernel)
  · exact key "release" _ rfl (by decide +kernel) (by decide +kernel) (by decide +kernel)
def bodyW (ws : List Str) (z : Str) : D := match ws with
  | [] => .non
  | w :: r => if isNon (toldO w r z) = true then .non else .tup [.str (kindO w), toldO w r z]
theorem bodyO_W (z : Str) : bodyO z = bodyW (Txt.split z " ") z := rfl
theorem W_non {w : Str} {r : List Str} {z : Str} (h : isNon (toldO w r z) = true) : isNon (bodyW (w :: r) z) = true := by
  show isNon (if isNon (toldO w r z) = true then .non else .tup [.str (kindO w), toldO w r z]) = true
  rw [if_pos h]
  rfl
theorem told_view {r : List Str} {z : Str} (h : viewO r = .non) : isNon (bodyW (("view" : Str) :: r) z) = true := W_non (by unfold toldO; rw [if_pos rfl, h]; rfl)
theorem told_key {r : List Str} {z : Str} (h : rowO r = none) : isNon (bodyW (("key" : Str) :: r) z) = true := W_non (by unfold toldO; rw [if_neg (by decide +kernel), if_neg (by decide +kernel), if_pos rfl, h]; rfl)
theorem viewO_bad {ws : List Str} (h : viewB (numW (ws.getD 0 "") 6) (numW (ws.getD 1 "") 6) (ws.drop 2) = false) : viewO ws = .non := by
  unfold viewO
  split
  · rfl
  · split
    · rfl
    · rw [if_neg (by rw [h]; decide)]
theorem viewB_name {a b : Option Nat} {hs : List Str} (h : ∃ z ∈ hs, isNm z = false) : viewB a b hs = false := by
  obtain ⟨z, hz, hb⟩ := h
  have : (hs.map isNm).all id = false := by
    rw [List.all_map, List.all_eq_false]
    exact ⟨z, hz, by show ¬ isNm z = true; rw [hb]; decide⟩
  unfold viewB
  rw [this, Bool.and_false, Bool.false_and, Bool.and_false]
theorem viewB_num {b : Option Nat} {hs : List Str} : viewB none b hs = false := by
  unfold viewB
  rw [show inD 0 999999 (optN none) = false from rfl, Bool.false_and, Bool.false_and]
theorem decO_bad {ws : List Str} {m : Nat} (h1 : ws.length ≠ 1) (h3 : ws.length ≠ 3) : decO ws m = none := by
  unfold decO
  rw [if_neg (by rintro (q | q) <;> rw [q] at h1 <;> exact h1 rfl), if_pos (.inl h3)]
theorem decO_one {z : Str} {m : Nat} (h1 : ¬ z = "let") (h2 : ¬ z = "back") : decO [z] m = none := by
  unfold decO
  rw [if_neg (by rintro (q | q) <;> injection q with q _; exact h1 q; exact h2 q), if_pos (.inl (by simp))]
theorem decO_three {a b c : Str} {m : Nat} (h : namesBad (splC c) = true) : decO [a, b, c] m = none := by
  unfold decO
  rw [if_neg (by rintro (q | q) <;> simp at q)]
  split
  · rfl
  · split
    · rfl
    · rw [if_pos (show namesBad (splC (([a, b, c] : List Str).getD 2 "")) = true from h)]
theorem rowO_dec {k g c t d : Str} {r : List Str} (h : ∀ m, decO (d :: r) m = none) : rowO (k :: g :: c :: t :: d :: r) = none := by
  rw [rowO]
  split
  · rw [h]
  · rfl
theorem rowO_key {g c t d : Str} {r : List Str} : rowO (("" : Str) :: g :: c :: t :: d :: r) = none := by
  rw [rowO, if_neg]
  unfold rowOk
  rw [show isKy "" = false from by decide +kernel, Bool.false_and, Bool.false_and]
  decide
theorem ent_word {w : Str} {r : List D} (h1 : ¬ w = "ask") (h2 : ¬ w = "release") : entD (.str w :: r) = false := by
  match r with
  | [] => rfl
  | [_] => rfl
  | [a, b] => show (decide (w = "release") && _) = false; rw [decide_eq_false h2]; rfl
  | [_, _, _] => rfl
  | [a, b, c, d] => show (decide (w = "ask") && _) = false; rw [decide_eq_false h1]; rfl
  | _ :: _ :: _ :: _ :: _ :: _ => rfl
theorem par_head {w x : Str} {r : List Str} : ∃ t, parW (w :: x :: r) = .str w :: t := by
  unfold parW
  split
  · exact ⟨_, rfl⟩
  · exact ⟨_, rfl⟩
theorem told_no {x z : Str} {r : List Str} (hs : Txt.split z " " = ("" : Str) :: x :: r) : isNon (bodyW (("" : Str) :: x :: r) z) = true := W_non (by
  unfold toldO entO parE
  rw [if_neg (by decide +kernel), if_neg (by decide +kernel), if_neg (by decide +kernel), hs]
  obtain ⟨t, e⟩ := par_head (w := "") (x := x) (r := r)
  rw [e, if_neg (by rw [ent_word (by decide +kernel) (by decide +kernel)]; decide)]
  rfl)
/-- a last word that is told with a newline -/
theorem nl_names {z : Str} : namesBad (splC (z ++ "\n")) = true := by
  have hm : 10 ∈ (z ++ "\n" : Str).cps.toList := by
    have e : (z ++ "\n" : Str).cps.toList = z.cps.toList ++ ("\n" : Str).cps.toList := TL.tl_append z "\n"
    rw [e]
    exact List.mem_append_right _ (by decide +kernel)
  have hj : Txt.join "," (Txt.split (z ++ "\n") ",") = z ++ "\n" := by rw [TL.join_eq, PySem.StrLaws.join_split]
  rw [← hj] at hm
  unfold namesBad splC
  have hb : ((Txt.split (z ++ "\n") ",").map isNm).all id = false := by
    rcases mem_join hm with q | ⟨x, hx, q⟩
    · exact absurd q (by decide +kernel)
    · rw [List.all_map, List.all_eq_false]
      refine ⟨x, hx, fun h => ?_⟩
      have := nm_range (nm_all h 10 q)
      omega
  rw [hb]
  cases decide (8 < (Txt.split (z ++ "\n") ",").length) <;> rfl
theorem nl_name {z : Str} : isNm (z ++ "\n") = false := by
  rw [Bool.eq_false_iff]
  intro h
  have e : (z ++ "\n" : Str).cps.toList = z.cps.toList ++ ("\n" : Str).cps.toList := TL.tl_append z "\n"
  have := nm_range (nm_all h 10 (by rw [e]; exact List.mem_append_right _ (by decide +kernel)))
  omega
structure Spo (ws : List Str) : Prop where
  wd : ∀ x ∈ ws, wdOk x = true
  sh : ∃ a b t l, ws = a :: b :: (t ++ [l])
  snoc : ∀ x z : Str, isNm x = false → isNon (bodyW (ws ++ [x]) z) = true
  two : ∀ (a : Str) (r : List Str) (z : Str), ws = a :: r → isNon (bodyW (a :: "" :: r) z) = true
  last : ∀ (t : List Str) (l z : Str), ws = t ++ [l] → isNon (bodyW (t ++ [l ++ "\n"]) z) = true
theorem snoc_of {α : Type} {xs : List α} (h : 1 ≤ xs.length) : ∃ t l, xs = t ++ [l] := by
  rcases List.eq_nil_or_concat xs with e | ⟨t, l, e⟩
  · rw [e] at h; simp at h
  · exact ⟨t, l, by rw [e, List.concat_eq_append]⟩
theorem spo_view {v : View} (h : GdV v) : Spo (vall v) where
  wd := vall_wd h
  sh := by
    obtain ⟨t, l, e⟩ := snoc_of h.pos
    exact ⟨"view", numT v.1, wordF v.2.1 "none" :: t, l, by unfold vall vwords; rw [e]; rfl⟩
  snoc := fun x z hx => told_view (r := vwords v ++ [x]) (viewO_bad (viewB_name ⟨x, by show x ∈ v.2.2 ++ [x]; simp, hx⟩))
  two := fun a r z e => by
    unfold vall at e
    injection e with e1 e2
    subst e1; subst e2
    exact told_view (viewO_bad (by
      show viewB (numW "" 6) _ _ = false
      rw [show numW "" 6 = none from by decide +kernel]
      exact viewB_num))
  last := fun t l z e => by
    obtain ⟨t', l', e'⟩ := snoc_of h.pos
    unfold vall vwords at e
    rw [e', show (("view" : Str) :: numT v.1 :: wordF v.2.1 "none" :: (t' ++ [l']) : List Str) = (("view" : Str) :: numT v.1 :: wordF v.2.1 "none" :: t') ++ [l'] from rfl] at e
    obtain ⟨e1, e2⟩ := List.append_inj' e rfl
    injection e2 with e2 _
    subst e1; subst e2
    exact told_view (r := numT v.1 :: wordF v.2.1 "none" :: (t' ++ [l' ++ "\n"])) (viewO_bad (viewB_name ⟨l' ++ "\n", by show l' ++ "\n" ∈ t' ++ [l' ++ "\n"]; simp, nl_name⟩))
theorem spo_row {r : Row} (h : OkRow r) : Spo (rwords r) where
  wd := rwords_wd h
  sh := by
    have : 1 ≤ (tailR r).length := by unfold tailR; split <;> simp
    obtain ⟨t, l, e⟩ := snoc_of this
    exact ⟨"key", r.key, [r.grp, numT r.cost, numT r.mom] ++ t, l, by unfold rwords; rw [e]; rfl⟩
  snoc := fun x z _ => by
    unfold rwords tailR
    split
    · exact told_key (r := r.key :: r.grp :: numT r.cost :: numT r.mom :: _ :: [x]) (rowO_dec fun m => decO_bad (by simp) (by simp))
    · exact told_key (r := r.key :: r.grp :: numT r.cost :: numT r.mom :: "refused" :: [wordF r.ear "never", Txt.join "," r.lack, x]) (rowO_dec fun m => decO_bad (by simp) (by simp))
  two := fun a r' z e => by
    obtain ⟨d, t, e2⟩ := tail_ne r
    unfold rwords at e
    rw [e2] at e
    injection e with e1 e3
    subst e1
    rw [← e3]
    exact told_key (r := "" :: r.key :: r.grp :: numT r.cost :: numT r.mom :: d :: t) rowO_key
  last := fun t l z e => by
    unfold rwords tailR at e
    split at e
    · have e' : ([("key" : Str), r.key, r.grp, numT r.cost, numT r.mom] ++ [if r.rel = true then ("back" : Str) else "let"]) = t ++ [l] := e
      obtain ⟨e1, e2⟩ := List.append_inj' e' rfl
      injection e2 with e2 _
      rw [← e1]
      have h2 : ∀ m, decO [l ++ "\n"] m = none := fun m => by
        rw [← e2]
        split
        · exact decO_one (by decide +kernel) (by decide +kernel)
        · exact decO_one (by decide +kernel) (by decide +kernel)
      exact told_key (r := r.key :: r.grp :: numT r.cost :: numT r.mom :: (l ++ "\n") :: []) (rowO_dec h2)
    · have e' : ([("key" : Str), r.key, r.grp, numT r.cost, numT r.mom, "refused", wordF r.ear "never"] ++ [Txt.join "," r.lack]) = t ++ [l] := e
      obtain ⟨e1, e2⟩ := List.append_inj' e' rfl
      injection e2 with e2 _
      rw [← e1, ← e2]
      exact told_key (r := r.key :: r.grp :: numT r.cost :: numT r.mom :: "refused" :: [wordF r.ear "never", Txt.join "," r.lack ++ "\n"]) (rowO_dec fun m => decO_three nl_names)
end Toy

namespace Toy
open PySem PyProof.Rows L2 Pf
theorem join_snoc (y x : Str) (ys : List Str) (z : Str) : Txt.join y (x :: (ys ++ [z])) = Txt.join y (x :: ys) ++ y ++ z := by
  rw [← join_fold, ← join_fold, List.foldl_append]; rfl
theorem join_two (y a b : Str) (r : List Str) : Txt.join y (a :: b :: r) = a ++ y ++ Txt.join y (b :: r) := by rw [TL.join_eq, TL.join_eq]; rfl
theorem strOk_wd {z : Str} (h : wdOk z = true) : PySem.PyData.strOk z = true := (strOk_iff z).mpr fun c hc => by have := (wd_iff.mp h c hc).2; omega
theorem cps_app (a b : Str) : (a ++ b).cps.toList = a.cps.toList ++ b.cps.toList := TL.tl_append a b
def spoiltL (z : Str) : List Str := [z ++ " ", " " ++ z, rep1 z " " "  ", z ++ " x-", z ++ "\n"]
structure OkSp (z y : Str) : Prop where
  len : y.length ≤ z.length + 4
  ok : PySem.PyData.strOk y = true
  non : isNon (bodyO y) = true
theorem sp_of {ws : List Str} {y : Str} (e : y = Txt.join " " ws) (hne : ws ≠ []) (h : ∀ x ∈ ws, wdOk x = true) (hn : ∀ z, Txt.split z " " = ws → isNon (bodyW ws z) = true) : PySem.PyData.strOk y = true ∧ isNon (bodyO y) = true := by
  have hs := body_split hne h
  rw [← e] at hs
  refine ⟨by rw [e]; exact body_ok h, ?_⟩
  rw [bodyO_W, hs]
  exact hn y hs
theorem wd_lit1 : wdOk "" = true ∧ wdOk "x-" = true := ⟨by decide +kernel, by decide +kernel⟩
theorem len_app (a b : Str) : (a ++ b).length = a.length + b.length := app_len a b
theorem spoilt_all {ws : List Str} (S : Spo ws) : ∀ y ∈ spoiltL (Txt.join " " ws), OkSp (Txt.join " " ws) y := by
  obtain ⟨a, b, t, l, e⟩ := S.sh
  have l1 : (" " : Str).length = 1 ∧ ("  " : Str).length = 2 ∧ (" x-" : Str).length = 3 ∧ ("\n" : Str).length = 1 := by decide +kernel
  have hwd := S.wd
  intro y hy
  unfold spoiltL at hy
  simp only [List.mem_cons, List.not_mem_nil, or_false] at hy
  rcases hy with hy | hy | hy | hy | hy <;> rw [hy]
  · -- body + " "
    have e1 : Txt.join " " ws ++ " " = Txt.join " " (ws ++ [("" : Str)]) := by
      rw [e, show (a :: b :: (t ++ [l])) ++ [("" : Str)] = a :: ((b :: (t ++ [l])) ++ [("" : Str)]) from rfl, join_snoc]
      exact TL.ext_tl (by show (_ : Str).cps.toList = (_ : Str).cps.toList; rw [cps_app, cps_app, cps_app, show ("" : Str).cps.toList = [] from by decide +kernel, List.append_nil])
    obtain ⟨k1, k2⟩ := sp_of e1 (by simp) (fun x hx => by
      rcases List.mem_append.mp hx with q | q
      · exact hwd x q
      · rw [List.mem_singleton.mp q]; exact wd_lit1.1) fun z _ => S.snoc "" z (by decide +kernel)
    exact ⟨by rw [len_app, l1.1]; omega, k1, k2⟩
  · have e1 : " " ++ Txt.join " " ws = Txt.join " " (("" : Str) :: ws) := by
      rw [e, join_two " " "" a, ← e]
      exact TL.ext_tl (by show (_ : Str).cps.toList = (_ : Str).cps.toList; rw [cps_app, cps_app, cps_app, show ("" : Str).cps.toList = [] from by decide +kernel, List.nil_append, e])
    obtain ⟨k1, k2⟩ := sp_of e1 (by simp) (fun x hx => by
      rcases List.mem_cons.mp hx with q | q
      · rw [q]; exact wd_lit1.1
      · exact hwd x q) fun z hz => by rw [e] at hz ⊢; exact told_no hz
    exact ⟨by rw [len_app, l1.1]; omega, k1, k2⟩
  · have e0 : Txt.join " " ws = tx (a.cps.toList ++ 32 :: (Txt.join " " (b :: (t ++ [l]))).cps.toList) := by
      rw [e, join_two]
      refine TL.ext_tl ?_
      show (_ : Str).cps.toList = _
      rw [cps_app, cps_app, show (" " : Str).cps.toList = [32] from by decide +kernel, List.append_assoc]
      rfl
    have ha : 32 ∉ a.cps.toList := fun h => (wd_iff.mp (hwd a (by rw [e]; simp)) 32 h).1 rfl
    have e2 : rep1 (Txt.join " " ws) " " "  " = tx (a.cps.toList ++ ([32, 32] ++ (Txt.join " " (b :: (t ++ [l]))).cps.toList)) := by
      rw [e0, show (" " : Str) = tx [32] from by decide +kernel, rep1_space ha, show ("  " : Str).cps.toList = [32, 32] from by decide +kernel]
    have e1 : rep1 (Txt.join " " ws) " " "  " = Txt.join " " (a :: ("" : Str) :: b :: (t ++ [l])) := by
      rw [e2, join_two, join_two]
      refine TL.ext_tl ?_
      show _ = (_ : Str).cps.toList
      rw [cps_app, cps_app, cps_app, cps_app, show (" " : Str).cps.toList = [32] from by decide +kernel, show ("" : Str).cps.toList = [] from by decide +kernel, List.append_assoc]
      rfl
    obtain ⟨k1, k2⟩ := sp_of e1 (by simp) (fun x hx => by
      rcases List.mem_cons.mp hx with q | q
      · rw [q]; exact hwd a (by rw [e]; simp)
      · rcases List.mem_cons.mp q with q | q
        · rw [q]; exact wd_lit1.1
        · exact hwd x (by rw [e]; exact List.mem_cons_of_mem _ q)) fun z _ => S.two a (b :: (t ++ [l])) z e
    refine ⟨?_, k1, k2⟩
    have h3 : (Txt.join " " ws).length = a.cps.toList.length + ((Txt.join " " (b :: (t ++ [l]))).cps.toList.length + 1) := by rw [e0, tx_len, List.length_append, List.length_cons]
    rw [e2, tx_len, h3]
    simp only [List.length_append, List.length_cons, List.length_nil]
    omega
  · have e1 : Txt.join " " ws ++ " x-" = Txt.join " " (ws ++ [("x-" : Str)]) := by
      rw [e, show (a :: b :: (t ++ [l])) ++ [("x-" : Str)] = a :: ((b :: (t ++ [l])) ++ [("x-" : Str)]) from rfl, join_snoc, sapp_assoc, show (" " : Str) ++ "x-" = " x-" from by decide +kernel]
    obtain ⟨k1, k2⟩ := sp_of e1 (by simp) (fun x hx => by
      rcases List.mem_append.mp hx with q | q
      · exact hwd x q
      · rw [List.mem_singleton.mp q]; exact wd_lit1.2) fun z _ => S.snoc "x-" z (by decide +kernel)
    exact ⟨by rw [len_app, l1.2.2.1]; omega, k1, k2⟩
  · have e4 : ws = (a :: b :: t) ++ [l] := by rw [e]; rfl
    have e1 : Txt.join " " ws ++ "\n" = Txt.join " " ((a :: b :: t) ++ [l ++ "\n"]) := by
      rw [e4, show (a :: b :: t) ++ [l] = a :: ((b :: t) ++ [l]) from rfl, show (a :: b :: t) ++ [l ++ "\n"] = a :: ((b :: t) ++ [l ++ "\n"]) from rfl, join_snoc, join_snoc, sapp_assoc]
    obtain ⟨k1, k2⟩ := sp_of e1 (by simp) (fun x hx => by
      rcases List.mem_append.mp hx with q | q
      · exact hwd x (by rw [e4]; exact List.mem_append_left _ q)
      · rw [List.mem_singleton.mp q]
        refine wd_iff.mpr fun c hc => ?_
        rw [cps_app] at hc
        rcases List.mem_append.mp hc with q2 | q2
        · exact wd_iff.mp (hwd l (by rw [e4]; simp)) c q2
        · rw [show ("\n" : Str).cps.toList = [10] from by decide +kernel, List.mem_singleton] at q2
          omega) fun z _ => S.last (a :: b :: t) l z e4
    exact ⟨by rw [len_app, l1.2.2.2]; omega, k1, k2⟩
end Toy

namespace Toy
open PySem PyProof.Rows L2 Pf
theorem lits : ("view" : Str).length = 4 ∧ ("key" : Str).length = 3 ∧ ("keep" : Str).length = 4 ∧ ("entry" : Str).length = 5 ∧ ("ask" : Str).length = 3 ∧ ("release" : Str).length = 7 := by decide +kernel
theorem sh_view {n : Nat} {v : View} (g : GdV v) : ∃ b, shD (n + 2) (viewD v) = some b ∧ b ≤ 3000 := by
  obtain ⟨b1, h1, k1⟩ := sh_strs (n := n) (m := 12) (zs := v.2.2) fun z q => ⟨strOk_wd (wd_nm (g.nms.nm z q)), g.ok.nms z q⟩
  obtain ⟨b2, h2, k2⟩ := sh_optN (n := n + 1) (o := v.2.1) fun k e => by have := g.ok.due k e; omega
  have := g.ok.num
  refine ⟨_, sh_tup (n := n + 1) (sh_cons (sh_int (by omega)) (sh_cons h2 (sh_cons (sh_tup h1) sh_nil))), ?_⟩
  have := g.few
  omega
theorem sh_viewN {n : Nat} {x : Option View} (g : ∀ v, x = some v → GdV v) : ∃ b, shD (n + 2) (viewN x) = some b ∧ b ≤ 3000 := by
  cases x with
  | none => exact ⟨4, sh_non, by decide⟩
  | some v => exact sh_view (g v rfl)
def rowL (r : Row) : List D := [.str r.key, .str r.grp, .int (r.cost : Int), .int (r.mom : Int), .tup (r.lack.map D.str), optN r.ear, .bl r.rel]
theorem ok_ky {z : Str} (h : isKy z = true) : PySem.PyData.strOk z = true ∧ z.length ≤ 20 := ⟨strOk_wd (wd_ky h), ky_len h⟩
theorem ok_nmS {z : Str} (h : isNm z = true) : PySem.PyData.strOk z = true ∧ z.length ≤ 12 := ⟨strOk_wd (wd_nm h), nm_len h⟩
theorem sh_row {n : Nat} {r : Row} (g : OkRow r) : ∃ b, shD (n + 2) (.tup (rowL r)) = some b ∧ b ≤ 3000 := by
  obtain ⟨b1, h1, k1⟩ := sh_strs (n := n) (m := 12) (zs := r.lack) fun z q => ok_nmS (g.nms z q)
  obtain ⟨b2, h2, k2⟩ := sh_optN (n := n + 1) (o := r.ear) fun k e => by have := g.ear k e; omega
  have c1 := g.cost
  have c2 := g.mom
  refine ⟨_, sh_tup (n := n + 1) (sh_cons (sh_str (ok_ky g.key).1) (sh_cons (sh_str (ok_nmS g.grp).1) (sh_cons (sh_int (by omega)) (sh_cons (sh_int (by omega)) (sh_cons (sh_tup h1) (sh_cons h2 (sh_cons sh_bl sh_nil))))))), ?_⟩
  have := g.few
  have := (ok_ky g.key).2
  have := (ok_nmS g.grp).2
  omega
theorem sh_two {n b : Nat} {w : Str} {d : D} (hw : PySem.PyData.strOk w = true) (hl : w.length ≤ 10) (h : shD n d = some b) (hb : b ≤ 3000) : ∃ c, shD (n + 1) (.tup [.str w, d]) = some c ∧ c ≤ 16000000 := ⟨_, sh_tup (sh_cons (sh_str hw) (sh_cons h sh_nil)), by omega⟩
theorem sh_head {a b : Nat} {m : Option Nat} {x : Option View} (g : GdH a b m x) : ∃ c, shD 3 (.tup [.int (a : Int), .int (b : Int), optN m, viewN x]) = some c ∧ c ≤ 3000 + 200 := by
  obtain ⟨b1, h1, k1⟩ := sh_viewN (n := 0) g.vw
  obtain ⟨b2, h2, k2⟩ := sh_optN (n := 2) (o := m) fun k e => by have := g.ok.m k e; omega
  have := g.ok.a
  have := g.ok.b
  exact ⟨_, sh_tup (n := 2) (sh_cons (sh_int (by omega)) (sh_cons (sh_int (by omega)) (sh_cons h2 (sh_cons h1 sh_nil)))), by omega⟩
def askE (r : Row) : List D := [.str "ask", .str r.key, .str r.grp, .int (r.cost : Int), .int (r.mom : Int)]
def relE (r : Row) : List D := [.str "release", .str r.key, .int (r.mom : Int)]
theorem ent_ask {r : Row} (g : OkRow r) : entD (askE r) = true := by
  have c1 := g.cost
  have c2 := g.mom
  show (decide (("ask" : Str) = "ask") && ((isKy r.key && (isNm r.grp && inD 1 1000 (.int (r.cost : Int)))) && inD 0 1000000000 (.int (r.mom : Int)))) = true
  rw [g.key, g.grp, in_int (by omega) (by omega), in_int (by omega) (by omega), decide_eq_true rfl]
  rfl
theorem ent_rel {r : Row} (g : OkRow r) : entD (relE r) = true := by
  have c2 := g.mom
  show (decide (("release" : Str) = "release") && (isKy r.key && inD 0 1000000000 (.int (r.mom : Int)))) = true
  rw [g.key, in_int (by omega) (by omega), decide_eq_true rfl]
  rfl
theorem sh_ask {n : Nat} {r : Row} (g : OkRow r) : ∃ b, shD (n + 1) (.tup (askE r)) = some b ∧ b ≤ 3000 := by
  have c1 := g.cost
  have c2 := g.mom
  refine ⟨_, sh_tup (sh_cons (sh_str (by decide +kernel)) (sh_cons (sh_str (ok_ky g.key).1) (sh_cons (sh_str (ok_nmS g.grp).1) (sh_cons (sh_int (by omega)) (sh_cons (sh_int (by omega)) sh_nil))))), ?_⟩
  have := (ok_ky g.key).2
  have := (ok_nmS g.grp).2
  have := lits.2.2.2.2.1
  omega
theorem sh_rel {n : Nat} {r : Row} (g : OkRow r) : ∃ b, shD (n + 1) (.tup (relE r)) = some b ∧ b ≤ 3000 := by
  have c2 := g.mom
  refine ⟨_, sh_tup (sh_cons (sh_str (by decide +kernel)) (sh_cons (sh_str (ok_ky g.key).1) (sh_cons (sh_int (by omega)) sh_nil))), ?_⟩
  have := (ok_ky g.key).2
  have := lits.2.2.2.2.2
  omega
theorem ln_ok {es : List D} (h : entD es = true) : PySem.PyData.strOk (lnE es) = true := (strOk_iff _).mpr fun c hc => by
  rcases ln_signs h c hc with q | q
  · omega
  · have := ky_range q
    omega
theorem one_f (a : Str) : (!decide (a = a)) = false := by simp
theorem two_f (a b : Str) : (!decide (a = a) || !decide (b = b)) = false := by simp
section
variable {P : Program} {w : World} {K : PySem.W.Frag} {mg : Str → Option Value} {base : Heap}
abbrev nLaw : List Str := ["script", "numbers", "view", "row", "moment", "last", "head", "body", "text", "entry", "spoilt", "part", "other"]
abbrev sLaw : Stmt := top 49
theorem scLaw : FnScope nLaw ["script"] (defScope sLaw) := ⟨rfl, rfl, rfl, by decide +kernel, rfl, by decide +kernel, by decide +kernel⟩
def gLaw : List D → (D → Prop) → Prop := fun ds P => ∃ (ns : List Int), ds = [.scr ns] ∧ ns.length ≤ 63 ∧ P = fun d => d = .bl true
theorem ok_law {f : Addr} {fd : FuncData} (F : Fun K "law" "law" sLaw f fd) (T : Bt mg) (hrp : mg "repr" = none) (cN : PFn P w K mg base 2 "_law_numbers" 2 gNumbers) (cVi : PFn P w K mg base 2 "_law_view" 2 gVi) (cKr : PFn P w K mg base 2 "_law_keeper_row" 2 gKr) (cVb : PFn P w K mg base 3 "view_body" 1 gVb) (cLv : PFn P w K mg base 2 "_law_view_body" 1 gVb) (cRo : PFn P w K mg base 2 "row_body" 1 gRo) (cLr : PFn P w K mg base 1 "_law_row_body" 1 gRo) (cHb : PFn P w K mg base 3 "head_body" 4 gHb) (cLh : PFn P w K mg base 2 "_law_head_body" 4 gLh) (cRb : PFn P w K mg base 6 "read_body" 1 gRb) (cWr : PFn P w K mg base 1 "_law_wrong_bodies" 0 gWr) : FnG P w K mg base 7 f fd ["script"] (spP K 1 gLaw) := by
  refine fn_g F scLaw fun cdv s H ds Pd hr hG => ?_
  obtain ⟨sc, rfl, hsc, rfl⟩ := hG
  have nd := scLaw.nd
  refine jss_cons (js_setP (i := 1) (jp_call cN hr (ja_cons (jv 0 rfl) (ja_cons j_int ja_nil)) ⟨sc, 60, rfl, hsc, by decide, rfl⟩) ?_ nd)
  rintro _ ⟨ns, rfl, hl, hb⟩
  have hx : ∀ i : Nat, i < 60 → 0 ≤ ns.getD i 0 ∧ ns.getD i 0 < 1009 := fun i hi => hb _ (by rw [List.getD_eq_getElem?_getD, List.getElem?_eq_getElem (by omega)]; exact List.getElem_mem _)
  refine jss_cons (js_setP (i := 2) (jp_call cVi hr (ja_cons (jv 1 rfl) (ja_cons j_int ja_nil)) ⟨ns, rfl, hl, rfl⟩) ?_ nd)
  rintro _ ⟨v, rfl, gv⟩
  obtain ⟨vw1, vw2⟩ := gv.ok.words
  have vall20 : ∀ x ∈ vall v, x.length ≤ 20 := fun x hx => by
    rcases List.mem_cons.mp hx with rfl | hx
    · decide +kernel
    · exact vw1 x hx
  have vl : (vbody v).length ≤ 900 := body_len (ws := vall v) (m := 20) (k := 23) vall20 (by unfold vall; rw [List.length_cons]; omega) (by decide)
  have vo : PySem.PyData.strOk (vbody v) = true := body_ok (vall_wd gv)
  obtain ⟨bv, sv, bv2⟩ := sh_view (n := 0) gv
  obtain ⟨cv, sv2, cv2⟩ := sh_two (w := "view") (by decide +kernel) (by rw [lits.1]; decide) sv bv2
  have gVv : gVb [viewD v] (fun d => d = .str (vbody v)) := ⟨v, rfl, gv.ok, rfl⟩
  refine jss_cons (js_ifF (JT.to (jt_w (jw_or (jt_cm (j_call cVb hr (ja_cons (jv 2 rfl) ja_nil) gVv (fun _ h => h)) (j_call cLv hr (ja_cons (jv 2 rfl) ja_nil) gVv (fun _ h => h)) cd_neS) (fun _ => jw_or1 (jt_cm (j_reprD 3 rfl hr.units hrp (ja_cons (J.to (j_call cRb hr (ja_cons (j_call cLv hr (ja_cons (jv 2 rfl) ja_nil) gVv (fun _ h => h)) ja_nil) ⟨_, rfl, vl, vo, rfl⟩ (fun _ h => h)) (body_view gv)) ja_nil) sv2 rfl cv2) (j_reprD 3 rfl hr.units hrp (ja_cons (j_tup (ja_cons j_str (ja_cons (jv 2 rfl) ja_nil))) ja_nil) sv2 rfl cv2) cd_neS)))) (two_f _ _)) (jss_nil ?_))
  refine jss_cons (js_setP (i := 3) (jp_call cKr hr (ja_cons (jv 1 rfl) (ja_cons j_int ja_nil)) ⟨ns, rfl, hl, hb, rfl⟩) ?_ nd)
  rintro _ ⟨r, rfl, gr⟩
  obtain ⟨rw1, rw2⟩ := gr.ok.words
  have rl : (rbody r).length ≤ 880 := by
    have h1 := sum_le rw1
    have h2 := Nat.mul_le_mul_right 104 rw2
    have h3 := join_len " " (rwords r)
    rw [show (" " : Str).length = 1 from by decide +kernel] at h3
    show (Txt.join " " (rwords r)).length ≤ _
    omega
  have ro : PySem.PyData.strOk (rbody r) = true := body_ok (rwords_wd gr.ok)
  obtain ⟨br, sr, br2⟩ := sh_row (n := 0) gr.ok
  obtain ⟨cr, sr2, cr2⟩ := sh_two (w := "key") (by decide +kernel) (by rw [lits.2.1]; decide) sr br2
  have gRr' : gRo [rowD r] (fun d => d = .str (rbody r)) := ⟨r, rfl, gr.ok, rfl⟩
  refine jss_cons (js_ifF (JT.to (jt_w (jw_or (jt_cm (j_call cRo hr (ja_cons (jv 3 rfl) ja_nil) gRr' (fun _ h => h)) (j_call cLr hr (ja_cons (jv 3 rfl) ja_nil) gRr' (fun _ h => h)) cd_neS) (fun _ => jw_or1 (jt_cm (j_reprD (d := .tup [.str "key", .tup (rowL r)]) 3 rfl hr.units hrp (ja_cons (J.to (j_call cRb hr (ja_cons (j_call cLr hr (ja_cons (jv 3 rfl) ja_nil) gRr' (fun _ h => h)) ja_nil) ⟨_, rfl, by omega, ro, rfl⟩ (fun _ h => h)) (body_row gr)) ja_nil) sr2 rfl cr2) (j_reprD (d := .tup [.str "key", .tup (rowL r)]) 3 rfl hr.units hrp (ja_cons (j_tup (ja_cons j_str (ja_cons (jv 3 rfl) ja_nil))) ja_nil) sr2 rfl cr2) cd_neS)))) (two_f _ _)) (jss_nil ?_))
  have h30 := hx 30 (by omega)
  have h31 := hx 31 (by omega)
  have h32 := hx 32 (by omega)
  obtain ⟨dm, hdm, hmm⟩ := atI_mem (L := [D.non, D.int 0, D.int (ns.getD (30 : Int).toNat 0 * 991)]) (i := ns.getD (30 : Int).toNat 0 % 3) (by omega) (by simp only [List.length_cons, List.length_nil]; omega)
  obtain ⟨mo, rfl, hmo⟩ : ∃ mo : Option Nat, dm = optN mo ∧ ∀ n, mo = some n → n ≤ 1000000000 := by
    simp only [List.mem_cons, List.not_mem_nil, or_false] at hmm
    rcases hmm with h | h | h
    · exact ⟨none, h, fun n e => by cases e⟩
    · exact ⟨some 0, h, fun n e => by cases e; omega⟩
    · refine ⟨some (ns.getD 30 0 * 991).toNat, by rw [h, show ns.getD (30 : Int).toNat 0 = ns.getD 30 0 from rfl]; exact congrArg D.int (by omega), fun n e => by cases e; omega⟩
  refine jss_cons (js_set (i := 4) (j_ix (j_tup (ja_cons j_non (ja_cons j_int (ja_cons (j_bin (j_ix (jv 1 rfl) j_int (ixd_I (by omega) (by omega))) j_int (od_mulI (cmulR (by decide) (by decide)))) ja_nil)))) (j_bin (jb_int T (ja_cons (j_ix (jv 1 rfl) j_int (ixd_I (by omega) (by omega))) ja_nil)) j_int (od_modI (by decide))) (ixd_T hdm)) ?_ nd)
  obtain ⟨a, ha, ha2⟩ : ∃ a : Nat, (ns.getD (31 : Int).toNat 0 * 997 % 1000000 : Int) = (a : Int) ∧ a < 1000000 := ⟨(ns.getD (31 : Int).toNat 0 * 997 % 1000000 : Int).toNat, by omega, by omega⟩
  obtain ⟨b, hbb, hb2⟩ : ∃ b : Nat, ns.getD (32 : Int).toNat 0 = (b : Int) ∧ b < 1000000 := ⟨(ns.getD 32 0).toNat, by show ns.getD 32 0 = _; omega, by omega⟩
  refine jss_mid (fun ρ => ∃ o5 o6 o7 o8 : Option SV, ρ = [some (.fz (.scr sc)), some (.fz (.lst (ns.map D.int))), some (.fz (viewD v)), some (.fz (rowD r)), some (.fz (optN mo)), o5, o6, o7, o8, none, none, none, none])
    (js_each (i := 5) [none, some v] viewN (fun k ρ => ∃ o5 o6 o7 o8 : Option SV, ρ = [some (.fz (.scr sc)), some (.fz (.lst (ns.map D.int))), some (.fz (viewD v)), some (.fz (rowD r)), some (.fz (optN mo)), o5, o6, o7, o8, none, none, none, none]) (ji_list (J.to (j_lst (ja_cons j_non (ja_cons (jv 2 rfl) ja_nil))) rfl)) nd ⟨none, none, none, none, rfl⟩ ?_ ?_) ?_
  · rintro k x _ hk ⟨o5, o6, o7, o8, rfl⟩
    have gx : ∀ y, x = some y → GdV y := fun y e => by
      have hm := List.mem_of_getElem? hk
      simp only [List.mem_cons, List.not_mem_nil, or_false] at hm
      rcases hm with q | q
      · rw [q] at e; cases e
      · rw [q] at e; cases e; exact gv
    have okx : ∀ a' : Nat, a' < 1000000 → OkH a' b mo x := fun a' h => ⟨h, hb2, hmo, fun y e => (gx y e).ok⟩
    have gh : GdH a b mo x := ⟨okx a ha2, gx⟩
    have gh0 : GdH 0 b mo x := ⟨okx 0 (by decide), gx⟩
    obtain ⟨hw1, hw2⟩ := gh.ok.words
    obtain ⟨h01, h02⟩ := gh0.ok.words
    have hl0 : (hbody 0 b mo x).length ≤ 900 := body_len (m := 20) (k := 26) h01 h02 (by decide)
    have hla : (hbody a b mo x).length ≤ 900 := body_len (m := 20) (k := 26) hw1 hw2 (by decide)
    have hoa : PySem.PyData.strOk (hbody a b mo x) = true := body_ok (hwords_wd gh)
    have hn4 : 4 ≤ (hwords 0 b mo x).length := by rw [hwords_eq]; simp
    refine jss_cons (js_set (i := 6) (J.to (j_tup (ja_cons (J.to (j_bin (jb_int T (ja_cons (j_bin (j_ix (jv 1 rfl) j_int (ixd_I (by omega) (by omega))) j_int (od_mulI (cmulR (by decide) (by decide)))) ja_nil)) j_int (od_modI (by decide))) (congrArg D.int ha)) (ja_cons (J.to (j_ix (jv 1 rfl) j_int (ixd_I (by omega) (by omega))) (congrArg D.int hbb)) (ja_cons (jv 4 rfl) (ja_cons (jv 5 rfl) ja_nil))))) (d' := .tup [.int (a : Int), .int (b : Int), optN mo, viewN x]) rfl) ?_ nd)
    refine jss_cons (js_set (i := 7) (J.to (j_split (j_call cLh hr (ja_cons (j_lst ja_nil) (ja_cons (j_ix (jv 6 rfl) j_int (ixd_T (i := 1) (d := .int (b : Int)) rfl)) (ja_cons (jv 4 rfl) (ja_cons (jv 5 rfl) ja_nil)))) ⟨b, mo, x, rfl, gh0.ok, rfl⟩ (fun _ h => h)) (ja_cons j_str ja_nil) spc.1 (le_size (by omega))) (d' := .lst ((hwords 0 b mo x).map D.str)) (by rw [head_split gh0])) ?_ nd)
    refine jss_cons (js_set (i := 8) (J.to (j_join (ys := hwords a b mo x) j_str (J.to (j_bin (j_lst (ja_cons (j_ix (jv 7 rfl) j_int (ixd_L (strs_at (by decide) (by omega)))) (ja_cons (jb_str T (ja_cons (j_ix (jv 6 rfl) j_int (ixd_T (i := 0) (d := .int (a : Int)) rfl)) ja_nil) (numT_log (Nat.lt_trans ha2 (by decide)))) ja_nil))) (J.to (j_sl (jv 7 rfl) (jo_some j_int) jo_none sld_L) (congrArg D.lst (strs_drop 2 (by omega)))) (od_addL (by rw [List.length_map, List.length_drop]; exact le_size (by simp only [List.length_cons, List.length_nil]; omega)))) (d' := .lst ((hwords a b mo x).map D.str)) (by rw [hwords_eq, hwords_eq]; rfl)) (join_words hw1 hw2 (by decide) (by decide) _ (by decide +kernel)) rfl) (d' := .str (hbody a b mo x)) rfl) ?_ nd)
    obtain ⟨bh, sh, bh2⟩ := sh_head gh
    have sh2 := sh_tup (sh_cons (sh_str (x := "keep") (by decide +kernel)) (sh_cons sh sh_nil))
    have cl : 10 * ("keep" : Str).length + 2 + (bh + (0 + 2) + 2) + 3 ≤ 16000000 := by rw [lits.2.2.1]; omega
    refine jss_cons (js_ifF (JT.to (jt_w (jw_or (jt_cm (j_call cHb hr (ja_cons (j_ix (jv 6 rfl) j_int (ixd_T (i := 0) (d := .int (a : Int)) rfl)) (ja_cons (j_ix (jv 6 rfl) j_int (ixd_T (i := 1) (d := .int (b : Int)) rfl)) (ja_cons (jv 4 rfl) (ja_cons (jv 5 rfl) ja_nil)))) ⟨a, b, mo, x, rfl, gh.ok, rfl⟩ (fun _ h => h)) (jv 8 rfl) cd_neS) (fun _ => jw_or1 (jt_cm (j_reprD 4 rfl hr.units hrp (ja_cons (J.to (j_call cRb hr (ja_cons (jv 8 rfl) ja_nil) ⟨_, rfl, hla, hoa, rfl⟩ (fun _ h => h)) (body_head gh)) ja_nil) sh2 rfl cl) (j_reprD 4 rfl hr.units hrp (ja_cons (j_tup (ja_cons j_str (ja_cons (jv 6 rfl) ja_nil))) ja_nil) sh2 rfl cl) cd_neS)))) (two_f _ _)) (jss_nil ?_))
    exact jss_nil ⟨_, _, _, _, rfl⟩
  · rintro _ ⟨o5, o6, o7, o8, rfl⟩
    exact ⟨_, rfl, _, _, _, _, rfl⟩
  rintro _ ⟨o5, o6, o7, o8, rfl⟩
  have jR : ∀ {ρ : Rho} {e : Expr}, True := fun {_ _} => trivial
  refine jss_mid (fun ρ => ∃ o9 : Option SV, ρ = [some (.fz (.scr sc)), some (.fz (.lst (ns.map D.int))), some (.fz (viewD v)), some (.fz (rowD r)), some (.fz (optN mo)), o5, o6, o7, o8, o9, none, none, none])
    (js_each (i := 9) [askE r, relE r] D.tup (fun k ρ => ∃ o9 : Option SV, ρ = [some (.fz (.scr sc)), some (.fz (.lst (ns.map D.int))), some (.fz (viewD v)), some (.fz (rowD r)), some (.fz (optN mo)), o5, o6, o7, o8, o9, none, none, none])
      (ji_list (J.to (j_lst (ja_cons (j_tup (ja_cons j_str (ja_cons (j_ix (jv 3 rfl) j_int (ixd_T (ds := rowL r) (i := 0) (d := .str r.key) rfl)) (ja_cons (j_ix (jv 3 rfl) j_int (ixd_T (ds := rowL r) (i := 1) (d := .str r.grp) rfl)) (ja_cons (j_ix (jv 3 rfl) j_int (ixd_T (ds := rowL r) (i := 2) (d := .int (r.cost : Int)) rfl)) (ja_cons (j_ix (jv 3 rfl) j_int (ixd_T (ds := rowL r) (i := 3) (d := .int (r.mom : Int)) rfl)) ja_nil)))))) (ja_cons (j_tup (ja_cons j_str (ja_cons (j_ix (jv 3 rfl) j_int (ixd_T (ds := rowL r) (i := 0) (d := .str r.key) rfl)) (ja_cons (j_ix (jv 3 rfl) j_int (ixd_T (ds := rowL r) (i := 3) (d := .int (r.mom : Int)) rfl)) ja_nil)))) ja_nil))) rfl)) nd ⟨none, rfl⟩ ?_ ?_) ?_
  · rintro k es _ hk ⟨o9, rfl⟩
    obtain ⟨he, ce, se, ce2⟩ : entD es = true ∧ ∃ c, shD 3 (.tup [.str "entry", .tup es]) = some c ∧ c ≤ 16000000 := by
      have hm := List.mem_of_getElem? hk
      simp only [List.mem_cons, List.not_mem_nil, or_false] at hm
      rcases hm with q | q <;> rw [q]
      · obtain ⟨b1, s1, b2⟩ := sh_ask (n := 1) gr.ok
        exact ⟨ent_ask gr.ok, sh_two (by decide +kernel) (by rw [lits.2.2.2.1]; decide) s1 b2⟩
      · obtain ⟨b1, s1, b2⟩ := sh_rel (n := 1) gr.ok
        exact ⟨ent_rel gr.ok, sh_two (by decide +kernel) (by rw [lits.2.2.2.1]; decide) s1 b2⟩
    obtain ⟨e1, e2, e3⟩ := ent_words he
    have hll := ln_len he
    refine jss_cons (js_ifF (JT.to (jt_cm (j_reprD 3 rfl hr.units hrp (ja_cons (J.to (j_call cRb hr (ja_cons (j_join j_str (J.to (j_lcM (own := [("part", 11)]) (i := 11) es (fun d => d) (fun d => D.str (ptS d)) (by rw [List.map_id']; exact ji_tup (jv 9 rfl)) (blkOk_by (N := nLaw) (sc := defScope sLaw) (by decide +kernel)) (fun _ _ _ _ _ => pg_name nd rfl (Or.inl rfl)) (lt_size (by omega)) (fun d hd s H C cl fp => j_part T (e1 d hd) (jv 11 rfl)) nd) (show _ = D.lst ((wds es).map D.str) from by unfold wds; rw [List.map_map]; rfl)) (ln_join he) rfl) ja_nil) ⟨lnE es, rfl, by omega, ln_ok he, rfl⟩ (fun _ h => h)) (body_entry he)) ja_nil) se rfl ce2) (j_reprD 3 rfl hr.units hrp (ja_cons (j_tup (ja_cons j_str (ja_cons (jv 9 rfl) ja_nil))) ja_nil) se rfl ce2) cd_neS) (one_f _)) (jss_nil ?_))
    exact jss_nil ⟨_, rfl⟩
  · rintro _ ⟨o9, rfl⟩
    exact ⟨_, rfl, _, rfl⟩
  rintro _ ⟨o9, rfl⟩
  have h33 := hx 33 (by omega)
  obtain ⟨dz, hdz, hmz⟩ := atI_mem (L := [D.str (vbody v), D.str (rbody r)]) (i := ns.getD (33 : Int).toNat 0 % 2) (by omega) (by simp only [List.length_cons, List.length_nil]; omega)
  obtain ⟨ws, rfl, Sp, hzl⟩ : ∃ ws, dz = .str (Txt.join " " ws) ∧ Spo ws ∧ (Txt.join " " ws).length ≤ 880 := by
    simp only [List.mem_cons, List.not_mem_nil, or_false] at hmz
    rcases hmz with h | h
    · refine ⟨vall v, h, spo_view gv, ?_⟩
      have h1 := sum_le vall20
      have h3 := join_len " " (vall v)
      have h4 : (vall v).length ≤ 23 := by unfold vall; rw [List.length_cons]; omega
      have h2 := Nat.mul_le_mul_right 20 h4
      rw [show (" " : Str).length = 1 from by decide +kernel] at h3
      omega
    · exact ⟨rwords r, h, spo_row gr.ok, rl⟩
  refine jss_cons (js_set (i := 7) (j_ix (j_tup (ja_cons (j_call cLv hr (ja_cons (jv 2 rfl) ja_nil) gVv (fun _ h => h)) (ja_cons (j_call cLr hr (ja_cons (jv 3 rfl) ja_nil) gRr' (fun _ h => h)) ja_nil))) (j_bin (jb_int T (ja_cons (j_ix (jv 1 rfl) j_int (ixd_I (by omega) (by omega))) ja_nil)) j_int (od_modI (by decide))) (ixd_T hdz)) ?_ nd)
  have hall := spoilt_all Sp
  generalize Txt.join " " ws = z at hzl hall
  have l1 : (" " : Str).length = 1 ∧ ("  " : Str).length = 2 ∧ (" x-" : Str).length = 3 ∧ ("\n" : Str).length = 1 := by decide +kernel
  refine jss_cons (js_set (i := 10) (J.to (j_lstB (jv 7 rfl) (le_size (by rw [l1.1]; omega)) (ja1_cons (jt1_of (j_bin j_str (jv 7 rfl) (od_addS (le_size (by rw [l1.1]; omega))))) (ja1_cons (jt1_rep (jv 7 rfl) (by decide +kernel) (by rw [l1.2.1]; omega)) (ja1_cons (jt1_of (j_bin (jv 7 rfl) j_str (od_addS (le_size (by rw [l1.2.2.1]; omega))))) (ja1_cons (jt1_of (j_bin (jv 7 rfl) j_str (od_addS (le_size (by rw [l1.2.2.2]; omega))))) ja1_nil))))) (d' := .lst ((spoiltL z).map D.str)) rfl) ?_ nd)
  have hall2 : ∀ y ∈ wrongs ++ spoiltL z, (y.length ≤ 900 ∧ PySem.PyData.strOk y = true) ∧ isNon (bodyO y) = true := fun y hy => by
    rcases List.mem_append.mp hy with q | q
    · exact wrong_all y q
    · have := hall y q
      exact ⟨⟨by have := this.len; omega, this.ok⟩, this.non⟩
  have hwl : (wrongs ++ spoiltL z).length = 69 := by rw [List.length_append]; rfl
  refine jss_cons (js_ret (J.to (jb_all T (bs := (wrongs ++ spoiltL z).map fun y => isNon (bodyO y)) (ja_cons (J.to (j_lcM (own := [("other", 12)]) (i := 12) (wrongs ++ spoiltL z) D.str (fun y => D.bl (isNon (bodyO y))) (ji_list (J.to (j_bin (j_call0 cWr hr ⟨rfl, rfl⟩ (fun _ h => h)) (jv 10 rfl) (od_addL (by rw [List.length_map, List.length_map, ← List.length_append, hwl]; exact le_size (by decide)))) (by rw [List.map_append]))) (blkOk_by (N := nLaw) (sc := defScope sLaw) (by decide +kernel)) (fun _ _ _ _ _ => pg_name nd rfl (Or.inl rfl)) (lt_size (by omega))
    (fun y hy s H C cl fp => j_cm (j_call cRb hr (ja_cons (jv 12 rfl) ja_nil) ⟨y, rfl, (hall2 y hy).1.1, (hall2 y hy).1.2, rfl⟩ (fun _ h => h)) j_non cd_isN) nd) (by rw [List.map_map]; rfl)) ja_nil)) (d' := .bl true) ?_) rfl)
  refine congrArg D.bl ?_
  rw [List.all_map, List.all_eq_true]
  exact fun y hy => (hall2 y hy).2
end
end Toy

namespace Toy
open PySem PyProof.Rows L2 Pf
def spLaw (K : PySem.W.Frag) : Sp := fun args H Q _ =>
  ∃ (ns : List Int) (a : Addr), args = [.ref a] ∧ ns.length ≤ 63 ∧ SqL K H a (ns.map V.int) ∧ (∀ H', Q (.bl true) H')
theorem law_of {K : PySem.W.Frag} (vs : List V) (H : Hp) (Q : VK) (E : XK) (h : spLaw K vs H Q E) : spP K 1 gLaw vs H Q E := by
  obtain ⟨ns, a, rfl, hl, hS, q⟩ := h
  refine ⟨rfl, H, [.scr ns], _, .refl _, .cons (.scr hS) .nil, ⟨ns, rfl, hl, rfl⟩, ?_⟩
  rintro _ rfl v W' H' _ r
  cases r
  exact q H'
theorem all_mk {l : PySem.W.OpenLaw} {w : World} {K : PySem.W.Frag} {h : Heap} {mg : Str → Option Value} {fa f0 f1 f2 f3 f4 f5 f6 f7 f8 f9 f10 f11 f12 f13 f14 f15 f16 f17 f18 f19 f20 f21 f22 f23 f24 f25 f26 f27 f28 f29 f30 f31 : Addr} (X : K.In h) (G : h.Ns mainGlobals mg) (hfa : mg "law" = some (.ref fa))
    {tg0 tg1 tg2 tg3 tg4 tg5 tg6 tg7 tg8 tg9 tg10 tg11 tg12 tg13 : Tok}
    (a0 : PySem.W.nsIn K mainGlobals "is_name" = some (some (.ref f0)))
    (q0 : HX.FnIn K f0 "is_name" "is_name" sName)
    (a1 : PySem.W.nsIn K mainGlobals "is_key" = some (some (.ref f1)))
    (q1 : HX.FnIn K f1 "is_key" "is_key" sKey)
    (a2 : PySem.W.nsIn K mainGlobals "is_within" = some (some (.ref f2)))
    (q2 : HX.FnIn K f2 "is_within" "is_within" sIn)
    (a3 : PySem.W.nsIn K mainGlobals "is_moment" = some (some (.ref f3)))
    (q3 : HX.FnIn K f3 "is_moment" "is_moment" sMo)
    (a4 : PySem.W.nsIn K mainGlobals "is_request" = some (some (.ref f4)))
    (q4 : HX.FnIn K f4 "is_request" "is_request" sRq)
    (a5 : PySem.W.nsIn K mainGlobals "is_entry" = some (some (.ref f5)))
    (q5 : HX.FnIn K f5 "is_entry" "is_entry" sEnt)
    (a6 : PySem.W.nsIn K mainGlobals "is_ascending" = some (some (.ref f6)))
    (q6 : HX.FnIn K f6 "is_ascending" "is_ascending" sAs)
    (a7 : PySem.W.nsIn K mainGlobals "parse_number" = some (some (.ref f7)))
    (q7 : HX.FnIn K f7 "parse_number" "parse_number" sNum)
    (a8 : PySem.W.nsIn K mainGlobals "parse_entry" = some (some (.ref f8)))
    (q8 : HX.FnIn K f8 "parse_entry" "parse_entry" sPe)
    (a9 : PySem.W.nsIn K mainGlobals "word_for" = some (some (.ref f9)))
    (q9 : HX.FnIn K f9 "word_for" "word_for" sWf)
    (a10 : PySem.W.nsIn K mainGlobals "view_words" = some (some (.ref f10)))
    (q10 : HX.FnIn K f10 "view_words" "view_words" sVw)
    (a11 : PySem.W.nsIn K mainGlobals "view_body" = some (some (.ref f11)))
    (q11 : HX.FnIn K f11 "view_body" "view_body" sVb)
    (a12 : PySem.W.nsIn K mainGlobals "row_body" = some (some (.ref f12)))
    (q12 : HX.FnIn K f12 "row_body" "row_body" sRo)
    (a13 : PySem.W.nsIn K mainGlobals "head_body" = some (some (.ref f13)))
    (q13 : HX.FnIn K f13 "head_body" "head_body" sHb)
    (a14 : PySem.W.nsIn K mainGlobals "is_count" = some (some (.ref f14)))
    (q14 : HX.FnIn K f14 "is_count" "is_count" sCt)
    (a15 : PySem.W.nsIn K mainGlobals "is_view" = some (some (.ref f15)))
    (q15 : HX.FnIn K f15 "is_view" "is_view" sIv)
    (a16 : PySem.W.nsIn K mainGlobals "read_view" = some (some (.ref f16)))
    (q16 : HX.FnIn K f16 "read_view" "read_view" sRv)
    (a17 : PySem.W.nsIn K mainGlobals "read_head" = some (some (.ref f17)))
    (q17 : HX.FnIn K f17 "read_head" "read_head" sRh)
    (a18 : PySem.W.nsIn K mainGlobals "read_decision" = some (some (.ref f18)))
    (q18 : HX.FnIn K f18 "read_decision" "read_decision" sRd)
    (a19 : PySem.W.nsIn K mainGlobals "read_row" = some (some (.ref f19)))
    (q19 : HX.FnIn K f19 "read_row" "read_row" sRr)
    (a20 : PySem.W.nsIn K mainGlobals "read_body" = some (some (.ref f20)))
    (q20 : HX.FnIn K f20 "read_body" "read_body" sRb)
    (a21 : PySem.W.nsIn K mainGlobals "_law_row" = some (some (.ref f21)))
    (q21 : HX.FnIn K f21 "_law_row" "_law_row" sRow)
    (a22 : PySem.W.nsIn K mainGlobals "_law_numbers" = some (some (.ref f22)))
    (q22 : HX.FnIn K f22 "_law_numbers" "_law_numbers" sNumbers)
    (a23 : PySem.W.nsIn K mainGlobals "_law_row_body" = some (some (.ref f23)))
    (q23 : HX.FnIn K f23 "_law_row_body" "_law_row_body" sLr)
    (a24 : PySem.W.nsIn K mainGlobals "_law_head_body" = some (some (.ref f24)))
    (q24 : HX.FnIn K f24 "_law_head_body" "_law_head_body" sLh)
    (a25 : PySem.W.nsIn K mainGlobals "_law_view_words" = some (some (.ref f25)))
    (q25 : HX.FnIn K f25 "_law_view_words" "_law_view_words" sLw)
    (a26 : PySem.W.nsIn K mainGlobals "_law_view_body" = some (some (.ref f26)))
    (q26 : HX.FnIn K f26 "_law_view_body" "_law_view_body" sLv)
    (a27 : PySem.W.nsIn K mainGlobals "_law_names" = some (some (.ref f27)))
    (q27 : HX.FnIn K f27 "_law_names" "_law_names" sNm)
    (a28 : PySem.W.nsIn K mainGlobals "_law_view" = some (some (.ref f28)))
    (q28 : HX.FnIn K f28 "_law_view" "_law_view" sVi)
    (a29 : PySem.W.nsIn K mainGlobals "_law_keeper_row" = some (some (.ref f29)))
    (q29 : HX.FnIn K f29 "_law_keeper_row" "_law_keeper_row" sKr)
    (a30 : PySem.W.nsIn K mainGlobals "_law_wrong_bodies" = some (some (.ref f30)))
    (q30 : HX.FnIn K f30 "_law_wrong_bodies" "_law_wrong_bodies" sWr)
    (a31 : PySem.W.nsIn K mainGlobals "law" = some (some (.ref f31)))
    (q31 : HX.FnIn K f31 "law" "law" sLaw)
    (z0 : PySem.W.nsIn K mainGlobals "len" = some none)
    (z1 : PySem.W.nsIn K mainGlobals "int" = some none)
    (z2 : PySem.W.nsIn K mainGlobals "abs" = some none)
    (z3 : PySem.W.nsIn K mainGlobals "range" = some none)
    (z4 : PySem.W.nsIn K mainGlobals "tuple" = some none)
    (z5 : PySem.W.nsIn K mainGlobals "list" = some none)
    (z6 : PySem.W.nsIn K mainGlobals "sorted" = some none)
    (z7 : PySem.W.nsIn K mainGlobals "set" = some none)
    (z8 : PySem.W.nsIn K mainGlobals "isinstance" = some none)
    (z9 : PySem.W.nsIn K mainGlobals "bool" = some none)
    (z10 : PySem.W.nsIn K mainGlobals "min" = some none)
    (z11 : PySem.W.nsIn K mainGlobals "max" = some none)
    (z12 : PySem.W.nsIn K mainGlobals "sum" = some none)
    (z13 : PySem.W.nsIn K mainGlobals "all" = some none)
    (z14 : PySem.W.nsIn K mainGlobals "any" = some none)
    (z15 : PySem.W.nsIn K mainGlobals "str" = some none)
    (z16 : PySem.W.nsIn K mainGlobals "zip" = some none)
    (z17 : PySem.W.nsIn K mainGlobals "enumerate" = some none)
    (zg0 : PySem.W.nsIn K mainGlobals "NAME_SIGNS" = some (some (.str "abcdefghijklmnopqrstuvwxyz0123456789" tg0)))
    (zg1 : PySem.W.nsIn K mainGlobals "KEY_SIGNS" = some (some (.str "abcdefghijklmnopqrstuvwxyz0123456789-" tg1)))
    (zg2 : PySem.W.nsIn K mainGlobals "GREATEST_MOMENT" = some (some (.int 1000000000 tg2)))
    (zg3 : PySem.W.nsIn K mainGlobals "GREATEST_COST" = some (some (.int 1000 tg3)))
    (zg4 : PySem.W.nsIn K mainGlobals "DIGITS" = some (some (.str "0123456789" tg4)))
    (zg5 : PySem.W.nsIn K mainGlobals "NUMBER_DIGITS" = some (some (.int 7 tg5)))
    (zg6 : PySem.W.nsIn K mainGlobals "MOMENT_DIGITS" = some (some (.int 10 tg6)))
    (zg7 : PySem.W.nsIn K mainGlobals "NONE" = some (some (.str "none" tg7)))
    (zg8 : PySem.W.nsIn K mainGlobals "NEVER" = some (some (.str "never" tg8)))
    (zg9 : PySem.W.nsIn K mainGlobals "GREATEST_COUNT" = some (some (.int 999999 tg9)))
    (zg10 : PySem.W.nsIn K mainGlobals "COUNT_DIGITS" = some (some (.int 6 tg10)))
    (zg11 : PySem.W.nsIn K mainGlobals "COST_DIGITS" = some (some (.int 4 tg11)))
    (zg12 : PySem.W.nsIn K mainGlobals "EARLIEST_DIGITS" = some (some (.int 12 tg12)))
    (zg13 : PySem.W.nsIn K mainGlobals "MOST_NAMES" = some (some (.int 8 tg13)))
    (zrep : PySem.W.nsIn K mainGlobals "repr" = some none) :
    ∃ fn : FuncData, (∀ (s : Shared) (v : Value), BindsTo s fn ⟨[v], []⟩ [("script", v)]) ∧ ∀ base : Heap, K.In base → base.Ns mainGlobals mg → FnG l.prog w K mg base 7 fa fn ["script"] (spLaw K) := by
  obtain ⟨oc0, od0, kV0, dc0, pm0, an0, cd0, ct0, sl0, l0, c0, k0⟩ := q0
  obtain ⟨oc1, od1, kV1, dc1, pm1, an1, cd1, ct1, sl1, l1, c1, k1⟩ := q1
  obtain ⟨oc2, od2, kV2, dc2, pm2, an2, cd2, ct2, sl2, l2, c2, k2⟩ := q2
  obtain ⟨oc3, od3, kV3, dc3, pm3, an3, cd3, ct3, sl3, l3, c3, k3⟩ := q3
  obtain ⟨oc4, od4, kV4, dc4, pm4, an4, cd4, ct4, sl4, l4, c4, k4⟩ := q4
  obtain ⟨oc5, od5, kV5, dc5, pm5, an5, cd5, ct5, sl5, l5, c5, k5⟩ := q5
  obtain ⟨oc6, od6, kV6, dc6, pm6, an6, cd6, ct6, sl6, l6, c6, k6⟩ := q6
  obtain ⟨oc7, od7, kV7, dc7, pm7, an7, cd7, ct7, sl7, l7, c7, k7⟩ := q7
  obtain ⟨oc8, od8, kV8, dc8, pm8, an8, cd8, ct8, sl8, l8, c8, k8⟩ := q8
  obtain ⟨oc9, od9, kV9, dc9, pm9, an9, cd9, ct9, sl9, l9, c9, k9⟩ := q9
  obtain ⟨oc10, od10, kV10, dc10, pm10, an10, cd10, ct10, sl10, l10, c10, k10⟩ := q10
  obtain ⟨oc11, od11, kV11, dc11, pm11, an11, cd11, ct11, sl11, l11, c11, k11⟩ := q11
  obtain ⟨oc12, od12, kV12, dc12, pm12, an12, cd12, ct12, sl12, l12, c12, k12⟩ := q12
  obtain ⟨oc13, od13, kV13, dc13, pm13, an13, cd13, ct13, sl13, l13, c13, k13⟩ := q13
  obtain ⟨oc14, od14, kV14, dc14, pm14, an14, cd14, ct14, sl14, l14, c14, k14⟩ := q14
  obtain ⟨oc15, od15, kV15, dc15, pm15, an15, cd15, ct15, sl15, l15, c15, k15⟩ := q15
  obtain ⟨oc16, od16, kV16, dc16, pm16, an16, cd16, ct16, sl16, l16, c16, k16⟩ := q16
  obtain ⟨oc17, od17, kV17, dc17, pm17, an17, cd17, ct17, sl17, l17, c17, k17⟩ := q17
  obtain ⟨oc18, od18, kV18, dc18, pm18, an18, cd18, ct18, sl18, l18, c18, k18⟩ := q18
  obtain ⟨oc19, od19, kV19, dc19, pm19, an19, cd19, ct19, sl19, l19, c19, k19⟩ := q19
  obtain ⟨oc20, od20, kV20, dc20, pm20, an20, cd20, ct20, sl20, l20, c20, k20⟩ := q20
  obtain ⟨oc21, od21, kV21, dc21, pm21, an21, cd21, ct21, sl21, l21, c21, k21⟩ := q21
  obtain ⟨oc22, od22, kV22, dc22, pm22, an22, cd22, ct22, sl22, l22, c22, k22⟩ := q22
  obtain ⟨oc23, od23, kV23, dc23, pm23, an23, cd23, ct23, sl23, l23, c23, k23⟩ := q23
  obtain ⟨oc24, od24, kV24, dc24, pm24, an24, cd24, ct24, sl24, l24, c24, k24⟩ := q24
  obtain ⟨oc25, od25, kV25, dc25, pm25, an25, cd25, ct25, sl25, l25, c25, k25⟩ := q25
  obtain ⟨oc26, od26, kV26, dc26, pm26, an26, cd26, ct26, sl26, l26, c26, k26⟩ := q26
  obtain ⟨oc27, od27, kV27, dc27, pm27, an27, cd27, ct27, sl27, l27, c27, k27⟩ := q27
  obtain ⟨oc28, od28, kV28, dc28, pm28, an28, cd28, ct28, sl28, l28, c28, k28⟩ := q28
  obtain ⟨oc29, od29, kV29, dc29, pm29, an29, cd29, ct29, sl29, l29, c29, k29⟩ := q29
  obtain ⟨oc30, od30, kV30, dc30, pm30, an30, cd30, ct30, sl30, l30, c30, k30⟩ := q30
  obtain ⟨oc31, od31, kV31, dc31, pm31, an31, cd31, ct31, sl31, l31, c31, k31⟩ := q31
  have e := hfa.symm.trans (PySem.W.mg_of X G a31)
  cases e
  have T : Bt mg := ⟨PySem.W.mg_none_of X G z0, PySem.W.mg_none_of X G z1, PySem.W.mg_none_of X G z2, PySem.W.mg_none_of X G z3, PySem.W.mg_none_of X G z4, PySem.W.mg_none_of X G z5, PySem.W.mg_none_of X G z6, PySem.W.mg_none_of X G z7, PySem.W.mg_none_of X G z8, PySem.W.mg_none_of X G z9, PySem.W.mg_none_of X G z10, PySem.W.mg_none_of X G z11, PySem.W.mg_none_of X G z12, PySem.W.mg_none_of X G z13, PySem.W.mg_none_of X G z14, PySem.W.mg_none_of X G z15, PySem.W.mg_none_of X G z16, PySem.W.mg_none_of X G z17⟩
  have F0 := fun_mk (st := sName) l0 c0 k0
  have b0 := F0.binds (ps := ["text"]) fun _ _ _ _ _ _ us hl => match us, hl with | [_], _ => rfl
  have F1 := fun_mk (st := sKey) l1 c1 k1
  have b1 := F1.binds (ps := ["text"]) fun _ _ _ _ _ _ us hl => match us, hl with | [_], _ => rfl
  have F2 := fun_mk (st := sIn) l2 c2 k2
  have b2 := F2.binds (ps := ["number", "least", "greatest"]) fun _ _ _ _ _ _ us hl => match us, hl with | [_, _, _], _ => rfl
  have F3 := fun_mk (st := sMo) l3 c3 k3
  have b3 := F3.binds (ps := ["moment"]) fun _ _ _ _ _ _ us hl => match us, hl with | [_], _ => rfl
  have F4 := fun_mk (st := sRq) l4 c4 k4
  have b4 := F4.binds (ps := ["key", "group", "cost"]) fun _ _ _ _ _ _ us hl => match us, hl with | [_, _, _], _ => rfl
  have F5 := fun_mk (st := sEnt) l5 c5 k5
  have b5 := F5.binds (ps := ["entry"]) fun _ _ _ _ _ _ us hl => match us, hl with | [_], _ => rfl
  have F6 := fun_mk (st := sAs) l6 c6 k6
  have b6 := F6.binds (ps := ["names"]) fun _ _ _ _ _ _ us hl => match us, hl with | [_], _ => rfl
  have F7 := fun_mk (st := sNum) l7 c7 k7
  have b7 := F7.binds (ps := ["word", "digits"]) fun _ _ _ _ _ _ us hl => match us, hl with | [_, _], _ => rfl
  have F8 := fun_mk (st := sPe) l8 c8 k8
  have b8 := F8.binds (ps := ["line"]) fun _ _ _ _ _ _ us hl => match us, hl with | [_], _ => rfl
  have F9 := fun_mk (st := sWf) l9 c9 k9
  have b9 := F9.binds (ps := ["number", "absent"]) fun _ _ _ _ _ _ us hl => match us, hl with | [_, _], _ => rfl
  have F10 := fun_mk (st := sVw) l10 c10 k10
  have b10 := F10.binds (ps := ["view"]) fun _ _ _ _ _ _ us hl => match us, hl with | [_], _ => rfl
  have F11 := fun_mk (st := sVb) l11 c11 k11
  have b11 := F11.binds (ps := ["view"]) fun _ _ _ _ _ _ us hl => match us, hl with | [_], _ => rfl
  have F12 := fun_mk (st := sRo) l12 c12 k12
  have b12 := F12.binds (ps := ["row"]) fun _ _ _ _ _ _ us hl => match us, hl with | [_], _ => rfl
  have F13 := fun_mk (st := sHb) l13 c13 k13
  have b13 := F13.binds (ps := ["many", "entries", "moment", "view"]) fun _ _ _ _ _ _ us hl => match us, hl with | [_, _, _, _], _ => rfl
  have F14 := fun_mk (st := sCt) l14 c14 k14
  have b14 := F14.binds (ps := ["number"]) fun _ _ _ _ _ _ us hl => match us, hl with | [_], _ => rfl
  have F15 := fun_mk (st := sIv) l15 c15 k15
  have b15 := F15.binds (ps := ["view"]) fun _ _ _ _ _ _ us hl => match us, hl with | [_], _ => rfl
  have F16 := fun_mk (st := sRv) l16 c16 k16
  have b16 := F16.binds (ps := ["words"]) fun _ _ _ _ _ _ us hl => match us, hl with | [_], _ => rfl
  have F17 := fun_mk (st := sRh) l17 c17 k17
  have b17 := F17.binds (ps := ["words"]) fun _ _ _ _ _ _ us hl => match us, hl with | [_], _ => rfl
  have F18 := fun_mk (st := sRd) l18 c18 k18
  have b18 := F18.binds (ps := ["words", "moment"]) fun _ _ _ _ _ _ us hl => match us, hl with | [_, _], _ => rfl
  have F19 := fun_mk (st := sRr) l19 c19 k19
  have b19 := F19.binds (ps := ["words"]) fun _ _ _ _ _ _ us hl => match us, hl with | [_], _ => rfl
  have F20 := fun_mk (st := sRb) l20 c20 k20
  have b20 := F20.binds (ps := ["body"]) fun _ _ _ _ _ _ us hl => match us, hl with | [_], _ => rfl
  have F21 := fun_mk (st := sRow) l21 c21 k21
  have b21 := F21.binds (ps := ["cell", "many"]) fun _ _ _ _ _ _ us hl => match us, hl with | [_, _], _ => rfl
  have F22 := fun_mk (st := sNumbers) l22 c22 k22
  have b22 := F22.binds (ps := ["script", "many"]) fun _ _ _ _ _ _ us hl => match us, hl with | [_, _], _ => rfl
  have F23 := fun_mk (st := sLr) l23 c23 k23
  have b23 := F23.binds (ps := ["row"]) fun _ _ _ _ _ _ us hl => match us, hl with | [_], _ => rfl
  have F24 := fun_mk (st := sLh) l24 c24 k24
  have b24 := F24.binds (ps := ["rows", "entries", "moment", "view"]) fun _ _ _ _ _ _ us hl => match us, hl with | [_, _, _, _], _ => rfl
  have F25 := fun_mk (st := sLw) l25 c25 k25
  have b25 := F25.binds (ps := ["view"]) fun _ _ _ _ _ _ us hl => match us, hl with | [_], _ => rfl
  have F26 := fun_mk (st := sLv) l26 c26 k26
  have b26 := F26.binds (ps := ["view"]) fun _ _ _ _ _ _ us hl => match us, hl with | [_], _ => rfl
  have F27 := fun_mk (st := sNm) l27 c27 k27
  have b27 := F27.binds (ps := ["numbers", "at", "many"]) fun _ _ _ _ _ _ us hl => match us, hl with | [_, _, _], _ => rfl
  have F28 := fun_mk (st := sVi) l28 c28 k28
  have b28 := F28.binds (ps := ["numbers", "at"]) fun _ _ _ _ _ _ us hl => match us, hl with | [_, _], _ => rfl
  have F29 := fun_mk (st := sKr) l29 c29 k29
  have b29 := F29.binds (ps := ["numbers", "at"]) fun _ _ _ _ _ _ us hl => match us, hl with | [_, _], _ => rfl
  have F30 := fun_mk (st := sWr) l30 c30 k30
  have b30 := F30.binds (ps := []) fun _ _ _ _ _ _ us hl => match us, hl with | [], _ => rfl
  have F31 := fun_mk (st := sLaw) l31 c31 k31
  have m0 := PySem.W.mg_of X G a0
  have m1 := PySem.W.mg_of X G a1
  have m2 := PySem.W.mg_of X G a2
  have m3 := PySem.W.mg_of X G a3
  have m4 := PySem.W.mg_of X G a4
  have m5 := PySem.W.mg_of X G a5
  have m6 := PySem.W.mg_of X G a6
  have m7 := PySem.W.mg_of X G a7
  have m8 := PySem.W.mg_of X G a8
  have m9 := PySem.W.mg_of X G a9
  have m10 := PySem.W.mg_of X G a10
  have m11 := PySem.W.mg_of X G a11
  have m12 := PySem.W.mg_of X G a12
  have m13 := PySem.W.mg_of X G a13
  have m14 := PySem.W.mg_of X G a14
  have m15 := PySem.W.mg_of X G a15
  have m16 := PySem.W.mg_of X G a16
  have m17 := PySem.W.mg_of X G a17
  have m18 := PySem.W.mg_of X G a18
  have m19 := PySem.W.mg_of X G a19
  have m20 := PySem.W.mg_of X G a20
  have m21 := PySem.W.mg_of X G a21
  have m22 := PySem.W.mg_of X G a22
  have m23 := PySem.W.mg_of X G a23
  have m24 := PySem.W.mg_of X G a24
  have m25 := PySem.W.mg_of X G a25
  have m26 := PySem.W.mg_of X G a26
  have m27 := PySem.W.mg_of X G a27
  have m28 := PySem.W.mg_of X G a28
  have m29 := PySem.W.mg_of X G a29
  have m30 := PySem.W.mg_of X G a30
  have GB : Gb mg := ⟨⟨_, PySem.W.mg_of X G zg0⟩, ⟨_, PySem.W.mg_of X G zg1⟩, ⟨_, PySem.W.mg_of X G zg2⟩, ⟨_, PySem.W.mg_of X G zg3⟩⟩
  have GD : Gd mg := ⟨⟨_, PySem.W.mg_of X G zg4⟩, ⟨_, PySem.W.mg_of X G zg5⟩, ⟨_, PySem.W.mg_of X G zg6⟩⟩
  have GN : Gn mg := ⟨⟨_, PySem.W.mg_of X G zg7⟩, ⟨_, PySem.W.mg_of X G zg8⟩, ⟨_, PySem.W.mg_of X G zg9⟩, ⟨_, PySem.W.mg_of X G zg10⟩, ⟨_, PySem.W.mg_of X G zg11⟩, ⟨_, PySem.W.mg_of X G zg12⟩, ⟨_, PySem.W.mg_of X G zg13⟩⟩
  have HR : mg "repr" = none := PySem.W.mg_none_of X G zrep
  refine ⟨PySem.W.fnOf "law" "law" (defArgs sLaw) (defBody sLaw) (defScope sLaw) .none kV31 dc31 pm31 an31 cd31 ct31, fun s v => .of_eq rfl, fun base _ _ => ?_⟩
  have cNa : PFn l.prog w K mg base 1 "is_name" 1 gName := ⟨_, _, _, ok_name F0 T GB, m0, k0, b0⟩
  have cKe : PFn l.prog w K mg base 1 "is_key" 1 gKey := ⟨_, _, _, ok_key F1 T GB, m1, k1, b1⟩
  have cIn : PFn l.prog w K mg base 1 "is_within" 3 gIn := ⟨_, _, _, ok_in F2 T, m2, k2, b2⟩
  have cMo : PFn l.prog w K mg base 2 "is_moment" 1 gMo := ⟨_, _, _, ok_mo F3 GB cIn, m3, k3, b3⟩
  have cRq : PFn l.prog w K mg base 2 "is_request" 3 gRq := ⟨_, _, _, ok_rq F4 GB cNa cKe cIn, m4, k4, b4⟩
  have cEn : PFn l.prog w K mg base 3 "is_entry" 1 gEnt := ⟨_, _, _, ok_ent F5 T cKe cMo cRq, m5, k5, b5⟩
  have cAs : PFn l.prog w K mg base 1 "is_ascending" 1 gAsL := ⟨_, _, _, ok_asL F6 T, m6, k6, b6⟩
  have cNu : PFn l.prog w K mg base 1 "parse_number" 2 gNum := ⟨_, _, _, ok_num F7 T GD, m7, k7, b7⟩
  have cPe : PFn l.prog w K mg base 4 "parse_entry" 1 gPe := ⟨_, _, _, ok_pe F8 T GD cNu cEn, m8, k8, b8⟩
  have cWf : PFn l.prog w K mg base 1 "word_for" 2 gWf := ⟨_, _, _, ok_wf F9 T, m9, k9, b9⟩
  have cVw : PFn l.prog w K mg base 2 "view_words" 1 gVw := ⟨_, _, _, ok_vw F10 T GN cWf, m10, k10, b10⟩
  have cVb : PFn l.prog w K mg base 3 "view_body" 1 gVb := ⟨_, _, _, ok_vb F11 cVw, m11, k11, b11⟩
  have cRo : PFn l.prog w K mg base 2 "row_body" 1 gRo := ⟨_, _, _, ok_ro F12 T GN cWf, m12, k12, b12⟩
  have cHb : PFn l.prog w K mg base 3 "head_body" 4 gHb := ⟨_, _, _, ok_hb F13 T GN cWf cVw, m13, k13, b13⟩
  have cCt : PFn l.prog w K mg base 2 "is_count" 1 gCt := ⟨_, _, _, ok_ct F14 GN cIn, m14, k14, b14⟩
  have cIv : PFn l.prog w K mg base 3 "is_view" 1 gIv := ⟨_, _, _, ok_iv F15 T GN cCt cNa, m15, k15, b15⟩
  have cRv : PFn l.prog w K mg base 4 "read_view" 1 gRv := ⟨_, _, _, ok_rv F16 T GN cNu cIv, m16, k16, b16⟩
  have cRh : PFn l.prog w K mg base 5 "read_head" 1 gRh := ⟨_, _, _, ok_rh F17 T GN GD cNu cMo cRv, m17, k17, b17⟩
  have cRd : PFn l.prog w K mg base 2 "read_decision" 2 gRd := ⟨_, _, _, ok_rd F18 T GN cNu cNa cAs, m18, k18, b18⟩
  have cRr : PFn l.prog w K mg base 3 "read_row" 1 gRr := ⟨_, _, _, ok_rr F19 T GN GD cNu cRq cMo cRd, m19, k19, b19⟩
  have cRb : PFn l.prog w K mg base 6 "read_body" 1 gRb := ⟨_, _, _, ok_rb F20 cRv cRh cRr cPe, m20, k20, b20⟩
  have cRow : PFn l.prog w K mg base 1 "_law_row" 2 gRow := ⟨_, _, _, ok_row F21 T, m21, k21, b21⟩
  have cNum : PFn l.prog w K mg base 2 "_law_numbers" 2 gNumbers := ⟨_, _, _, ok_numbers F22 T cRow, m22, k22, b22⟩
  have cLr : PFn l.prog w K mg base 1 "_law_row_body" 1 gRo := ⟨_, _, _, ok_lr F23 T, m23, k23, b23⟩
  have cLw : PFn l.prog w K mg base 1 "_law_view_words" 1 gVw := ⟨_, _, _, ok_lw F25 T, m25, k25, b25⟩
  have cLv : PFn l.prog w K mg base 2 "_law_view_body" 1 gVb := ⟨_, _, _, ok_lv F26 cLw, m26, k26, b26⟩
  have cLh : PFn l.prog w K mg base 2 "_law_head_body" 4 gLh := ⟨_, _, _, ok_lh F24 T cLw, m24, k24, b24⟩
  have cNm : PFn l.prog w K mg base 1 "_law_names" 3 gNm := ⟨_, _, _, ok_nm F27 T, m27, k27, b27⟩
  have cVi : PFn l.prog w K mg base 2 "_law_view" 2 gVi := ⟨_, _, _, ok_vi F28 T cNm, m28, k28, b28⟩
  have cKr : PFn l.prog w K mg base 2 "_law_keeper_row" 2 gKr := ⟨_, _, _, ok_kr F29 T cNm, m29, k29, b29⟩
  have cWr : PFn l.prog w K mg base 1 "_law_wrong_bodies" 0 gWr := ⟨_, _, _, ok_wr F30, m30, k30, b30⟩
  have GO := ok_law F31 T HR cNum cVi cKr cVb cLv cRo cLr cHb cLh cRb cWr
  exact ⟨fun s H us vs Q hr en hb rv hl hs => GO.go s H us vs Q hr en hb rv hl (law_of (K := K) vs H Q _ hs)⟩
end Toy

open PySem.W PyProof.Rows PySem
set_option maxRecDepth 90000 in
set_option maxHeartbeats 0 in
theorem PySem.Challenge.cw_limitweave_k40_bodies_holds : PySem.Challenge.rw_limitweave_k40_bodies.Holds := by
  refine Hd.head ?_
  refine Pf.walk_g (l := PySem.Challenge.rw_limitweave_k40_bodies) (n := 63) (k := 7) (x := "script") rfl (by decide) (by kernel_rfl) ⟨rfl, by decide, by decide⟩ ?F
  intro w mg fa h Y G hmg0
  obtain ⟨K, KX, S⟩ := Y
  have hmg : mg ("law" : PySem.Str) = some (.ref fa) := by
    have e : (HandSHeadRun.topDef Hd.R.prog 49).name = ("law" : PySem.Str) := by kernel_rfl
    rw [← e]
    exact hmg0
  have a0 : PySem.W.nsIn K mainGlobals "is_name" = some (some (.ref (He.ga K "is_name"))) := of_decide_eq_true (S.b 0 0 rfl rfl)
  have q0 : HX.FnIn K (He.ga K "is_name") "is_name" "is_name" Toy.sName := S.fn 0 rfl rfl
  have a1 : PySem.W.nsIn K mainGlobals "is_key" = some (some (.ref (He.ga K "is_key"))) := of_decide_eq_true (S.b 0 1 rfl rfl)
  have q1 : HX.FnIn K (He.ga K "is_key") "is_key" "is_key" Toy.sKey := S.fn 1 rfl rfl
  have a2 : PySem.W.nsIn K mainGlobals "is_within" = some (some (.ref (He.ga K "is_within"))) := of_decide_eq_true (S.b 0 2 rfl rfl)
  have q2 : HX.FnIn K (He.ga K "is_within") "is_within" "is_within" Toy.sIn := S.fn 2 rfl rfl
  have a3 : PySem.W.nsIn K mainGlobals "is_moment" = some (some (.ref (He.ga K "is_moment"))) := of_decide_eq_true (S.b 0 3 rfl rfl)
  have q3 : HX.FnIn K (He.ga K "is_moment") "is_moment" "is_moment" Toy.sMo := S.fn 3 rfl rfl
  have a4 : PySem.W.nsIn K mainGlobals "is_request" = some (some (.ref (He.ga K "is_request"))) := of_decide_eq_true (S.b 0 4 rfl rfl)
  have q4 : HX.FnIn K (He.ga K "is_request") "is_request" "is_request" Toy.sRq := S.fn 4 rfl rfl
  have a5 : PySem.W.nsIn K mainGlobals "is_entry" = some (some (.ref (He.ga K "is_entry"))) := of_decide_eq_true (S.b 0 5 rfl rfl)
  have q5 : HX.FnIn K (He.ga K "is_entry") "is_entry" "is_entry" Toy.sEnt := S.fn 5 rfl rfl
  have a6 : PySem.W.nsIn K mainGlobals "is_ascending" = some (some (.ref (He.ga K "is_ascending"))) := of_decide_eq_true (S.b 0 6 rfl rfl)
  have q6 : HX.FnIn K (He.ga K "is_ascending") "is_ascending" "is_ascending" Toy.sAs := S.fn 6 rfl rfl
  have a7 : PySem.W.nsIn K mainGlobals "parse_number" = some (some (.ref (He.ga K "parse_number"))) := of_decide_eq_true (S.b 0 7 rfl rfl)
  have q7 : HX.FnIn K (He.ga K "parse_number") "parse_number" "parse_number" Toy.sNum := S.fn 7 rfl rfl
  have a8 : PySem.W.nsIn K mainGlobals "parse_entry" = some (some (.ref (He.ga K "parse_entry"))) := of_decide_eq_true (S.b 0 8 rfl rfl)
  have q8 : HX.FnIn K (He.ga K "parse_entry") "parse_entry" "parse_entry" Toy.sPe := S.fn 8 rfl rfl
  have a9 : PySem.W.nsIn K mainGlobals "word_for" = some (some (.ref (He.ga K "word_for"))) := of_decide_eq_true (S.b 0 9 rfl rfl)
  have q9 : HX.FnIn K (He.ga K "word_for") "word_for" "word_for" Toy.sWf := S.fn 9 rfl rfl
  have a10 : PySem.W.nsIn K mainGlobals "view_words" = some (some (.ref (He.ga K "view_words"))) := of_decide_eq_true (S.b 0 10 rfl rfl)
  have q10 : HX.FnIn K (He.ga K "view_words") "view_words" "view_words" Toy.sVw := S.fn 10 rfl rfl
  have a11 : PySem.W.nsIn K mainGlobals "view_body" = some (some (.ref (He.ga K "view_body"))) := of_decide_eq_true (S.b 0 11 rfl rfl)
  have q11 : HX.FnIn K (He.ga K "view_body") "view_body" "view_body" Toy.sVb := S.fn 11 rfl rfl
  have a12 : PySem.W.nsIn K mainGlobals "row_body" = some (some (.ref (He.ga K "row_body"))) := of_decide_eq_true (S.b 0 12 rfl rfl)
  have q12 : HX.FnIn K (He.ga K "row_body") "row_body" "row_body" Toy.sRo := S.fn 12 rfl rfl
  have a13 : PySem.W.nsIn K mainGlobals "head_body" = some (some (.ref (He.ga K "head_body"))) := of_decide_eq_true (S.b 0 13 rfl rfl)
  have q13 : HX.FnIn K (He.ga K "head_body") "head_body" "head_body" Toy.sHb := S.fn 13 rfl rfl
  have a14 : PySem.W.nsIn K mainGlobals "is_count" = some (some (.ref (He.ga K "is_count"))) := of_decide_eq_true (S.b 0 14 rfl rfl)
  have q14 : HX.FnIn K (He.ga K "is_count") "is_count" "is_count" Toy.sCt := S.fn 14 rfl rfl
  have a15 : PySem.W.nsIn K mainGlobals "is_view" = some (some (.ref (He.ga K "is_view"))) := of_decide_eq_true (S.b 0 15 rfl rfl)
  have q15 : HX.FnIn K (He.ga K "is_view") "is_view" "is_view" Toy.sIv := S.fn 15 rfl rfl
  have a16 : PySem.W.nsIn K mainGlobals "read_view" = some (some (.ref (He.ga K "read_view"))) := of_decide_eq_true (S.b 0 16 rfl rfl)
  have q16 : HX.FnIn K (He.ga K "read_view") "read_view" "read_view" Toy.sRv := S.fn 16 rfl rfl
  have a17 : PySem.W.nsIn K mainGlobals "read_head" = some (some (.ref (He.ga K "read_head"))) := of_decide_eq_true (S.b 0 17 rfl rfl)
  have q17 : HX.FnIn K (He.ga K "read_head") "read_head" "read_head" Toy.sRh := S.fn 17 rfl rfl
  have a18 : PySem.W.nsIn K mainGlobals "read_decision" = some (some (.ref (He.ga K "read_decision"))) := of_decide_eq_true (S.b 0 18 rfl rfl)
  have q18 : HX.FnIn K (He.ga K "read_decision") "read_decision" "read_decision" Toy.sRd := S.fn 18 rfl rfl
  have a19 : PySem.W.nsIn K mainGlobals "read_row" = some (some (.ref (He.ga K "read_row"))) := of_decide_eq_true (S.b 0 19 rfl rfl)
  have q19 : HX.FnIn K (He.ga K "read_row") "read_row" "read_row" Toy.sRr := S.fn 19 rfl rfl
  have a20 : PySem.W.nsIn K mainGlobals "read_body" = some (some (.ref (He.ga K "read_body"))) := of_decide_eq_true (S.b 0 20 rfl rfl)
  have q20 : HX.FnIn K (He.ga K "read_body") "read_body" "read_body" Toy.sRb := S.fn 20 rfl rfl
  have a21 : PySem.W.nsIn K mainGlobals "_law_row" = some (some (.ref (He.ga K "_law_row"))) := of_decide_eq_true (S.b 0 21 rfl rfl)
  have q21 : HX.FnIn K (He.ga K "_law_row") "_law_row" "_law_row" Toy.sRow := S.fn 21 rfl rfl
  have a22 : PySem.W.nsIn K mainGlobals "_law_numbers" = some (some (.ref (He.ga K "_law_numbers"))) := of_decide_eq_true (S.b 0 22 rfl rfl)
  have q22 : HX.FnIn K (He.ga K "_law_numbers") "_law_numbers" "_law_numbers" Toy.sNumbers := S.fn 22 rfl rfl
  have a23 : PySem.W.nsIn K mainGlobals "_law_row_body" = some (some (.ref (He.ga K "_law_row_body"))) := of_decide_eq_true (S.b 0 23 rfl rfl)
  have q23 : HX.FnIn K (He.ga K "_law_row_body") "_law_row_body" "_law_row_body" Toy.sLr := S.fn 23 rfl rfl
  have a24 : PySem.W.nsIn K mainGlobals "_law_head_body" = some (some (.ref (He.ga K "_law_head_body"))) := of_decide_eq_true (S.b 0 24 rfl rfl)
  have q24 : HX.FnIn K (He.ga K "_law_head_body") "_law_head_body" "_law_head_body" Toy.sLh := S.fn 24 rfl rfl
  have a25 : PySem.W.nsIn K mainGlobals "_law_view_words" = some (some (.ref (He.ga K "_law_view_words"))) := of_decide_eq_true (S.b 0 25 rfl rfl)
  have q25 : HX.FnIn K (He.ga K "_law_view_words") "_law_view_words" "_law_view_words" Toy.sLw := S.fn 25 rfl rfl
  have a26 : PySem.W.nsIn K mainGlobals "_law_view_body" = some (some (.ref (He.ga K "_law_view_body"))) := of_decide_eq_true (S.b 0 26 rfl rfl)
  have q26 : HX.FnIn K (He.ga K "_law_view_body") "_law_view_body" "_law_view_body" Toy.sLv := S.fn 26 rfl rfl
  have a27 : PySem.W.nsIn K mainGlobals "_law_names" = some (some (.ref (He.ga K "_law_names"))) := of_decide_eq_true (S.b 0 27 rfl rfl)
  have q27 : HX.FnIn K (He.ga K "_law_names") "_law_names" "_law_names" Toy.sNm := S.fn 27 rfl rfl
  have a28 : PySem.W.nsIn K mainGlobals "_law_view" = some (some (.ref (He.ga K "_law_view"))) := of_decide_eq_true (S.b 0 28 rfl rfl)
  have q28 : HX.FnIn K (He.ga K "_law_view") "_law_view" "_law_view" Toy.sVi := S.fn 28 rfl rfl
  have a29 : PySem.W.nsIn K mainGlobals "_law_keeper_row" = some (some (.ref (He.ga K "_law_keeper_row"))) := of_decide_eq_true (S.b 0 29 rfl rfl)
  have q29 : HX.FnIn K (He.ga K "_law_keeper_row") "_law_keeper_row" "_law_keeper_row" Toy.sKr := S.fn 29 rfl rfl
  have a30 : PySem.W.nsIn K mainGlobals "_law_wrong_bodies" = some (some (.ref (He.ga K "_law_wrong_bodies"))) := of_decide_eq_true (S.b 1 0 rfl rfl)
  have q30 : HX.FnIn K (He.ga K "_law_wrong_bodies") "_law_wrong_bodies" "_law_wrong_bodies" Toy.sWr := S.fn 30 rfl rfl
  have a31 : PySem.W.nsIn K mainGlobals "law" = some (some (.ref (He.ga K "law"))) := of_decide_eq_true (S.b 1 1 rfl rfl)
  have q31 : HX.FnIn K (He.ga K "law") "law" "law" Toy.sLaw := S.fn 31 rfl rfl
  have z0 : PySem.W.nsIn K mainGlobals "len" = some none := of_decide_eq_true (S.b 1 2 rfl rfl)
  have z1 : PySem.W.nsIn K mainGlobals "int" = some none := of_decide_eq_true (S.b 1 3 rfl rfl)
  have z2 : PySem.W.nsIn K mainGlobals "abs" = some none := of_decide_eq_true (S.b 1 4 rfl rfl)
  have z3 : PySem.W.nsIn K mainGlobals "range" = some none := of_decide_eq_true (S.b 1 5 rfl rfl)
  have z4 : PySem.W.nsIn K mainGlobals "tuple" = some none := of_decide_eq_true (S.b 1 6 rfl rfl)
  have z5 : PySem.W.nsIn K mainGlobals "list" = some none := of_decide_eq_true (S.b 1 7 rfl rfl)
  have z6 : PySem.W.nsIn K mainGlobals "sorted" = some none := of_decide_eq_true (S.b 1 8 rfl rfl)
  have z7 : PySem.W.nsIn K mainGlobals "set" = some none := of_decide_eq_true (S.b 1 9 rfl rfl)
  have z8 : PySem.W.nsIn K mainGlobals "isinstance" = some none := of_decide_eq_true (S.b 1 10 rfl rfl)
  have z9 : PySem.W.nsIn K mainGlobals "bool" = some none := of_decide_eq_true (S.b 1 11 rfl rfl)
  have z10 : PySem.W.nsIn K mainGlobals "min" = some none := of_decide_eq_true (S.b 1 12 rfl rfl)
  have z11 : PySem.W.nsIn K mainGlobals "max" = some none := of_decide_eq_true (S.b 1 13 rfl rfl)
  have z12 : PySem.W.nsIn K mainGlobals "sum" = some none := of_decide_eq_true (S.b 1 14 rfl rfl)
  have z13 : PySem.W.nsIn K mainGlobals "all" = some none := of_decide_eq_true (S.b 1 15 rfl rfl)
  have z14 : PySem.W.nsIn K mainGlobals "any" = some none := of_decide_eq_true (S.b 1 16 rfl rfl)
  have z15 : PySem.W.nsIn K mainGlobals "str" = some none := of_decide_eq_true (S.b 1 17 rfl rfl)
  have z16 : PySem.W.nsIn K mainGlobals "zip" = some none := of_decide_eq_true (S.b 1 18 rfl rfl)
  have z17 : PySem.W.nsIn K mainGlobals "enumerate" = some none := of_decide_eq_true (S.b 1 19 rfl rfl)
  have zg0 : PySem.W.nsIn K mainGlobals "NAME_SIGNS" = some (some (.str "abcdefghijklmnopqrstuvwxyz0123456789" (HX.tk K mainGlobals "NAME_SIGNS"))) := of_decide_eq_true (S.b 1 20 rfl rfl)
  have zg1 : PySem.W.nsIn K mainGlobals "KEY_SIGNS" = some (some (.str "abcdefghijklmnopqrstuvwxyz0123456789-" (HX.tk K mainGlobals "KEY_SIGNS"))) := of_decide_eq_true (S.b 1 21 rfl rfl)
  have zg2 : PySem.W.nsIn K mainGlobals "GREATEST_MOMENT" = some (some (.int 1000000000 (HX.tk K mainGlobals "GREATEST_MOMENT"))) := of_decide_eq_true (S.b 1 22 rfl rfl)
  have zg3 : PySem.W.nsIn K mainGlobals "GREATEST_COST" = some (some (.int 1000 (HX.tk K mainGlobals "GREATEST_COST"))) := of_decide_eq_true (S.b 1 23 rfl rfl)
  have zg4 : PySem.W.nsIn K mainGlobals "DIGITS" = some (some (.str "0123456789" (HX.tk K mainGlobals "DIGITS"))) := of_decide_eq_true (S.b 1 24 rfl rfl)
  have zg5 : PySem.W.nsIn K mainGlobals "NUMBER_DIGITS" = some (some (.int 7 (HX.tk K mainGlobals "NUMBER_DIGITS"))) := of_decide_eq_true (S.b 1 25 rfl rfl)
  have zg6 : PySem.W.nsIn K mainGlobals "MOMENT_DIGITS" = some (some (.int 10 (HX.tk K mainGlobals "MOMENT_DIGITS"))) := of_decide_eq_true (S.b 1 26 rfl rfl)
  have zg7 : PySem.W.nsIn K mainGlobals "NONE" = some (some (.str "none" (HX.tk K mainGlobals "NONE"))) := of_decide_eq_true (S.b 1 27 rfl rfl)
  have zg8 : PySem.W.nsIn K mainGlobals "NEVER" = some (some (.str "never" (HX.tk K mainGlobals "NEVER"))) := of_decide_eq_true (S.b 1 28 rfl rfl)
  have zg9 : PySem.W.nsIn K mainGlobals "GREATEST_COUNT" = some (some (.int 999999 (HX.tk K mainGlobals "GREATEST_COUNT"))) := of_decide_eq_true (S.b 1 29 rfl rfl)
  have zg10 : PySem.W.nsIn K mainGlobals "COUNT_DIGITS" = some (some (.int 6 (HX.tk K mainGlobals "COUNT_DIGITS"))) := of_decide_eq_true (S.b 2 0 rfl rfl)
  have zg11 : PySem.W.nsIn K mainGlobals "COST_DIGITS" = some (some (.int 4 (HX.tk K mainGlobals "COST_DIGITS"))) := of_decide_eq_true (S.b 2 1 rfl rfl)
  have zg12 : PySem.W.nsIn K mainGlobals "EARLIEST_DIGITS" = some (some (.int 12 (HX.tk K mainGlobals "EARLIEST_DIGITS"))) := of_decide_eq_true (S.b 2 2 rfl rfl)
  have zg13 : PySem.W.nsIn K mainGlobals "MOST_NAMES" = some (some (.int 8 (HX.tk K mainGlobals "MOST_NAMES"))) := of_decide_eq_true (S.b 2 3 rfl rfl)
  have zrep : PySem.W.nsIn K mainGlobals "repr" = some none := of_decide_eq_true (S.b 2 4 rfl rfl)
  obtain ⟨fn, hb, hF⟩ := Toy.all_mk (l := PySem.Challenge.rw_limitweave_k40_bodies) KX G hmg a0 q0 a1 q1 a2 q2 a3 q3 a4 q4 a5 q5 a6 q6 a7 q7 a8 q8 a9 q9 a10 q10 a11 q11 a12 q12 a13 q13 a14 q14 a15 q15 a16 q16 a17 q17 a18 q18 a19 q19 a20 q20 a21 q21 a22 q22 a23 q23 a24 q24 a25 q25 a26 q26 a27 q27 a28 q28 a29 q29 a30 q30 a31 q31 z0 z1 z2 z3 z4 z5 z6 z7 z8 z9 z10 z11 z12 z13 z14 z15 z16 z17 zg0 zg1 zg2 zg3 zg4 zg5 zg6 zg7 zg8 zg9 zg10 zg11 zg12 zg13 zrep
  exact ⟨K, fn, Toy.spLaw K, KX, hb, fun H a ns hl _ hS => ⟨ns, a, rfl, hl, hS, fun _ => rfl⟩, hF⟩


